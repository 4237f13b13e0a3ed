import Derived.Test.YteoijlfipmaoeaaGreatDoorPTreeN
set_option linter.unusedVariables false
set_option linter.unusedSimpArgs false
set_option maxRecDepth 100000
set_option maxHeartbeats 16000000
namespace Go.Proofs.YteoijlfipmaoeaaGreatDoor
open Lib (hid)
open Go.RowKit Trx
open Go.Proofs.Tryz
def Agr(S:Nat->Prop)(w w':World):Prop:=∀b o,S b->w'.cell? ⟨b,o,none⟩=w.cell? ⟨b,o,none⟩
def NewS(S:Nat->Prop)(w:World)(B:Nat)(A:Option Addr)(vs:List Value):Prop:=∀w',Agr S w w'->Sl w' B A vs
def NewF(S:Nat->Prop)(w:World)(B:Nat)(A:Option Addr)(f:Fo):Prop:=∀w',Agr S w w'->RdS w' B A f
def NewN(S:Nat->Prop)(w:World)(B:Nat)(i:In):Prop:=∀w',Agr S w w'->NdOk w' B i.n i.p
def Win(lo:Nat)(w:World):Nat->Prop:=λb=>lo<=b/\b<w.heap.size
section
variable{S S':Nat->Prop}{w w' w'':World}{B B':Nat}{A:Option Addr}{vs:List Value}{f:Fo}{i:In}
theorem Agr.refl_:Agr S w w:=λ_ _ _=>rfl
theorem Agr.trans(h:Agr S w w')(h2:Agr S w' w''):Agr S w w'':=λb o hb=>(h2 b o hb).trans (h b o hb)
theorem Agr.sub(h:Agr S' w w')(hs:∀b,S b->S' b):Agr S w w':=λb o hb=>h b o (hs b hb)
theorem NewS.move(h:NewS S w B A vs)(ha:Agr S w w')(hs:∀b,S b->S' b)(hB:B<=B'):NewS S' w' B' A vs:=λ_ hx=>(h _ (ha.trans (hx.sub hs))).more hB
theorem NewF.move(h:NewF S w B A f)(ha:Agr S w w')(hs:∀b,S b->S' b)(hB:B<=B'):NewF S' w' B' A f:=λ_ hx=>(h _ (ha.trans (hx.sub hs))).more hB
theorem NewN.move(h:NewN S w B i)(ha:Agr S w w')(hs:∀b,S b->S' b)(hB:B<=B'):NewN S' w' B' i:=λ_ hx=>(h _ (ha.trans (hx.sub hs))).more hB
theorem NewF.get(h:NewF S w B A f):RdS w B A f:=h w Agr.refl_
theorem agr_of_heap(h:∀b,S b->w'.heap[b]? =w.heap[b]?):Agr S w w':=λb o hb=>zm (h b hb)
theorem OwnK.newS{B:Nat}{w0 w:World}{e:TypeId}{A:Option Addr}{n c:Nat}{vs:List Value}(h:OwnK B w0 w e 1 (.slice A n c) (ones vs))(hS:∀g,(Value.slice A n c).ownBlock=some g->S g):NewS S w w.heap.size A vs:=by
 obtain⟨A',c',hv,-,-,hrow⟩:=h.formB (by omega)
 simp at hv
 obtain⟨rfl,rfl,rfl⟩:=hv
 intro w' ha hne
 obtain⟨g,hg,hA,hB,hlt,hc⟩:=hrow (λe=>hne (by
  have:=congrArg List.length e
  rw[ones_length,zh]at this
  exact zc this))
 refine⟨g,0,hA,hlt,λi hi=>?_⟩
 have:=hc i [vs[i]] (by simp[ones,zb hi]) 0 (by omega)
 rw[Nat.mul_one,qe]at this
 rw[qz,ha g i (hS g hg),this,zb hi]
 rfl
end
theorem In.one(i:In):∀u∈i.cells,u.oneCell'=true:=by
 intro u hu
 simp[In.cells,insC]at hu
 rcases hu with rfl|rfl|rfl|rfl|rfl|rfl|rfl|rfl|rfl<;>rfl
theorem elem_ins:ElemK prog 59 9 120:=ElemK.mk_ (z:=.agg #[.int .i64 0,.int .i64 0,.int .i64 0,.int .u64 0,.int .i64 0,.slice none 0 0,.slice none 0 0,.slice none 0 0,.bool false]) (by kernel_rfl) rfl
def CpS(lo:Nat)(w:World)(v:Value):Nat->Prop:=λb=>lo<=b/\b<w.heap.size/\v.ownBlock≠some b
def Tells(p:Prop)(w:World)(e:Ending)(w':World):Prop:=(∃b:Bool,e=.returned (.bool b)/\(b=true↔p))/\Below w.heap.size w w'
theorem Tells.mk_{p:Prop}{w w':World}(b:Bool)(h:b=true↔p)(hb:Below w.heap.size w w'):Tells p w (.returned (.bool b)) w':=⟨⟨b,rfl,h⟩,hb⟩
theorem bel_drewN(w:World)(n:Nat):Below w.heap.size w (w.drewN n):=⟨rfl,rfl,rfl,zq _,λ_ _=>rfl⟩
theorem eqInt_any(x y:IL)(w:World)(hx:x.ok w w.heap.size)(hy:y.ok w w.heap.size):
  Calls prog 147 #[.slice x.A x.zs.length x.c,.slice y.A y.zs.length y.c] w (Tells (x.zs=y.zs) w):=by
 have hm1:=zy hx.le hx.c
 have hm2:=zy hy.le hy.c
 unfold maxLen at hm1 hm2
 have H1:=hid hx.sl
 have H2:=hid hy.sl
 clear hx hy
 by_cases hl:x.zs.length=y.zs.length
 ·
  rw[<-hl]
  have tl:((x.zs.length:Int) != (x.zs.length:Int))=false:=by simp
  have HL:=hid hl
  clear hl
  go_enter func147,ntmps147
  go_wp2_with fail
  go_loopw [13] (λi wr=>∃(j n:Nat),j<=x.zs.length/\i=.int .i64 j/\wr=w.drewN n/\x.zs.take j=y.zs.take j) (λi _=>x.zs.length-(intOf i).toNat)
  case atStart=>exact⟨0,0,by omega,rfl,rfl,by simp⟩
  case round=>
   obtain⟨j,n,hj,rfl,rfl,heq⟩:=hrel
   have HE:=hid heq
   clear heq
   by_cases hlt:j<x.zs.length
   ·
    have hlt2:j<y.zs.length:=by have:=HL.out;omega
    obtain⟨b1,o1,hA1,hb1,hc1⟩:=H1.out (by intro e;have:=congrArg List.length e;rw[n64s_length,zh]at this;omega)
    obtain⟨b2,o2,hA2,hb2,hc2⟩:=H2.out (by intro e;have:=congrArg List.length e;rw[n64s_length,zh]at this;omega)
    have hg1:(n64s x.zs)[j]? =some (.int .i64 x.zs[j]):=by simp[n64s,hlt]
    have hg2:(n64s y.zs)[j]? =some (.int .i64 y.zs[j]):=by simp[n64s,hlt2]
    have q1:(w.drewN n).cell? ⟨b1,o1+j,none⟩=some (.int .i64 x.zs[j]):=(hc1 j (by simpa using hlt)).trans hg1
    have q2:(w.drewN n).cell? ⟨b2,o2+j,none⟩=some (.int .i64 y.zs[j]):=(hc2 j (by simpa using hlt2)).trans hg2
    have hs1:x.zs.take (j+1)=x.zs.take j++[x.zs[j]]:=by rw[qs,zb hlt];rfl
    have hs2:y.zs.take (j+1)=y.zs.take j++[y.zs[j]]:=by rw[qs,zb hlt2];rfl
    have hne:x.zs[j]≠y.zs[j]->x.zs≠y.zs:=λh e=>h (by simp[e])
    obtain⟨u,hu⟩:∃u,u=x.zs[j]:=⟨_,rfl⟩
    obtain⟨v,hv⟩:∃v,v=y.zs[j]:=⟨_,rfl⟩
    rw[<-hu]at q1 hs1 hne
    rw[<-hv]at q2 hs2 hne
    obtain⟨w0,hw0⟩:∃w0,w0=w.drewN n:=⟨_,rfl⟩
    have hb1':b1<w0.heap.size:=by rw[hw0];exact hb1
    have hb2':b2<w0.heap.size:=by rw[hw0];exact hb2
    rw[<-hw0]at q1 q2⊢
    rw[hA1,hA2]
    have HW:=hid hw0
    have HS1:=hid hs1
    have HS2:=hid hs2
    have HNE:=hid hne
    clear hu hv hc1 hc2 hg1 hg2 hw0 hs1 hs2 hne hA1 hA2
    by_cases huv:u=v
    ·
     subst huv
     have tz:(u != u)=false:=by simp
     go_wp2_with fail
     go_quiet (fail)
     go_wp2_with fail
     go_roundw
     case rel=>exact⟨j+1,n+nq,by omega,by go_num,by rw[HW.out,jl],by rw[HS1.out,HS2.out,HE.out]⟩
     case measure=>simp[intOf];omega
    ·
     have tz:(u != v)=true:=by simpa using huv
     have HUV:=hid huv
     clear huv
     go_wp2_with fail
     go_quiet (fail)
     go_wp2_with fail
     go_ret
     refine Tells.mk_ _ (by simp;exact HNE.out HUV.out) ?_
     rw[HW.out,jl];exact bel_drewN _ _
   ·
    have h1:=zo (l:=x.zs) (i:=j) (by omega)
    have h2:=zo (l:=y.zs) (i:=j) (by have:=HL.out;omega)
    have HF:=hid (show x.zs=y.zs by rw[<-h1,<-h2];exact HE.out)
    clear h1 h2
    go_wp2_with fail
    go_ret
    exact Tells.mk_ _ (by simp;exact HF.out) (bel_drewN _ _)
 ·
  have tl:((x.zs.length:Int) != (y.zs.length:Int))=true:=by simp;omega
  have hne:x.zs≠y.zs:=λe=>hl (by rw[e])
  have HNE:=hid hne
  clear hne
  go_enter func147,ntmps147
  go_wp2_with fail
  go_ret
  exact Tells.mk_ _ (by simp;exact HNE.out) (zx _ _)
theorem two_box{w w1:World}{c d:Array Value}{t u:TypeId}(h:Below ((w.alloc (.cells c t)).alloc (.cells d u)).heap.size ((w.alloc (.cells c t)).alloc (.cells d u)) w1):
  w.heap.size+1<w1.heap.size/\(∀i,w1.cell? ⟨w.heap.size,i,none⟩=c[i]?)/\(∀i,w1.cell? ⟨w.heap.size+1,i,none⟩=d[i]?)/\Below w.heap.size w w1:=by
 refine⟨by have:=h.size;simp at this;omega,λi=>?_,λi=>?_,(((zx _ _).alloc (zq _) _).alloc (by simp) _).trans (h.mono (by simp;omega))⟩
 ·rw[h.cell (p:=⟨w.heap.size,i,none⟩) (by simp;omega),jq _ _ _ (by simp),zv _ _ _ _ rfl]
 ·exact(h.cell (p:=⟨w.heap.size+1,i,none⟩) (by simp)).trans (zv _ _ _ _ (by simp))
theorem Nd.ext_{n m:Nd}:n=m↔n.op=m.op/\n.a=m.a/\n.b=m.b/\n.v=m.v/\n.t=m.t/\n.he=m.he/\n.L=m.L/\n.body=m.body/\n.els=m.els:=by
 cases n;cases m;simp only[Nd.mk.injEq];constructor<;>(rintro⟨h1,h2,h3,h4,h5,h6,h7,h8,h9⟩;simp_all)
theorem sameIns_any(i k:In)(w:World)(hi:i.ok w w.heap.size)(hk:k.ok w w.heap.size)
  (HB:∀w',Below w.heap.size w w'->Calls prog 148 #[.slice i.p.Ab (len i.n.body) i.p.cb,.slice k.p.Ab (len k.n.body) k.p.cb] w' (Tells (i.n.body=k.n.body) w'))
  (HE:∀w',Below w.heap.size w w'->Calls prog 148 #[.slice i.p.Ae (len i.n.els) i.p.ce,.slice k.p.Ae (len k.n.els) k.p.ce] w' (Tells (i.n.els=k.n.els) w')):
  Calls prog 149 #[inA i,inA k] w (Tells (i.n=k.n) w):=by
 have HI:=hid (λw' (h:Below w.heap.size w w')=>eqInt_any ⟨i.n.L,i.p.AL,i.p.cL⟩ ⟨k.n.L,k.p.AL,k.p.cL⟩ w'
  ⟨hi.nd.num.hL,hi.nd.num.cL,hi.light.L,hi.nd.num.L,(hi.nd.num.sL.below h).more h.size⟩ ⟨hk.nd.num.hL,hk.nd.num.cL,hk.light.L,hk.nd.num.L,(hk.nd.num.sL.below h).more h.size⟩)
 simp only at HI
 have HB:=hid HB
 have HE:=hid HE
 have HX:=hid (Nd.ext_ (n:=i.n) (m:=k.n))
 unfold inA
 clear hi hk
 by_cases g1:i.n.op=k.n.op
 rotate_left
 ·
  have HN:=hid (show i.n≠k.n from λe=>g1 (by rw[e]))
  have tt:(i.n.op==k.n.op)=false:=by simpa using g1
  clear g1
  go_enter func149,ntmps149
  go_wp2_with fail
  go_ret
  exact Tells.mk_ _ (by simp;exact HN.out) (((zx _ _).alloc (zq _) _).alloc (by simp) _)
 by_cases g2:i.n.a=k.n.a
 rotate_left
 ·
  have HN:=hid (show i.n≠k.n from λe=>g2 (by rw[e]))
  have tt:(i.n.a==k.n.a)=false:=by simpa using g2
  have t1:(k.n.op==k.n.op)=true:=by simp
  rw[g1]
  clear g1 g2
  go_enter func149,ntmps149
  go_wp2_with fail
  go_ret
  exact Tells.mk_ _ (by simp;exact HN.out) (((zx _ _).alloc (zq _) _).alloc (by simp) _)
 by_cases g3:i.n.b=k.n.b
 rotate_left
 ·
  have HN:=hid (show i.n≠k.n from λe=>g3 (by rw[e]))
  have tt:(i.n.b==k.n.b)=false:=by simpa using g3
  have t1:(k.n.op==k.n.op)=true:=by simp
  have t2:(k.n.a==k.n.a)=true:=by simp
  rw[g1,g2]
  clear g1 g2 g3
  go_enter func149,ntmps149
  go_wp2_with fail
  go_ret
  exact Tells.mk_ _ (by simp;exact HN.out) (((zx _ _).alloc (zq _) _).alloc (by simp) _)
 by_cases g4:i.n.v=k.n.v
 rotate_left
 ·
  have HN:=hid (show i.n≠k.n from λe=>g4 (by rw[e]))
  have tt:(i.n.v==k.n.v)=false:=by simpa using g4
  have t1:(k.n.op==k.n.op)=true:=by simp
  have t2:(k.n.a==k.n.a)=true:=by simp
  have t3:(k.n.b==k.n.b)=true:=by simp
  rw[g1,g2,g3]
  clear g1 g2 g3 g4
  go_enter func149,ntmps149
  go_wp2_with fail
  go_ret
  exact Tells.mk_ _ (by simp;exact HN.out) (((zx _ _).alloc (zq _) _).alloc (by simp) _)
 by_cases g5:i.n.t=k.n.t
 rotate_left
 ·
  have HN:=hid (show i.n≠k.n from λe=>g5 (by rw[e]))
  have tt:(i.n.t==k.n.t)=false:=by simpa using g5
  have t1:(k.n.op==k.n.op)=true:=by simp
  have t2:(k.n.a==k.n.a)=true:=by simp
  have t3:(k.n.b==k.n.b)=true:=by simp
  have t4:(k.n.v==k.n.v)=true:=by simp
  rw[g1,g2,g3,g4]
  clear g1 g2 g3 g4 g5
  go_enter func149,ntmps149
  go_wp2_with fail
  go_ret
  exact Tells.mk_ _ (by simp;exact HN.out) (((zx _ _).alloc (zq _) _).alloc (by simp) _)
 by_cases g6:i.n.he=k.n.he
 rotate_left
 ·
  have HN:=hid (show i.n≠k.n from λe=>g6 (by rw[e]))
  have tt:(i.n.he==k.n.he)=false:=by revert g6;cases i.n.he<;>cases k.n.he<;>simp
  have t1:(k.n.op==k.n.op)=true:=by simp
  have t2:(k.n.a==k.n.a)=true:=by simp
  have t3:(k.n.b==k.n.b)=true:=by simp
  have t4:(k.n.v==k.n.v)=true:=by simp
  have t5:(k.n.t==k.n.t)=true:=by simp
  rw[g1,g2,g3,g4,g5]
  clear g1 g2 g3 g4 g5 g6
  go_enter func149,ntmps149
  go_wp2_with fail
  go_ret
  exact Tells.mk_ _ (by simp;exact HN.out) (((zx _ _).alloc (zq _) _).alloc (by simp) _)
 have HH:=hid (show i.n.op=k.n.op/\i.n.a=k.n.a/\i.n.b=k.n.b/\i.n.v=k.n.v/\i.n.t=k.n.t/\i.n.he=k.n.he from⟨g1,g2,g3,g4,g5,g6⟩)
 rw[g1,g2,g3,g4,g5,g6]
 have t1:(k.n.op==k.n.op)=true:=by simp
 have t2:(k.n.a==k.n.a)=true:=by simp
 have t3:(k.n.b==k.n.b)=true:=by simp
 have t4:(k.n.v==k.n.v)=true:=by simp
 have t5:(k.n.t==k.n.t)=true:=by simp
 have t6:(k.n.he==k.n.he)=true:=by simp
 clear g1 g2 g3 g4 g5 g6
 go_enter func149,ntmps149
 go_wp2_with(first
  |(go_at_call 147;refine(HI.out _ (((zx _ _).alloc (zq _) _).alloc (by simp) _)).mono ?_;rintro e w1 ⟨⟨b1,rfl,hb1⟩,hbel⟩;obtain⟨hlt1,hc,hd,hw⟩:=two_box hbel;have c6:=hc 6;have c7:=hc 7;have d6:=hd 6;have d7:=hd 7;have HP1:=hid hb1;have HW1:=hid hw;simp at c6 c7 d6 d7;clear hbel hc hd hw hb1)
  |(go_at_call 148;((with_reducible refine(HB.out _ HW1.out).mono ?_);rintro e w2 ⟨⟨b2,rfl,hb2⟩,hbel⟩;have c7':=(hbel.cell (p:=⟨w.heap.size,7,none⟩) (Nat.lt_of_succ_lt hlt1)).trans c7;have d7':=(hbel.cell (p:=⟨w.heap.size+1,7,none⟩) hlt1).trans d7;have hlt2:=zj hlt1 hbel.size;have HP2:=hid hb2;have HW2:=hid (HW1.out.trans (hbel.mono HW1.out.size));clear hbel hb2))
  |(go_at_call 148;((with_reducible refine(HE.out _ HW2.out).mono ?_);rintro e w3 ⟨⟨b3,rfl,hb3⟩,hbel⟩;have HP3:=hid hb3;have HW3:=hid (HW2.out.trans (hbel.mono HW2.out.size));clear hbel hb3)))
 all_goals
  go_ret
  first
  |exact Tells.mk_ _ (by rw[HX.out];have h:=HH.out;have p1:=HP1.out;have p2:=HP2.out;have p3:=HP3.out;simp_all) HW3.out
  |exact Tells.mk_ _ (by rw[HX.out];have h:=HH.out;have p1:=HP1.out;have p2:=HP2.out;simp_all) HW2.out
  |exact Tells.mk_ _ (by rw[HX.out];have h:=HH.out;have p1:=HP1.out;simp_all) HW1.out
theorem nds_ext{f g:Fo}(h:nds f=nds g):f=g:=by rw[<-ofN_nds f,<-ofN_nds g,h]
theorem eqIns_any(f g:Fo)(A1 A2:Option Addr)(c1 c2:Nat)(w:World)(h1:RdS w w.heap.size A1 f)(h2:RdS w w.heap.size A2 g)(l1:Light f)(l2:Light g)(m1:len f<=maxLen)(m2:len g<=maxLen)
  (H:∀(i k:In) (w':World),i.n∈nds f->k.n∈nds g->i.ok w w.heap.size->k.ok w w.heap.size->Below w.heap.size w w'->Calls prog 149 #[inA i,inA k] w' (Tells (i.n=k.n) w')):
  Calls prog 222 #[.slice A1 (len f) c1,.slice A2 (len g) c2,.func (.func 149) #[] #[]] w (Tells (f=g) w):=by
 unfold maxLen at m1 m2
 have H1:=hid h1
 have H2:=hid h2
 have HL1:=hid l1
 have HL2:=hid l2
 have HH:=hid H
 unfold inA at HH
 clear h1 h2 l1 l2 H
 by_cases hl:len f=len g
 ·
  rw[<-hl]
  have tl:((len f:Int) != (len f:Int))=false:=by simp
  have HL:=hid hl
  clear hl
  go_enter func222,ntmps222
  go_wp2_with fail
  go_loopw [17] (λi wr=>∃j:Nat,j<=len f/\i=.int .i64 j/\(nds f).take j=(nds g).take j/\Below w.heap.size w wr) (λi _=>len f-(intOf i).toNat)
  case atStart=>exact⟨0,by omega,rfl,by simp,zx _ _⟩
  case round=>
   obtain⟨j,hj,rfl,heq,hbel⟩:=hrel
   have HE:=hid heq
   clear heq
   by_cases hlt:j<len f
   ·
    obtain⟨b,o,n,p,hA,hn,hat0⟩:=H1.out.at_ hlt
    obtain⟨b',o',n',p',hA',hn',hat0'⟩:=H2.out.at_ (show j<len g by have:=HL.out;omega)
    obtain⟨q0,q1,q2,q3,q4,q5,q6,q7,q8⟩:=(hat0.below hbel).nine
    obtain⟨r0,r1,r2,r3,r4,r5,r6,r7,r8⟩:=(hat0'.below hbel).nine
    have hb:=zj hat0.lt hbel.size
    have hb':=zj hat0'.lt hbel.size
    have HC:=hid (λw' (h:Below w.heap.size w w')=>HH.out ⟨n,p⟩ ⟨n',p'⟩ w' (zu hn) (zu hn') ⟨hat0.ok,HL1.out.mem (zu hn)⟩ ⟨hat0'.ok,HL2.out.mem (zu hn')⟩ h)
    simp only at HC
    have hs1:(nds f).take (j+1)=(nds f).take j++[n]:=by rw[qs,hn];rfl
    have hs2:(nds g).take (j+1)=(nds g).take j++[n']:=by rw[qs,hn'];rfl
    have hne:n≠n'->f≠g:=λh e=>h (by subst e;exact Option.some.inj (hn.symm.trans hn'))
    have HS1:=hid hs1
    have HS2:=hid hs2
    have HNE:=hid hne
    have HB:=hid hbel
    have hsz:=hbel.size
    rw[hA,hA']
    clear hat0 hat0' hbel hn hn' HH hs1 hs2 hne hA hA'
    go_wp2_with(go_at_call 149;refine(HC.out _ ((HB.out.alloc hsz _).alloc (by simp;omega) _)).mono ?_;rintro e w1 ⟨⟨b1,rfl,hb1⟩,hbel⟩;have HP:=hid hb1;have HB1:=hid ((((HB.out.alloc hsz _).alloc (by simp;omega) _)).trans (hbel.mono (by simp;omega)));clear hbel hb1)
    all_goals first
     |(rename_i hq;go_ret;exact Tells.mk_ _ (by simp;exact HNE.out λe=>absurd (HP.out.2 e) (by simpa using hq)) HB1.out)
     |skip
    rename_i hq
    go_roundw
    case rel=>exact⟨j+1,by omega,by go_num,by rw[HS1.out,HS2.out,HE.out,HP.out.1 (by simpa using hq)],HB1.out⟩
    case measure=>simp[intOf];omega
   ·
    have h1:=zo (l:=nds f) (i:=j) (by unfold len at *;omega)
    have h2:=zo (l:=nds g) (i:=j) (by have:=HL.out;unfold len at *;omega)
    have HF:=hid (show f=g from nds_ext (by rw[<-h1,<-h2];exact HE.out))
    have HB:=hid hbel
    clear h1 h2 hbel
    go_wp2_with fail
    go_ret
    exact Tells.mk_ _ (by simp;exact HF.out) HB.out
 ·
  have tl:((len f:Int) != (len g:Int))=true:=by simp;omega
  have hne:f≠g:=λe=>hl (by rw[e])
  have HNE:=hid hne
  clear hne
  go_enter func222,ntmps222
  go_wp2_with fail
  go_ret
  exact Tells.mk_ _ (by simp;exact HNE.out) (zx _ _)
theorem sameCode_any(q:Nat):∀(f g:Fo) (A1 A2:Option Addr) (c1 c2:Nat) (w:World),cnt f<=q->RdS w w.heap.size A1 f->RdS w w.heap.size A2 g->Light f->Light g->len f<=maxLen->len g<=maxLen->
  Calls prog 148 #[.slice A1 (len f) c1,.slice A2 (len g) c2] w (Tells (f=g) w):=by
 induction q using Nat.strongRecOn with
 |ind q ih=>
  intro f g A1 A2 c1 c2 w hq h1 h2 l1 l2 m1 m2
  have HE:=hid (eqIns_any f g A1 A2 c1 c2 w h1 h2 l1 l2 m1 m2 (λi k w' hi hk oi ok hb=>sameIns_any i k w' (oi.keep hb.size (Below.kp hb)) (ok.keep hb.size (Below.kp hb))
   (λw'' hb2=>ih _ (zj (cnt_mem hi).1 hq) i.n.body k.n.body _ _ _ _ w'' (zq _) (((oi.nd.body.below hb).more hb.size).below hb2 |>.more hb2.size) (((ok.nd.body.below hb).more hb.size).below hb2 |>.more hb2.size) oi.light.body ok.light.body (zy oi.nd.num.hb oi.nd.num.cb) (zy ok.nd.num.hb ok.nd.num.cb))
   (λw'' hb2=>ih _ (zj (cnt_mem hi).2 hq) i.n.els k.n.els _ _ _ _ w'' (zq _) (((oi.nd.els.below hb).more hb.size).below hb2 |>.more hb2.size) (((ok.nd.els.below hb).more hb.size).below hb2 |>.more hb2.size) oi.light.els ok.light.els (zy oi.nd.num.he oi.nd.num.ce) (zy ok.nd.num.he ok.nd.num.ce))))
  clear ih h1 h2 l1 l2
  go_enter func148,ntmps148
  go_wp2_with(go_at_call 222;refine HE.out.mono ?_;rintro e w' ⟨⟨b,rfl,hb⟩,hbel⟩)
  go_ret
  exact Tells.mk_ _ hb hbel
theorem eqByte_any(x y:BL)(w:World)(hx:x.ok w w.heap.size)(hy:y.ok w w.heap.size):
  Calls prog 150 #[.slice x.A x.bs.length x.c,.slice y.A y.bs.length y.c] w (Tells (x.bs=y.bs) w):=by
 have c1:=run_str_of (P:=prog) 35 9 5 underlying35 underlying5 underlying9 hx.sl x.c
 have c2:=run_str_of (P:=prog) 35 9 5 underlying35 underlying5 underlying9 hy.sl y.c
 clear hx hy
 go_enter func150,ntmps150
 go_wp2_with fail
 go_ret
 exact Tells.mk_ _ (by simp) (zx _ _)
theorem str_ext{a b:ByteArray}(h:a.toList=b.toList):a=b:=by
 apply Go.WideShapes.bytes_inj
 rw[<-Lib.toList_data,<-Lib.toList_data,h]
theorem sameOne(i k:In)(w:World)(hi:i.ok w w.heap.size)(hk:k.ok w w.heap.size):Calls prog 149 #[inA i,inA k] w (Tells (i.n=k.n) w):=
 sameIns_any i k w hi hk
  (λ_ h=>sameCode_any _ _ _ _ _ _ _ _ (zq _) ((hi.nd.body.below h).more h.size) ((hk.nd.body.below h).more h.size) hi.light.body hk.light.body (zy hi.nd.num.hb hi.nd.num.cb) (zy hk.nd.num.hb hk.nd.num.cb))
  (λ_ h=>sameCode_any _ _ _ _ _ _ _ _ (zq _) ((hi.nd.els.below h).more h.size) ((hk.nd.els.below h).more h.size) hi.light.els hk.light.els (zy hi.nd.num.he hi.nd.num.ce) (zy hk.nd.num.he hk.nd.num.ce))
def eqTy(x y:Ty):Prop:=x.p.zs=y.p.zs/\x.r.zs=y.r.zs
def tyA(x:Ty):Value:=.agg #[.slice x.p.A x.p.zs.length x.p.c,.slice x.r.A x.r.zs.length x.r.c]
theorem sameType_any(x y:Ty)(w:World)(hx:x.ok w w.heap.size)(hy:y.ok w w.heap.size):
  Calls prog 37 #[tyA x,tyA y] w (Tells (eqTy x y) w):=by
 unfold tyA eqTy
 have H1:=hid (λw' (h:Below w.heap.size w w')=>eqInt_any x.p y.p w' (hx.p.keep h.size (Below.kp h)) (hy.p.keep h.size (Below.kp h)))
 have H2:=hid (λw' (h:Below w.heap.size w w')=>eqInt_any x.r y.r w' (hx.r.keep h.size (Below.kp h)) (hy.r.keep h.size (Below.kp h)))
 clear hx hy
 go_enter func37,ntmps37
 go_wp2_with(first
  |(go_at_call 147;((with_reducible refine(H1.out _ (((zx _ _).alloc (zq _) _).alloc (by simp) _)).mono ?_);rintro e w1 ⟨⟨b1,rfl,hb1⟩,hbel⟩;obtain⟨hlt1,hc,hd,hw⟩:=two_box hbel;have c:=hc 1;have d:=hd 1;simp at c d;have HP1:=hid hb1;have HW1:=hid hw;clear hbel hc hd hw hb1))
  |(go_at_call 147;((with_reducible refine(H2.out _ HW1.out).mono ?_);rintro e w2 ⟨⟨b2,rfl,hb2⟩,hbel⟩;have HP2:=hid hb2;have HW2:=hid (HW1.out.trans (hbel.mono HW1.out.size));clear hbel hb2)))
 all_goals
  go_ret
  first
  |exact Tells.mk_ _ (by have p1:=HP1.out;have p2:=HP2.out;simp_all) HW2.out
  |exact Tells.mk_ _ (by have p1:=HP1.out;simp_all) HW1.out
def eqFn(x y:Fn):Prop:=x.ty=y.ty/\x.lo.zs=y.lo.zs/\x.bo.f=y.bo.f
def fnA(x:Fn):Value:=.agg #[.int .i64 x.ty,.slice x.lo.A x.lo.zs.length x.lo.c,.slice x.bo.A (len x.bo.f) x.bo.c]
theorem sameFunc_any(x y:Fn)(w:World)(hx:x.ok w w.heap.size)(hy:y.ok w w.heap.size):
  Calls prog 40 #[fnA x,fnA y] w (Tells (eqFn x y) w):=by
 unfold fnA eqFn
 have H1:=hid (λw' (h:Below w.heap.size w w')=>eqInt_any x.lo y.lo w' (hx.lo.keep h.size (Below.kp h)) (hy.lo.keep h.size (Below.kp h)))
 have H2:=hid (λw' (h:Below w.heap.size w w')=>sameCode_any _ x.bo.f y.bo.f x.bo.A y.bo.A x.bo.c y.bo.c w' (zq _) (hx.bo.keep h.size (Below.kp h)).rd (hy.bo.keep h.size (Below.kp h)).rd hx.bo.light hy.bo.light (zy hx.bo.le hx.bo.c) (zy hy.bo.le hy.bo.c))
 clear hx hy
 by_cases g1:x.ty=y.ty
 rotate_left
 ·
  have tt:(x.ty==y.ty)=false:=by simpa using g1
  have HN:=hid g1
  clear g1
  go_enter func40,ntmps40
  go_wp2_with fail
  go_ret
  exact Tells.mk_ _ (by simp[HN.out]) (((zx _ _).alloc (zq _) _).alloc (by simp) _)
 have HH:=hid (show x.ty=y.ty from g1)
 rw[g1]
 have t1:(y.ty==y.ty)=true:=by simp
 clear g1
 go_enter func40,ntmps40
 go_wp2_with(first
  |(go_at_call 147;((with_reducible refine(H1.out _ (((zx _ _).alloc (zq _) _).alloc (by simp) _)).mono ?_);rintro e w1 ⟨⟨b1,rfl,hb1⟩,hbel⟩;obtain⟨hlt1,hc,hd,hw⟩:=two_box hbel;have c:=hc 2;have d:=hd 2;simp at c d;have HP1:=hid hb1;have HW1:=hid hw;clear hbel hc hd hw hb1))
  |(go_at_call 148;((with_reducible refine(H2.out _ HW1.out).mono ?_);rintro e w2 ⟨⟨b2,rfl,hb2⟩,hbel⟩;have HP2:=hid hb2;have HW2:=hid (HW1.out.trans (hbel.mono HW1.out.size));clear hbel hb2)))
 all_goals
  go_ret
  first
  |exact Tells.mk_ _ (by have h:=HH.out;have p1:=HP1.out;have p2:=HP2.out;simp_all) HW2.out
  |exact Tells.mk_ _ (by have h:=HH.out;have p1:=HP1.out;simp_all) HW1.out
def eqGl(x y:Gl):Prop:=x.ty=y.ty/\x.mu=y.mu/\x.i.n=y.i.n
def glA(x:Gl):Value:=.agg #[.int .i64 x.ty,.bool x.mu,.int .i64 x.i.n.op,.int .i64 x.i.n.a,.int .i64 x.i.n.b,.int .u64 x.i.n.v,.int .i64 x.i.n.t,.slice x.i.p.AL x.i.n.L.length x.i.p.cL,.slice x.i.p.Ab (len x.i.n.body) x.i.p.cb,.slice x.i.p.Ae (len x.i.n.els) x.i.p.ce,.bool x.i.n.he]
theorem sameGlobal_any(x y:Gl)(w:World)(hx:x.ok w w.heap.size)(hy:y.ok w w.heap.size):
  Calls prog 43 #[glA x,glA y] w (Tells (eqGl x y) w):=by
 unfold glA eqGl
 have H1:=hid (λw' (h:Below w.heap.size w w')=>sameOne x.i y.i w' (hx.i.keep h.size (Below.kp h)) (hy.i.keep h.size (Below.kp h)))
 unfold inA at H1
 clear hx hy
 by_cases g1:x.ty=y.ty
 rotate_left
 ·
  have tt:(x.ty==y.ty)=false:=by simpa using g1
  have HN:=hid g1
  clear g1
  go_enter func43,ntmps43
  go_wp2_with fail
  go_ret
  exact Tells.mk_ _ (by simp[HN.out]) (((zx _ _).alloc (zq _) _).alloc (by simp) _)
 by_cases g2:x.mu=y.mu
 rotate_left
 ·
  have tt:(x.mu==y.mu)=false:=by revert g2;cases x.mu<;>cases y.mu<;>simp
  have HN:=hid g2
  rw[g1]
  have t1:(y.ty==y.ty)=true:=by simp
  clear g1 g2
  go_enter func43,ntmps43
  go_wp2_with fail
  go_ret
  exact Tells.mk_ _ (by simp[HN.out]) (((zx _ _).alloc (zq _) _).alloc (by simp) _)
 have HH:=hid (show x.ty=y.ty/\x.mu=y.mu from⟨g1,g2⟩)
 rw[g1]
 have t1:(y.ty==y.ty)=true:=by simp
 rw[g2]
 have t2:(y.mu==y.mu)=true:=by simp
 clear g1 g2
 go_enter func43,ntmps43
 go_wp2_with(first
  |(go_at_call 149;((with_reducible refine(H1.out _ (((zx _ _).alloc (zq _) _).alloc (by simp) _)).mono ?_);rintro e w1 ⟨⟨b1,rfl,hb1⟩,hbel⟩;obtain⟨hlt1,hc,hd,hw⟩:=two_box hbel;have HP1:=hid hb1;have HW1:=hid hw;clear hbel hc hd hw hb1)))
 all_goals
  go_ret
  first
  |exact Tells.mk_ _ (by have h:=HH.out;have p1:=HP1.out;simp_all) HW1.out
def eqEl(x y:El):Prop:=x.i.n=y.i.n/\x.fs.zs=y.fs.zs
def elA(x:El):Value:=.agg #[.int .i64 x.i.n.op,.int .i64 x.i.n.a,.int .i64 x.i.n.b,.int .u64 x.i.n.v,.int .i64 x.i.n.t,.slice x.i.p.AL x.i.n.L.length x.i.p.cL,.slice x.i.p.Ab (len x.i.n.body) x.i.p.cb,.slice x.i.p.Ae (len x.i.n.els) x.i.p.ce,.bool x.i.n.he,.slice x.fs.A x.fs.zs.length x.fs.c]
theorem sameElem_any(x y:El)(w:World)(hx:x.ok w w.heap.size)(hy:y.ok w w.heap.size):
  Calls prog 46 #[elA x,elA y] w (Tells (eqEl x y) w):=by
 unfold elA eqEl
 have H1:=hid (λw' (h:Below w.heap.size w w')=>sameOne x.i y.i w' (hx.i.keep h.size (Below.kp h)) (hy.i.keep h.size (Below.kp h)))
 unfold inA at H1
 have H2:=hid (λw' (h:Below w.heap.size w w')=>eqInt_any x.fs y.fs w' (hx.fs.keep h.size (Below.kp h)) (hy.fs.keep h.size (Below.kp h)))
 clear hx hy
 go_enter func46,ntmps46
 go_wp2_with(first
  |(go_at_call 149;((with_reducible refine(H1.out _ (((zx _ _).alloc (zq _) _).alloc (by simp) _)).mono ?_);rintro e w1 ⟨⟨b1,rfl,hb1⟩,hbel⟩;obtain⟨hlt1,hc,hd,hw⟩:=two_box hbel;have c:=hc 9;have d:=hd 9;simp at c d;have HP1:=hid hb1;have HW1:=hid hw;clear hbel hc hd hw hb1))
  |(go_at_call 147;((with_reducible refine(H2.out _ HW1.out).mono ?_);rintro e w2 ⟨⟨b2,rfl,hb2⟩,hbel⟩;have HP2:=hid hb2;have HW2:=hid (HW1.out.trans (hbel.mono HW1.out.size));clear hbel hb2)))
 all_goals
  go_ret
  first
  |exact Tells.mk_ _ (by have p1:=HP1.out;have p2:=HP2.out;simp_all) HW2.out
  |exact Tells.mk_ _ (by have p1:=HP1.out;simp_all) HW1.out
def eqDa(x y:Da):Prop:=x.i.n=y.i.n/\x.bs.bs=y.bs.bs
def daA(x:Da):Value:=.agg #[.int .i64 x.i.n.op,.int .i64 x.i.n.a,.int .i64 x.i.n.b,.int .u64 x.i.n.v,.int .i64 x.i.n.t,.slice x.i.p.AL x.i.n.L.length x.i.p.cL,.slice x.i.p.Ab (len x.i.n.body) x.i.p.cb,.slice x.i.p.Ae (len x.i.n.els) x.i.p.ce,.bool x.i.n.he,.slice x.bs.A x.bs.bs.length x.bs.c]
theorem sameData_any(x y:Da)(w:World)(hx:x.ok w w.heap.size)(hy:y.ok w w.heap.size):
  Calls prog 48 #[daA x,daA y] w (Tells (eqDa x y) w):=by
 unfold daA eqDa
 have H1:=hid (λw' (h:Below w.heap.size w w')=>sameOne x.i y.i w' (hx.i.keep h.size (Below.kp h)) (hy.i.keep h.size (Below.kp h)))
 unfold inA at H1
 have H2:=hid (λw' (h:Below w.heap.size w w')=>eqByte_any x.bs y.bs w' (hx.bs.keep h.size (Below.kp h)) (hy.bs.keep h.size (Below.kp h)))
 clear hx hy
 go_enter func48,ntmps48
 go_wp2_with(first
  |(go_at_call 149;((with_reducible refine(H1.out _ (((zx _ _).alloc (zq _) _).alloc (by simp) _)).mono ?_);rintro e w1 ⟨⟨b1,rfl,hb1⟩,hbel⟩;obtain⟨hlt1,hc,hd,hw⟩:=two_box hbel;have c:=hc 9;have d:=hd 9;simp at c d;have HP1:=hid hb1;have HW1:=hid hw;clear hbel hc hd hw hb1))
  |(go_at_call 150;((with_reducible refine(H2.out _ HW1.out).mono ?_);rintro e w2 ⟨⟨b2,rfl,hb2⟩,hbel⟩;have HP2:=hid hb2;have HW2:=hid (HW1.out.trans (hbel.mono HW1.out.size));clear hbel hb2)))
 all_goals
  go_ret
  first
  |exact Tells.mk_ _ (by have p1:=HP1.out;have p2:=HP2.out;simp_all) HW2.out
  |exact Tells.mk_ _ (by have p1:=HP1.out;simp_all) HW1.out
def eqCu(x y:Cu):Prop:=x.nm=y.nm/\x.bs.bs=y.bs.bs
def cuA(x:Cu):Value:=.agg #[.string x.nm,.slice x.bs.A x.bs.bs.length x.bs.c]
theorem sameCustom_any(x y:Cu)(w:World)(hx:x.ok w w.heap.size)(hy:y.ok w w.heap.size):
  Calls prog 50 #[cuA x,cuA y] w (Tells (eqCu x y) w):=by
 unfold cuA eqCu
 have H1:=hid (λw' (h:Below w.heap.size w w')=>eqByte_any x.bs y.bs w' (hx.bs.keep h.size (Below.kp h)) (hy.bs.keep h.size (Below.kp h)))
 clear hx hy
 by_cases g1:x.nm=y.nm
 rotate_left
 ·
  have tt:(x.nm.toList==y.nm.toList)=false:=by simp;exact λe=>g1 (str_ext e)
  have HN:=hid g1
  clear g1
  go_enter func50,ntmps50
  go_wp2_with fail
  go_ret
  exact Tells.mk_ _ (by simp[HN.out]) (((zx _ _).alloc (zq _) _).alloc (by simp) _)
 have HH:=hid (show x.nm=y.nm from g1)
 rw[g1]
 have t1:(y.nm.toList==y.nm.toList)=true:=by simp
 clear g1
 go_enter func50,ntmps50
 go_wp2_with(first
  |(go_at_call 150;((with_reducible refine(H1.out _ (((zx _ _).alloc (zq _) _).alloc (by simp) _)).mono ?_);rintro e w1 ⟨⟨b1,rfl,hb1⟩,hbel⟩;obtain⟨hlt1,hc,hd,hw⟩:=two_box hbel;have HP1:=hid hb1;have HW1:=hid hw;clear hbel hc hd hw hb1)))
 all_goals
  go_ret
  first
  |exact Tells.mk_ _ (by have h:=HH.out;have p1:=HP1.out;simp_all) HW1.out
def Hang(S:Nat->Prop)(w:World)(F:World->Nat->Prop):Prop:=∀w' B,w.heap.size<=B->Agr S w w'->F w' B
def Sx(lo g0:Nat)(w:World)(v:Value):Nat->Prop:=λb=>lo<=b/\b<w.heap.size/\b≠g0/\v.ownBlock≠some b
structure Cm{α:Type}(lo g0:Nat)(w0 w:World)(v:Value)(vals:List Value)(q:World->Nat->α->Prop)(l:List α)(Ds:List (World->Nat->Prop)):Prop where
 hlo:lo<=g0
 lt:g0<w.heap.size
 n:vals.length=11
 cells:∀i,i<11->w.cell? ⟨g0,i,none⟩=vals[i]?
 frz:∀i,w.frozen? ⟨g0,i,none⟩=false
 below:Below lo w0 w
 own:v.ownBlock≠some g0
 ds:∀F∈Ds,Hang (Sx lo g0 w v) w F
 els:∀x∈l,Hang (Sx lo g0 w v) w (λw B=>q w B x)
section
variable{P:Program}{e:TypeId}{k:Nat}{w:World}
theorem op_push{o:Oper}{a:Act}{K:Act->World->Prop}{Q:Exit->Act->World->Prop}{B:Nat}{w0:World}{v:Value}{rs:List (List Value)}(s x:Operand)(t:TypeId)(ho:o.op=.call {callee:=.builtin .append,args:=#[s,x],argTypes:=#[t,t]})(y:Nat)(ht:P.underlying t=some (.slice e))(hE:ElemK P e k y)(hk:0<k)
  (row:List Value) (c n:Nat) (hs:a.eval s=v) (h:OwnK B w0 w e k v rs) (hx:a.eval x=.slice (some ⟨n,0,none⟩) 1 c) (hr:row.length=k) (hcell:∀j u,row[j]? =some u->w.cell? ⟨n,j,none⟩=some u) (h1:∀u∈row,u.oneCell'=true) (hby:(rs.length+1) * y<=140737488355328) (hm:rs.length+1<=maxLen)
  (cont:∀v' w',OwnK B w0 w' e k v' (rs++[row])->(∀m,m<w.heap.size->v.ownBlock≠some m->w'.heap[m]? =w.heap[m]?/\v'.ownBlock≠some m)->w.heap.size<=w'.heap.size->K (a.put o.dst v') w'):Oper.wp P o a w K Q:=by
 obtain⟨i,z,hi,hz,hsz,hyy,hzs⟩:=hE
 obtain⟨v',w',hrun,h2,h3,_,h5⟩:=run_append_own_at (P:=P) w B t o.type e i z k y ht hi hz hsz hyy hzs hk v rs.length rs.flatten h.row ⟨n,0,none⟩ 1 c row (by simp[hr]) (λj u hj=>by rw[add_at,qz];exact hcell j u hj) h1 hm hby h.le
 have hown:OwnK B w0 w' e k v' (rs++[row]):=by
  refine⟨by simpa using h2,λr hr'=>?_,h.below.grown h3 h.le (λg hg'=>(h.row.lt g hg').1),zy h.le h3.size⟩
  rcases List.mem_append.1 hr' with h6|h6
  ·exact h.len r h6
  ·
   simp at h6
   subst h6
   exact hr
 unfold Oper.wp execOp
 simp only[ho,resolve,invoke,builtin,Sem.run_bind,Sem.run_pure,Result.andThen_ok,xi,qu,je,hs,hx,hrun]
 refine cont v' w' hown (λm hm' hne=>⟨h3.block m hm' (λe=>hne e.symm),?_⟩) h3.size
 rcases h5 with h5|h5
 ·rw[h5];exact hne
 ·rw[h5];simp;omega
end
theorem ev{a:Act}{j:Nat}{v:Value}(h:a.eval (.tmp j)=v):a.tmps[j]?.getD undef=v:=by
 rw[<-h];simp[Act.eval]
structure Fm(b0 g0:Nat)(a:Act):Prop where
 size:a.tmps.size=208
 defers:a.defers=[]
 e1:a.eval (.tmp 1)=.pointer (some ⟨b0,0,none⟩)
 e2:a.eval (.tmp 2)=.pointer (some ⟨b0+1,0,none⟩)
 e3:a.eval (.tmp 3)=.pointer (some ⟨g0,0,none⟩)
structure CmC(m:Mo)(w0:World)(b0:Nat):Prop where
 lt:b0<w0.heap.size
 box:∀i,i<11->w0.cell? ⟨b0,i,none⟩=m.cells[i]?
 ok:m.ok w0 w0.heap.size
section
variable{G:Edge->Prop}{a:Act}{l:List Edge}
theorem kd(i di:Nat){v:Value}(hV:∀e,e∈l->Region.binds .any e=true->G e)
  (hm:⟨i,.data⟩∈l:=by first|exact .head _|exact .tail _ (.head _)|exact .tail _ (.tail _ (.head _))|exact .tail _ (.tail _ (.tail _ (.head _)))|exact .tail _ (.tail _ (.tail _ (.tail _ (.head _)))))
  (h:G ⟨i,.data⟩->a.eval (.tmp di)=v:=by exact λh=>h):a.tmps[di]?.getD undef=v:=
 ev (h (hV ⟨i,.data⟩ hm rfl))
end
@[reducible] def fr(f:Nat->Value):Act:=⟨#[f 0,f 1,f 2,f 3,f 4,f 5,f 6,f 7,f 8,f 9,f 10,f 11,f 12,f 13,f 14,f 15,f 16,f 17,f 18,f 19,f 20,f 21,f 22,f 23,f 24,f 25,f 26,f 27,f 28,f 29,f 30,f 31,f 32,f 33,f 34,f 35,f 36,f 37,f 38,f 39,f 40,f 41,f 42,f 43,f 44,f 45,f 46,f 47,f 48,f 49,f 50,f 51,f 52,f 53,f 54,f 55,f 56,f 57,f 58,f 59,f 60,f 61,f 62,f 63,f 64,f 65,f 66,f 67,f 68,f 69,f 70,f 71,f 72,f 73,f 74,f 75,f 76,f 77,f 78,f 79,f 80,f 81,f 82,f 83,f 84,f 85,f 86,f 87,f 88,f 89,f 90,f 91,f 92,f 93,f 94,f 95,f 96,f 97,f 98,f 99,f 100,f 101,f 102,f 103,f 104,f 105,f 106,f 107,f 108,f 109,f 110,f 111,f 112,f 113,f 114,f 115,f 116,f 117,f 118,f 119,f 120,f 121,f 122,f 123,f 124,f 125,f 126,f 127,f 128,f 129,f 130,f 131,f 132,f 133,f 134,f 135,f 136,f 137,f 138,f 139,f 140,f 141,f 142,f 143,f 144,f 145,f 146,f 147,f 148,f 149,f 150,f 151,f 152,f 153,f 154,f 155,f 156,f 157,f 158,f 159,f 160,f 161,f 162,f 163,f 164,f 165,f 166,f 167,f 168,f 169,f 170,f 171,f 172,f 173,f 174,f 175,f 176,f 177,f 178,f 179,f 180,f 181,f 182,f 183,f 184,f 185,f 186,f 187,f 188,f 189,f 190,f 191,f 192,f 193,f 194,f 195,f 196,f 197,f 198,f 199,f 200,f 201,f 202,f 203,f 204,f 205,f 206,f 207],[]⟩
def loopsOf:Code->List Code
 |.loop c=>[c]
 |.seq a b=>loopsOf a++loopsOf b
 |.block _ c=>loopsOf c
 |.scope c=>loopsOf c
 |.cond _ a b=>loopsOf a++loopsOf b
 |_=>[]
end Go.Proofs.YteoijlfipmaoeaaGreatDoor

import Derived.Test.YteoijlfipmaoeaaGreatDoorPJ14
import Derived.Test.YteoijlfipmaoeaaGreatDoorPJ10
set_option linter.unusedVariables false
set_option linter.unusedSimpArgs false
set_option maxRecDepth 100000
set_option maxHeartbeats 16000000
namespace Go.Proofs.YteoijlfipmaoeaaGreatDoor
open Lib (hid)
open Go.RowKit Trx
open Go.Proofs.Tryz
def errV(bad:Bool):Value:=match bad with
 |true=>.iface 40 (.int .i64 1)
 |false=>.nilIface
structure Wr(W:Nat)(w0 w:World)(v u:Value)(bs:List UInt8)(bad:Bool):Prop where
 hW:w0.heap.size<=W
 c0:w.cell? ⟨W,0,none⟩=some v
 c1:w.cell? ⟨W,1,none⟩=some u
 c2:w.cell? ⟨W,2,none⟩=some (errV bad)
 fr:∀i,w.frozen? ⟨W,i,none⟩=false
 ob:OwB w0 w v bs
 vW:v.ownBlock≠some W
structure Kw(W:Nat)(w:World)(v:Value)(w':World)(v':Value):Prop where
 keep:∀m,m<w.heap.size->m≠W->v.ownBlock≠some m->w'.heap[m]? =w.heap[m]?/\v'.ownBlock≠some m
 size:w.heap.size<=w'.heap.size
section
variable{W:Nat}{w0 w w' w1 w2:World}{v v' v1 v2 u:Value}{bs nb:List UInt8}{bad:Bool}
theorem Wr.lt(h:Wr W w0 w v u bs bad):W<w.heap.size:=zn _ _ h.c0
theorem Wr.later(h:Wr W w0 w v u bs bad)(hb:Below w.heap.size w w'):Wr W w0 w' v u bs bad:=
 ⟨h.hW,(hb.cell (p:=⟨W,0,none⟩) h.lt).trans h.c0,(hb.cell (p:=⟨W,1,none⟩) h.lt).trans h.c1,(hb.cell (p:=⟨W,2,none⟩) h.lt).trans h.c2,λi=>(hb.frozen (p:=⟨W,i,none⟩) h.lt).trans (h.fr i),h.ob.later hb,h.vW⟩
theorem Wr.alloc(h:Wr W w0 w v u bs bad)(o:Obj):Wr W w0 (w.alloc o) v u bs bad:=h.later ((zx _ _).alloc (zq _) o)
theorem Wr.drewN(h:Wr W w0 w v u bs bad)(n:Nat):Wr W w0 (w.drewN n) v u bs bad:=⟨h.hW,h.c0,h.c1,h.c2,h.fr,h.ob.drewN n,h.vW⟩
theorem Wr.below(h:Wr W w0 w v u bs bad):Below w0.heap.size w0 w:=h.ob.below
theorem Wr.put(h:Wr W w0 w v u bs bad)(ho:OwB w0 w' v' nb)(hk:Kp w v w' v'):Wr W w0 (w'.setCell ⟨W,0,none⟩ v') v' u nb bad:=by
 have hv':=(hk.keep W h.lt h.vW)
 have hc:∀i,w'.cell? ⟨W,i,none⟩=w.cell? ⟨W,i,none⟩:=λi=>zm hv'.1
 exact⟨h.hW,ze _ _ _ ((hc 0).trans h.c0),(zk _ _ _ _ (by simp)).trans ((hc 1).trans h.c1),(zk _ _ _ _ (by simp)).trans ((hc 2).trans h.c2),
  λi=>(za _ _ _ _).trans ((qv hv'.1).trans (h.fr i)),OwnK.setOther ho h.hW hv'.2 0 v',hv'.2⟩
theorem Wr.refuse(h:Wr W w0 w v u bs bad):Wr W w0 (w.setCell ⟨W,2,none⟩ (errV true)) v u bs true:=
 ⟨h.hW,(zk _ _ _ _ (by simp)).trans h.c0,(zk _ _ _ _ (by simp)).trans h.c1,ze _ _ _ h.c2,λi=>(za _ _ _ _).trans (h.fr i),OwnK.setOther h.ob h.hW h.vW 2 _,h.vW⟩
theorem OwB.is_slice(h:OwB w0 w v bs):∃A n c,v=.slice A n c:=by
 obtain⟨A,c,e,-⟩:=OwnK.form h
 exact⟨A,_,c,e⟩
theorem Kw.refl_:Kw W w v w v:=⟨λ_ _ _ h=>⟨rfl,h⟩,zq _⟩
theorem Kw.trans(h:Kw W w v w1 v1)(h2:Kw W w1 v1 w2 v2):Kw W w v w2 v2:=by
 refine⟨λm hm hW hv=>?_,zy h.size h2.size⟩
 obtain⟨e1,e2⟩:=h.keep m hm hW hv
 obtain⟨e3,e4⟩:=h2.keep m (zj hm h.size) hW e2
 exact⟨e3.trans e1,e4⟩
theorem Kw.of_below(h:Below w.heap.size w w'):Kw W w v w' v:=⟨λm hm _ hv=>⟨h.block m hm,hv⟩,h.size⟩
theorem Kw.of_kp(h:Kp w v w' v'):Kw W w v w' v':=⟨λm hm _ hv=>h.keep m hm hv,h.size⟩
theorem Kw.set(h:Kw W w v w' v')(i:Nat)(x:Value):Kw W w v (w'.setCell ⟨W,i,none⟩ x) v':=by
 refine⟨λm hm hW hv=>?_,by have:=h.size;simpa[World.setCell]using this⟩
 obtain⟨e1,e2⟩:=h.keep m hm hW hv
 exact⟨(qa _ _ _ _ (λe=>hW e)).trans e1,e2⟩
theorem Kw.alloc(h:Kw W w v w1 v1)(o:Obj):Kw W w v (w1.alloc o) v1:=h.trans (.of_below ((zx _ _).alloc (zq _) o))
theorem Kw.drewN(h:Kw W w v w1 v1)(n:Nat):Kw W w v (w1.drewN n) v1:=⟨h.keep,h.size⟩
end
structure Bx(W:Nat)(w:World)(v:Value)(b:Nat)(vals:List Value):Prop where
 cell:∀i x,vals[i]? =some x->w.cell? ⟨b,i,none⟩=some x
 ne:b≠W
 nv:v.ownBlock≠some b
 lt:b<w.heap.size
section
variable{W b:Nat}{w w':World}{v v':Value}{vals:List Value}
theorem Bx.kw(h:Bx W w v b vals)(hk:Kw W w v w' v'):Bx W w' v' b vals:=by
 obtain⟨e1,e2⟩:=hk.keep b h.lt h.ne h.nv
 exact⟨λi x hi=>(zm e1).trans (h.cell i x hi),h.ne,e2,zj h.lt hk.size⟩
theorem Bx.later(h:Bx W w v b vals)(hb:Below w.heap.size w w'):Bx W w' v b vals:=h.kw (.of_below hb)
theorem Bx.alloc(h:Bx W w v b vals)(o:Obj):Bx W (w.alloc o) v b vals:=h.later ((zx _ _).alloc (zq _) o)
theorem Bx.new{w0:World}{u:Value}{bs:List UInt8}{bad:Bool}(h:Wr W w0 w v u bs bad)(cs:Array Value)(t:TypeId)(n:Nat)(hn:n=w.heap.size)(hv:cs.toList=vals):Bx W (w.alloc (.cells cs t)) v n vals:=by
 subst hn hv
 exact⟨λi x hi=>by rw[zv _ _ _ _ rfl];simpa using hi,by have:=h.lt;omega,h.ob.new (zq _),by simp⟩
end
def WrP(W:Nat)(w0 w:World)(v u:Value)(bs:List UInt8)(bad:Bool)(pc:Bin.Pc):Ending->World->Prop:=λe w'=>e=.returned (.tuple #[])/\∃v',Wr W w0 w' v' u (bs++pc.1) (bad || !pc.2)/\Kw W w v w' v'
@[reducible] def pW(W:Nat):Value:=.pointer (some ⟨W,0,none⟩)
theorem refuse_any{W:Nat}{w0 w:World}{v u:Value}{bs:List UInt8}{bad:Bool}(h:Wr W w0 w v u bs bad):
  Calls prog 166 #[pW W] w (WrP W w0 w v u bs bad ([],false)):=by
 have c2:=h.c2
 have f2:=h.fr 2
 have HR:=hid (show Wr W w0 (w.setCell ⟨W,2,none⟩ (.iface 40 (.int .i64 1))) v u bs true from h.refuse)
 have HK:=hid ((Kw.refl_ (W:=W) (w:=w) (v:=v)).set 2 (errV true))
 obtain⟨x,hx⟩:∃x,errV bad=x:=⟨_,rfl⟩
 rw[hx]at c2
 clear h hx
 unfold WrP
 go_enter func166,ntmps166
 go_wp2_with fail
 go_end0
 exact⟨rfl,v,by simpa using HR.out,HK.out⟩
theorem byte_any{W:Nat}{w0 w:World}{v u:Value}{bs:List UInt8}{bad:Bool}(x:UInt8)(n:Int)(hx:(x.toNat:Int)=n)(h:Wr W w0 w v u bs bad)(hl:bs.length+1<=200000000):
  Calls prog 76 #[pW W,.int .u8 n] w (WrP W w0 w v u bs bad (Bin.pByte x)):=by
 have c0:=h.c0
 have f0:=h.fr 0
 have HW:=hid h
 have hlt:=h.lt
 clear h
 unfold WrP
 go_enter func76,ntmps76
 go_wp2_with(first
  |(at_builtin;refine wpl_bytes rfl (.tmp 8) (.tmp 10) rfl [x] rfl (HW.out.ob.later ((zx _ _).alloc (zq _) _)) rfl (Sl.newbyte _ _ _ hx _ _ rfl) rfl (by simp;omega) ?_;intro v1 w1 ho1 hk1;obtain⟨A1,n1,c1,rfl⟩:=ho1.is_slice;have HO1:=hid ho1;have HK1:=hid ((Kp.refl_ (w:=w) (v:=v)).alloc _ |>.trans hk1);have g0:=(zm (HK1.out.keep W hlt HW.out.vW).1).trans c0;have gf:=(qv (HK1.out.keep W hlt HW.out.vW).1).trans f0;clear ho1 hk1))
 go_end0
 exact⟨rfl,.slice A1 n1 c1,by simpa[Bin.pByte]using HW.out.put HO1.out HK1.out,(Kw.of_kp HK1.out).set 0 _⟩
theorem flag_any{W:Nat}{w0 w:World}{v u:Value}{bs:List UInt8}{bad:Bool}(b:Bool)(h:Wr W w0 w v u bs bad)(hl:bs.length+1<=200000000):
  Calls prog 93 #[pW W,.bool b] w (WrP W w0 w v u bs bad (Bin.pFlag b)):=by
 have HB:=hid (λ(x:UInt8) (n:Int) (hx:(x.toNat:Int)=n)=>byte_any x n hx h hl)
 clear h
 unfold WrP Bin.pByte at HB
 unfold WrP Bin.pFlag
 cases b
 ·
  have HB:=hid (HB.out 0 0 rfl)
  go_enter func93,ntmps93
  go_wp2_with(first|(go_at_call 76;(with_reducible refine HB.out.mono ?_);rintro e w1 ⟨rfl,v1,hw1,hk1⟩;have HW1:=hid hw1;have HK1:=hid hk1;clear hw1 hk1))
  go_end0
  exact⟨rfl,v1,by simpa using HW1.out,HK1.out⟩
 ·
  have HB:=hid (HB.out 1 1 rfl)
  go_enter func93,ntmps93
  go_wp2_with(first|(go_at_call 76;(with_reducible refine HB.out.mono ?_);rintro e w1 ⟨rfl,v1,hw1,hk1⟩;have HW1:=hid hw1;have HK1:=hid hk1;clear hw1 hk1))
  go_end0
  exact⟨rfl,v1,by simpa using HW1.out,HK1.out⟩
theorem valueType_any{W:Nat}{w0 w:World}{v u:Value}{bs:List UInt8}{bad:Bool}(t:Int)(ht:inI t)(h:Wr W w0 w v u bs bad)(hl:bs.length+1<=200000000):
  Calls prog 92 #[pW W,.int .i64 t] w (WrP W w0 w v u bs bad (Bin.pType t)):=by
 have HB:=hid (λ(x:UInt8) (n:Int) (hx:(x.toNat:Int)=n)=>byte_any x n hx h hl)
 have HR:=hid (refuse_any h)
 clear h
 unfold WrP Bin.pByte at HB
 unfold WrP at HR
 unfold WrP Bin.pType
 by_cases h1:t=1
 ·
  subst h1
  rw[if_pos rfl]
  have HB:=hid (HB.out 127 127 rfl)
  go_enter func92,ntmps92
  go_wp2_with(first|(go_at_call 76;(with_reducible refine HB.out.mono ?_);rintro e w1 ⟨rfl,v1,hw1,hk1⟩;have HW1:=hid hw1;have HK1:=hid hk1;clear hw1 hk1))
  go_end0
  exact⟨rfl,v1,by simpa using HW1.out,HK1.out⟩
 ·
  rw[if_neg h1]
  by_cases h2:t=2
  ·
   subst h2
   rw[if_pos rfl]
   have HB:=hid (HB.out 126 126 rfl)
   go_enter func92,ntmps92
   go_wp2_with(first|(go_at_call 76;(with_reducible refine HB.out.mono ?_);rintro e w1 ⟨rfl,v1,hw1,hk1⟩;have HW1:=hid hw1;have HK1:=hid hk1;clear hw1 hk1))
   go_end0
   exact⟨rfl,v1,by simpa using HW1.out,HK1.out⟩
  ·
   rw[if_neg h2]
   have t1:(t==1)=false:=by simpa using h1
   have t2:(t==2)=false:=by simpa using h2
   unfold inI at ht
   clear h1 h2
   go_enter func92,ntmps92
   go_wp2_with(first|(go_at_call 166;(with_reducible refine HR.out.mono ?_);rintro e w1 ⟨rfl,v1,hw1,hk1⟩;have HW1:=hid hw1;have HK1:=hid hk1;clear hw1 hk1))
   go_end0
   exact⟨rfl,v1,by simpa using HW1.out,HK1.out⟩
theorem kind_any{W:Nat}{w0 w:World}{v u:Value}{bs:List UInt8}{bad:Bool}(k:Int)(hk:inI k)(h:Wr W w0 w v u bs bad)(hl:bs.length+1<=200000000):
  Calls prog 97 #[pW W,.int .i64 k] w (WrP W w0 w v u bs bad (Bin.pKind k)):=by
 have HB:=hid (λ(w':World) (v':Value) (bad':Bool) (n:Int) (hn:n=k%256) (h:Wr W w0 w' v' u bs bad')=>byte_any (b8 k) n (by subst hn;unfold b8;rw[Leb.toNat_ofNat (by omega)];omega) h hl)
 have HR:=hid (refuse_any h)
 have HW:=hid h
 clear h
 unfold WrP Bin.pByte at HB
 unfold WrP at HR
 unfold WrP Bin.pKind
 unfold inI at hk
 by_cases h1:0<=k/\k<=3
 ·
  have e:(decide (0<=k)&&decide (k<=3))=true:=by simp;omega
  rw[e]
  clear e
  have t1:¬k<0:=by omega
  have t2:¬3<k:=by omega
  clear h1
  go_enter func97,ntmps97
  go_wp2_with(first|(go_at_call 76;(with_reducible refine(HB.out _ _ _ _ (by(first|rfl|omega)) HW.out).mono ?_);rintro e w1 ⟨rfl,v1,hw1,hk1⟩;have HW1:=hid hw1;have HK1:=hid hk1;clear hw1 hk1))
  go_end0
  exact⟨rfl,v1,by simpa using HW1.out,HK1.out⟩
 ·
  have e:(decide (0<=k)&&decide (k<=3))=false:=by simp;omega
  rw[e]
  clear e
  have h1:k<0\/(¬k<0/\3<k):=by omega
  rcases h1 with t1|⟨t1,t2⟩
  all_goals
   go_enter func97,ntmps97
   go_wp2_with(first
    |(go_at_call 166;(with_reducible refine HR.out.mono ?_);rintro e w1 ⟨rfl,v1,hw1,hk1⟩;have HW1:=hid hw1;have HK1:=hid hk1;clear hw1 hk1)
    |(go_at_call 76;(with_reducible refine(HB.out _ _ _ _ (by(first|rfl|omega)) (by simpa using HW1.out)).mono ?_);rintro e w2 ⟨rfl,v2,hw2,hk2⟩;have HW2:=hid hw2;have HK2:=hid hk2;clear hw2 hk2))
   go_end0
   exact⟨rfl,v2,by simpa using HW2.out,HK1.out.trans HK2.out⟩
theorem PutU_m(n:Int)(w:World)(m:Int)(hm:m=n%18446744073709551616):
  Calls prog 113 #[.int .u64 m] w λe w'=>∃A c,e=.returned (.slice A (eN n).length c)/\Sl w' w'.heap.size A (u8s (eN n))/\Below w.heap.size w w':=by
 subst hm
 have h:=PutU_e (n%18446744073709551616) w (by omega) (by omega)
 have e:eN (n%18446744073709551616)=eN n:=by unfold eN;congr 1;omega
 rw[e]at h
 exact h
theorem number_any{W:Nat}{w0 w:World}{v u:Value}{bs:List UInt8}{bad:Bool}(n:Int)(hn:inI n)(h:Wr W w0 w v u bs bad)(hl:bs.length+(Bin.pNum n).1.length<=100000000):
  Calls prog 84 #[pW W,.int .i64 n] w (WrP W w0 w v u bs bad (Bin.pNum n)):=by
 have HR:=hid (refuse_any h)
 have HW:=hid h
 have HP:=hid (λ(w:World) (m:Int) (hm:m=n%18446744073709551616)=>PutU_m n w m hm)
 have hl10:=eN_len n
 unfold WrP at HR
 unfold inI at hn
 have hlE:bs.length+(eN n).length<=100000000:=hl
 clear h hl
 unfold WrP Bin.pNum
 have h3:n<0\/(¬n<0/\4294967295<n)\/(¬n<0/\¬4294967295<n):=by omega
 rcases h3 with h0|⟨h0,h1⟩|⟨h0,h1⟩
 ·
  have e:num32 n=false:=by unfold num32;simp;omega
  rw[e]
  clear e
  go_enter func84,ntmps84
  go_wp2_with(first
    |(go_at_call 166;(with_reducible refine HR.out.mono ?_);rintro e w1 ⟨rfl,v1,hw1,hk1⟩;have HW1:=hid hw1;have HK1:=hid hk1;clear hw1 hk1))
  obtain⟨B1,hB1⟩:∃B1,B1=true:=⟨_,rfl⟩
  have HW1:Hid (Wr W w0 w1 v1 u bs B1):=hid (by rw[hB1];simpa using HW1.out)
  obtain⟨W1,hW1⟩:∃W1:World,W1=w1.drew:=⟨_,rfl⟩
  have HW2:Hid (Wr W w0 W1 v1 u bs B1):=hid (by rw[hW1];exact HW1.out.drewN 1)
  have HK2:Hid (Kw W w v W1 v1):=hid (by rw[hW1];exact HK1.out.drewN 1)
  have c0:=HW2.out.c0
  have f0:=HW2.out.fr 0
  have hlt:=HW2.out.lt
  refine wp_region_held_drew (S:=λ_=>True) (by kernel_rfl) trivial (λhHeld=>?_)
  rw[<-hW1]
  clear hW1 HW1 HK1
  refine rtk 0 13 ?_
  refine rtk 1 14 ?_
  refine rtk 2 15 ?_
  refine rtk 3 16 ?_
  refine rtk 5 18 ?_
  refine rtk 6 19 ?_
  refine wpAnyH_ready (rs:=[4,7]) (by kernel_rfl) (by simp) ?_
  refine AllReadyH.cons rfl (λK hK=>?_) (AllReadyH.cons rfl (λK hK=>?_) AllReadyH.nil)
  ·
   go_simp
   refine rbk hK trivial λhHeld=>?_;clear hK K
   refine rcl 7 λK hK=>?_
   go_simp
   refine(HP.out _ _ (by first|omega|rfl)).mono ?_
   rintro e w3 ⟨A3,c3,rfl,hs3,hb3⟩
   have HW3:=hid (HW2.out.later hb3)
   have HK3:=hid (HK2.out.trans (Kw.of_below hb3))
   have HS3:=hid hs3
   clear hs3 hb3
   go_wp2_with fail
   refine rbk hK trivial λhHeld=>?_;clear hK K
   refine rcl 8 λK hK=>?_
   refine wanted_yes' (by rfl) ?_
   refine op_bytes (.tmp 17) (.tmp 20) rfl (eN n) rfl (HW3.out.ob) rfl HS3.out rfl (by omega) ?_
   intro v4 w4 ho4 hk4
   obtain⟨A4,n4,d4,rfl⟩:=ho4.is_slice
   have g0:=(zm (hk4.keep W HW3.out.lt HW3.out.vW).1).trans HW3.out.c0
   have gf:=(qv (hk4.keep W HW3.out.lt HW3.out.vW).1).trans (HW3.out.fr 0)
   have HF:=hid (HW3.out.put ho4 hk4)
   have HK4:=hid ((HK3.out.trans (Kw.of_kp hk4)).set 0 (.slice A4 n4 d4))
   clear ho4 hk4
   refine rbk hK trivial λhHeld=>?_;clear hK K
   refine rtk 9 22 ?_
   refine rtk 10 23 ?_
   refine rcl 11 λK hK=>?_
   go_simp
   refine rbk hK trivial λhHeld=>?_;clear hK K
   refine wpAnyH_done (by kernel_rfl) ?_ _
   go_wp2_with fail
   go_end0
   exact⟨rfl,_,by rw[hB1]at HF;simpa using HF.out,HK4.out⟩
  ·
   go_simp
   refine(HP.out _ _ (by first|omega|rfl)).mono ?_
   rintro e w3 ⟨A3,c3,rfl,hs3,hb3⟩
   have HW3:=hid (HW2.out.later hb3)
   have HK3:=hid (HK2.out.trans (Kw.of_below hb3))
   have HS3:=hid hs3
   have q0:=HW3.out.c0
   clear hs3 hb3
   go_wp2_with fail
   refine rbk hK trivial λhHeld=>?_;clear hK K
   refine rcl 4 λK hK=>?_
   go_simp
   refine rbk hK trivial λhHeld=>?_;clear hK K
   refine rcl 8 λK hK=>?_
   refine wanted_yes' (by rfl) ?_
   refine op_bytes (.tmp 17) (.tmp 20) rfl (eN n) rfl (HW3.out.ob) rfl HS3.out rfl (by omega) ?_
   intro v4 w4 ho4 hk4
   obtain⟨A4,n4,d4,rfl⟩:=ho4.is_slice
   have g0:=(zm (hk4.keep W HW3.out.lt HW3.out.vW).1).trans HW3.out.c0
   have gf:=(qv (hk4.keep W HW3.out.lt HW3.out.vW).1).trans (HW3.out.fr 0)
   have HF:=hid (HW3.out.put ho4 hk4)
   have HK4:=hid ((HK3.out.trans (Kw.of_kp hk4)).set 0 (.slice A4 n4 d4))
   clear ho4 hk4
   refine rbk hK trivial λhHeld=>?_;clear hK K
   refine rtk 9 22 ?_
   refine rtk 10 23 ?_
   refine rcl 11 λK hK=>?_
   go_simp
   refine rbk hK trivial λhHeld=>?_;clear hK K
   refine wpAnyH_done (by kernel_rfl) ?_ _
   go_wp2_with fail
   go_end0
   exact⟨rfl,_,by rw[hB1]at HF;simpa using HF.out,HK4.out⟩
 ·
  have e:num32 n=false:=by unfold num32;simp;omega
  rw[e]
  clear e
  go_enter func84,ntmps84
  go_wp2_with(first
    |(go_at_call 166;(with_reducible refine HR.out.mono ?_);rintro e w1 ⟨rfl,v1,hw1,hk1⟩;have HW1:=hid hw1;have HK1:=hid hk1;clear hw1 hk1))
  obtain⟨B1,hB1⟩:∃B1,B1=true:=⟨_,rfl⟩
  have HW1:Hid (Wr W w0 w1 v1 u bs B1):=hid (by rw[hB1];simpa using HW1.out)
  obtain⟨W1,hW1⟩:∃W1:World,W1=w1.drew:=⟨_,rfl⟩
  have HW2:Hid (Wr W w0 W1 v1 u bs B1):=hid (by rw[hW1];exact HW1.out.drewN 1)
  have HK2:Hid (Kw W w v W1 v1):=hid (by rw[hW1];exact HK1.out.drewN 1)
  have c0:=HW2.out.c0
  have f0:=HW2.out.fr 0
  have hlt:=HW2.out.lt
  refine wp_region_held_drew (S:=λ_=>True) (by kernel_rfl) trivial (λhHeld=>?_)
  rw[<-hW1]
  clear hW1 HW1 HK1
  refine rtk 0 13 ?_
  refine rtk 1 14 ?_
  refine rtk 2 15 ?_
  refine rtk 3 16 ?_
  refine rtk 5 18 ?_
  refine rtk 6 19 ?_
  refine wpAnyH_ready (rs:=[4,7]) (by kernel_rfl) (by simp) ?_
  refine AllReadyH.cons rfl (λK hK=>?_) (AllReadyH.cons rfl (λK hK=>?_) AllReadyH.nil)
  ·
   go_simp
   refine rbk hK trivial λhHeld=>?_;clear hK K
   refine rcl 7 λK hK=>?_
   go_simp
   refine(HP.out _ _ (by first|omega|rfl)).mono ?_
   rintro e w3 ⟨A3,c3,rfl,hs3,hb3⟩
   have HW3:=hid (HW2.out.later hb3)
   have HK3:=hid (HK2.out.trans (Kw.of_below hb3))
   have HS3:=hid hs3
   clear hs3 hb3
   go_wp2_with fail
   refine rbk hK trivial λhHeld=>?_;clear hK K
   refine rcl 8 λK hK=>?_
   refine wanted_yes' (by rfl) ?_
   refine op_bytes (.tmp 17) (.tmp 20) rfl (eN n) rfl (HW3.out.ob) rfl HS3.out rfl (by omega) ?_
   intro v4 w4 ho4 hk4
   obtain⟨A4,n4,d4,rfl⟩:=ho4.is_slice
   have g0:=(zm (hk4.keep W HW3.out.lt HW3.out.vW).1).trans HW3.out.c0
   have gf:=(qv (hk4.keep W HW3.out.lt HW3.out.vW).1).trans (HW3.out.fr 0)
   have HF:=hid (HW3.out.put ho4 hk4)
   have HK4:=hid ((HK3.out.trans (Kw.of_kp hk4)).set 0 (.slice A4 n4 d4))
   clear ho4 hk4
   refine rbk hK trivial λhHeld=>?_;clear hK K
   refine rtk 9 22 ?_
   refine rtk 10 23 ?_
   refine rcl 11 λK hK=>?_
   go_simp
   refine rbk hK trivial λhHeld=>?_;clear hK K
   refine wpAnyH_done (by kernel_rfl) ?_ _
   go_wp2_with fail
   go_end0
   exact⟨rfl,_,by rw[hB1]at HF;simpa using HF.out,HK4.out⟩
  ·
   go_simp
   refine(HP.out _ _ (by first|omega|rfl)).mono ?_
   rintro e w3 ⟨A3,c3,rfl,hs3,hb3⟩
   have HW3:=hid (HW2.out.later hb3)
   have HK3:=hid (HK2.out.trans (Kw.of_below hb3))
   have HS3:=hid hs3
   have q0:=HW3.out.c0
   clear hs3 hb3
   go_wp2_with fail
   refine rbk hK trivial λhHeld=>?_;clear hK K
   refine rcl 4 λK hK=>?_
   go_simp
   refine rbk hK trivial λhHeld=>?_;clear hK K
   refine rcl 8 λK hK=>?_
   refine wanted_yes' (by rfl) ?_
   refine op_bytes (.tmp 17) (.tmp 20) rfl (eN n) rfl (HW3.out.ob) rfl HS3.out rfl (by omega) ?_
   intro v4 w4 ho4 hk4
   obtain⟨A4,n4,d4,rfl⟩:=ho4.is_slice
   have g0:=(zm (hk4.keep W HW3.out.lt HW3.out.vW).1).trans HW3.out.c0
   have gf:=(qv (hk4.keep W HW3.out.lt HW3.out.vW).1).trans (HW3.out.fr 0)
   have HF:=hid (HW3.out.put ho4 hk4)
   have HK4:=hid ((HK3.out.trans (Kw.of_kp hk4)).set 0 (.slice A4 n4 d4))
   clear ho4 hk4
   refine rbk hK trivial λhHeld=>?_;clear hK K
   refine rtk 9 22 ?_
   refine rtk 10 23 ?_
   refine rcl 11 λK hK=>?_
   go_simp
   refine rbk hK trivial λhHeld=>?_;clear hK K
   refine wpAnyH_done (by kernel_rfl) ?_ _
   go_wp2_with fail
   go_end0
   exact⟨rfl,_,by rw[hB1]at HF;simpa using HF.out,HK4.out⟩
 ·
  have e:num32 n=true:=by unfold num32;simp;omega
  rw[e]
  clear e
  obtain⟨B1,hB1⟩:∃B1,B1=bad:=⟨_,rfl⟩
  have HW1:Hid (Wr W w0 w v u bs B1):=hid (by rw[hB1];exact HW.out)
  have HK1:Hid (Kw W w v w v):=hid Kw.refl_
  go_enter func84,ntmps84
  go_wp2_with fail
  obtain⟨w1,hw1⟩:∃w1,w1=w:=⟨_,rfl⟩
  obtain⟨v1,hv1⟩:∃v1,v1=v:=⟨_,rfl⟩
  have HW1:Hid (Wr W w0 w1 v1 u bs B1):=hid (by rw[hw1,hv1];exact HW1.out)
  have HK1:Hid (Kw W w v w1 v1):=hid (by rw[hw1,hv1];exact HK1.out)
  rw[<-hw1]
  clear hw1 hv1
  obtain⟨W1,hW1⟩:∃W1:World,W1=w1.drew:=⟨_,rfl⟩
  have HW2:Hid (Wr W w0 W1 v1 u bs B1):=hid (by rw[hW1];exact HW1.out.drewN 1)
  have HK2:Hid (Kw W w v W1 v1):=hid (by rw[hW1];exact HK1.out.drewN 1)
  have c0:=HW2.out.c0
  have f0:=HW2.out.fr 0
  have hlt:=HW2.out.lt
  refine wp_region_held_drew (S:=λ_=>True) (by kernel_rfl) trivial (λhHeld=>?_)
  rw[<-hW1]
  clear hW1 HW1 HK1
  refine rtk 0 13 ?_
  refine rtk 1 14 ?_
  refine rtk 2 15 ?_
  refine rtk 3 16 ?_
  refine rtk 5 18 ?_
  refine rtk 6 19 ?_
  refine wpAnyH_ready (rs:=[4,7]) (by kernel_rfl) (by simp) ?_
  refine AllReadyH.cons rfl (λK hK=>?_) (AllReadyH.cons rfl (λK hK=>?_) AllReadyH.nil)
  ·
   go_simp
   refine rbk hK trivial λhHeld=>?_;clear hK K
   refine rcl 7 λK hK=>?_
   go_simp
   refine(HP.out _ _ (by first|omega|rfl)).mono ?_
   rintro e w3 ⟨A3,c3,rfl,hs3,hb3⟩
   have HW3:=hid (HW2.out.later hb3)
   have HK3:=hid (HK2.out.trans (Kw.of_below hb3))
   have HS3:=hid hs3
   clear hs3 hb3
   go_wp2_with fail
   refine rbk hK trivial λhHeld=>?_;clear hK K
   refine rcl 8 λK hK=>?_
   refine wanted_yes' (by rfl) ?_
   refine op_bytes (.tmp 17) (.tmp 20) rfl (eN n) rfl (HW3.out.ob) rfl HS3.out rfl (by omega) ?_
   intro v4 w4 ho4 hk4
   obtain⟨A4,n4,d4,rfl⟩:=ho4.is_slice
   have g0:=(zm (hk4.keep W HW3.out.lt HW3.out.vW).1).trans HW3.out.c0
   have gf:=(qv (hk4.keep W HW3.out.lt HW3.out.vW).1).trans (HW3.out.fr 0)
   have HF:=hid (HW3.out.put ho4 hk4)
   have HK4:=hid ((HK3.out.trans (Kw.of_kp hk4)).set 0 (.slice A4 n4 d4))
   clear ho4 hk4
   refine rbk hK trivial λhHeld=>?_;clear hK K
   refine rtk 9 22 ?_
   refine rtk 10 23 ?_
   refine rcl 11 λK hK=>?_
   go_simp
   refine rbk hK trivial λhHeld=>?_;clear hK K
   refine wpAnyH_done (by kernel_rfl) ?_ _
   go_wp2_with fail
   go_end0
   exact⟨rfl,_,by rw[hB1]at HF;simpa using HF.out,HK4.out⟩
  ·
   go_simp
   refine(HP.out _ _ (by first|omega|rfl)).mono ?_
   rintro e w3 ⟨A3,c3,rfl,hs3,hb3⟩
   have HW3:=hid (HW2.out.later hb3)
   have HK3:=hid (HK2.out.trans (Kw.of_below hb3))
   have HS3:=hid hs3
   have q0:=HW3.out.c0
   clear hs3 hb3
   go_wp2_with fail
   refine rbk hK trivial λhHeld=>?_;clear hK K
   refine rcl 4 λK hK=>?_
   go_simp
   refine rbk hK trivial λhHeld=>?_;clear hK K
   refine rcl 8 λK hK=>?_
   refine wanted_yes' (by rfl) ?_
   refine op_bytes (.tmp 17) (.tmp 20) rfl (eN n) rfl (HW3.out.ob) rfl HS3.out rfl (by omega) ?_
   intro v4 w4 ho4 hk4
   obtain⟨A4,n4,d4,rfl⟩:=ho4.is_slice
   have g0:=(zm (hk4.keep W HW3.out.lt HW3.out.vW).1).trans HW3.out.c0
   have gf:=(qv (hk4.keep W HW3.out.lt HW3.out.vW).1).trans (HW3.out.fr 0)
   have HF:=hid (HW3.out.put ho4 hk4)
   have HK4:=hid ((HK3.out.trans (Kw.of_kp hk4)).set 0 (.slice A4 n4 d4))
   clear ho4 hk4
   refine rbk hK trivial λhHeld=>?_;clear hK K
   refine rtk 9 22 ?_
   refine rtk 10 23 ?_
   refine rcl 11 λK hK=>?_
   go_simp
   refine rbk hK trivial λhHeld=>?_;clear hK K
   refine wpAnyH_done (by kernel_rfl) ?_ _
   go_wp2_with fail
   go_end0
   exact⟨rfl,_,by rw[hB1]at HF;simpa using HF.out,HK4.out⟩
namespace Bin
def pPre{α:Type}(p:α->Pc)(l:List α)(j:Nat):Pc:=cat (pNum l.length) (pAll p (l.take j))
theorem pPre_zero{α:Type}(p:α->Pc)(l:List α):pPre p l 0=cat (pNum l.length) ([],true):=rfl
theorem cat_assoc(a b c:Pc):cat (cat a b) c=cat a (cat b c):=by simp[cat,qo]
theorem pPre_succ{α:Type}(p:α->Pc)(l:List α)(j:Nat)(x:α)(h:l[j]? =some x):pPre p l (j+1)=cat (pPre p l j) (p x):=by
 obtain⟨hj,he⟩:=List.getElem?_eq_some_iff.1 h
 unfold pPre
 rw[ql hj,pAll_snoc,he,cat_assoc]
theorem pPre_all{α:Type}(p:α->Pc)(l:List α)(j:Nat)(h:l.length<=j):pPre p l j=pList p l:=by
 unfold pPre pList
 rw[zo h]
theorem pAll_append{α:Type}(p:α->Pc)(a b:List α):pAll p (a++b)=cat (pAll p a) (pAll p b):=by simp[pAll,cat]
theorem pPre_le{α:Type}(p:α->Pc)(l:List α)(j:Nat):(pPre p l j).1.length<=(pList p l).1.length:=by
 have e:pList p l=cat (pPre p l j) (pAll p (l.drop j)):=by
  unfold pPre pList
  rw[cat_assoc,<-pAll_append,jw]
 rw[e]
 simp[cat]
theorem pPre_len{α:Type}(p:α->Pc)(l:List α)(j:Nat)(x:α)(h:l[j]? =some x):(pPre p l j).1.length+(p x).1.length<=(pList p l).1.length:=by
 have h1:=pPre_le p l (j+1)
 rw[pPre_succ p l j x h]at h1
 simpa[cat]using h1
theorem pNum_le{α:Type}(p:α->Pc)(l:List α):(pNum l.length).1.length<=(pList p l).1.length:=by
 have:=pPre_le p l 0
 simpa[pPre_zero,cat]using this
end Bin
theorem Wr.eq{W:Nat}{w0 w:World}{v u:Value}{bs bs':List UInt8}{bad bad':Bool}(h:Wr W w0 w v u bs bad)(e1:bs=bs')(e2:bad=bad'):Wr W w0 w v u bs' bad':=by subst e1 e2;exact h
theorem Wr.cat{W:Nat}{w0 w:World}{v u:Value}{bs:List UInt8}{bad:Bool}{a b:Bin.Pc}(h:Wr W w0 w v u ((bs++a.1)++b.1) ((bad || !a.2) || !b.2)):Wr W w0 w v u (bs++(Bin.cat a b).1) (bad || !(Bin.cat a b).2):=
 h.eq (by simp[Bin.cat]) (by cases bad<;>simp[Bin.cat])
def Lst(W:Nat)(w:World)(v:Value)(A:Option Addr)(k:Nat)(rs:List (List Value)):Prop:=∀w' v',Kw W w v w' v'->RowsAt w' w'.heap.size A k rs
theorem Lst.kw{W:Nat}{w w':World}{v v':Value}{A:Option Addr}{k:Nat}{rs:List (List Value)}(h:Lst W w v A k rs)(hk:Kw W w v w' v'):Lst W w' v' A k rs:=λw2 v2 h2=>h w2 v2 (hk.trans h2)
theorem Lst.now{W:Nat}{w:World}{v:Value}{A:Option Addr}{k:Nat}{rs:List (List Value)}(h:Lst W w v A k rs):RowsAt w w.heap.size A k rs:=h w v Kw.refl_
theorem Wr.old{W:Nat}{w0 w w':World}{v v' u:Value}{bs:List UInt8}{bad:Bool}(h:Wr W w0 w v u bs bad)(hk:Kw W w v w' v'){b:Nat}(hb:b<w0.heap.size):w'.heap[b]? =w0.heap[b]?:=
 (hk.keep b (zj hb h.below.size) (λe=>by have:=h.hW;omega) (h.ob.old hb)).1.trans (h.below.block b hb)
theorem Wr.lst{W:Nat}{w0 w:World}{v u:Value}{bs:List UInt8}{bad:Bool}(h:Wr W w0 w v u bs bad){A:Option Addr}{k:Nat}{rs:List (List Value)}(hr:RowsAt w0 w0.heap.size A k rs):Lst W w v A k rs:=λw' v' hk=>
 hr.keep (zy h.below.size hk.size) λb o hb=>zm (h.old hk hb)
@[reducible] def Bo(W:Nat)(w:World)(v:Value)(N:Nat)(vals:List Value):Prop:=vals≠[]->Bx W w v N vals
section
variable{W N B:Nat}{w0 wb w w':World}{vb v v' u y:Value}{vals cap:List Value}{bs bs':List UInt8}{bad bad':Bool}
theorem Bo.nil:Bo W w v N []:=λh=>absurd rfl h
theorem Bo.c(h:Bo W w v N vals)(i:Nat)(e:vals[i]? =some y):w.cell? ⟨N,i,none⟩=some y:=(h (by rintro rfl;simp at e)).cell i y e
structure Wz(W:Nat)(w0 wb:World)(vb u:Value)(N:Nat)(vals:List Value)(B:Nat)(cap:List Value)(w:World)(v:Value)(bs:List UInt8)(bad:Bool):Prop where
 wr:Wr W w0 w v u bs bad
 k:Kw W wb vb w v
 x:Bo W w v N vals
 b:Bo W w v B cap
theorem Wz.step(h:Wz W w0 wb vb u N vals B cap w v bs bad)(hw:Wr W w0 w' v' u bs' bad')(hk:Kw W w v w' v'):Wz W w0 wb vb u N vals B cap w' v' bs' bad':=⟨hw,h.k.trans hk,λhn=>(h.x hn).kw hk,λhn=>(h.b hn).kw hk⟩
theorem Wz.alloc(h:Wz W w0 wb vb u N vals B cap w v bs bad)(o:Obj):Wz W w0 wb vb u N vals B cap (w.alloc o) v bs bad:=h.step (h.wr.alloc o) (Kw.refl_.alloc o)
theorem Wz.here(h:Wr W w0 w v u bs bad)(hb:Bo W w v B cap):Wz W w0 w v u 0 [] B cap w v bs bad:=⟨h,Kw.refl_,Bo.nil,hb⟩
theorem Wz.new(h:Wr W w0 w v u bs bad)(hb:Bo W w v B cap)(vals:List Value)(t:TypeId):Wz W w0 w v u w.heap.size vals B cap (w.alloc (.cells vals.toArray t)) v bs bad:=⟨h.alloc _,Kw.refl_.alloc _,λ_=>Bx.new h vals.toArray t _ rfl (by simp),λhn=>(hb hn).alloc _⟩
end
end Go.Proofs.YteoijlfipmaoeaaGreatDoor

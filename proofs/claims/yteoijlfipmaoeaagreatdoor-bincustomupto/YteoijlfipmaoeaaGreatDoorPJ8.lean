import Derived.Test.YteoijlfipmaoeaaGreatDoorPJ6
import Derived.Test.YteoijlfipmaoeaaGreatDoorPJ7
set_option linter.unusedVariables false
set_option linter.unusedSimpArgs false
set_option maxHeartbeats 1000000
namespace Go.Proofs.YteoijlfipmaoeaaGreatDoor.Leb
theorem sOf_enc32{l:List UInt8}(h:Enc l)(more:List UInt8)(h1: -2147483648<=sval l)(h2:sval l<2147483648)(h5:l.length<=5):
  sOf (l++more) 0 32=some (sval l,l.length):=by
 have hp:=h.pos
 have hl:=joinOf_last l l.length hp (zq _)
 rw[xo,xw h.last]at hl
 have hlast:=h.last
 unfold sOf
 rw[xx,lenOf_enc h,if_pos (by omega)]
 simp only[qz,List.take_left]
 have hget0:l[l.length-1]?.getD 0=l[l.length-1]'(by omega):=by simp[show l.length-1<l.length by omega]
 have hget:(l++more)[l.length-1]?.getD 0=l[l.length-1]'(by omega):=by
  rw[jx (by omega)]
  exact hget0
 rw[hget]
 unfold sval at *
 rw[hget0]at h1 h2⊢
 obtain⟨x,hx⟩:∃x,x=(l[l.length-1]'(by omega)).toNat:=⟨_,rfl⟩
 rw[<-hx]at hl h1 h2 hlast⊢
 rw[if_neg]
 rintro⟨e1,e2⟩
 have e1':l.length=5:=by omega
 rw[e1']at hl h1 h2
 have hev:evenB x (32-7 * ((32+6) / 7-1))=true:=by
  have h3:(2:Int)^(7 * 5)=34359738368:=by decide
  have h4:(2:Nat)^(7 * (5-1))=268435456:=by decide
  rw[h3]at h1 h2
  rw[h4]at hl
  have h6:(2:Nat)^(32-7 * ((32+6) / 7-1)-1)=8:=by decide
  simp only[evenB,h6,jc,beq_iff_eq]
  split at h1<;>omega
 rw[hev]at e2
 cases e2
theorem putS_read32(v:Int)(more:List UInt8)(h1: -2147483648<=v)(h2:v<2147483648):sOf (putS v++more) 0 32=some (v,(putS v).length):=by
 obtain⟨he,hv⟩:=putS_enc v.natAbs v (zq _)
 have:=sOf_enc32 he more (by rw[hv];exact h1) (by rw[hv];exact h2) (putS_len 4 v (by omega) (by omega))
 rw[hv]at this
 exact this
end Go.Proofs.YteoijlfipmaoeaaGreatDoor.Leb
namespace Go.Proofs.YteoijlfipmaoeaaGreatDoor.Trx
open Go.RowKit
def b8(n:Int):UInt8:=UInt8.ofNat (n%256).toNat
def eN(n:Int):List UInt8:=Leb.putU (n%18446744073709551616).toNat
def s32(v:Int):Int:=if 2147483648<=v then v-4294967296 else v
def s64(v:Int):Int:=if 9223372036854775808<=v then v-18446744073709551616 else v
def eRes(t:Int):UInt8:=if t=0 then 64 else b8 (128-t)
def eP(op a b v:Int)(L:List Int):List UInt8:=
 if knd op=7\/knd op=8 then eN a++eN b else if knd op=9 then[0]else if op=65 then Leb.putS (s32 v)else if op=66 then Leb.putS (s64 v)
 else if op=14 then eN ((L.length:Int)-1)++L.flatMap eN else if op=17 then eN a++[0]else if knd op=4\/knd op=6\/op=12\/op=13 then eN a else[]
def eB(op a b v t:Int)(L:List Int)(body els:List UInt8)(he:Bool):List UInt8:=
 if knd op=2 then eRes t::(body++((if he then 5::els else[])++[11]))else eP op a b v L
def enc:Fo->List UInt8
 |.nil=>[]
 |.cons op a b v t L body els he next=>b8 op::(eB op a b v t L (enc body) (enc els) he++enc next)
theorem enc_append(l m:List Nd):enc (ofN (l++m))=enc (ofN l)++enc (ofN m):=by
 induction l with
 |nil=>rfl
 |cons n l ih=>simp only[zi,ofN,enc,ih,zt]
abbrev Rs(α:Type):=Except (Nat×Nat) (α×List UInt8×Nat)
def rdInt(l:List UInt8)(p:Nat):Rs Int:=match Leb.uOf l 0 32 with
 |none=>.error (2,p)
 |some (v,k)=>.ok ((v:Int),l.drop k,p+k)
def rdSig(bits:Nat)(l:List UInt8)(p:Nat):Rs Int:=match Leb.sOf l 0 bits with
 |none=>.error (2,p)
 |some (z,k)=>.ok (z,l.drop k,p+k)
def rdMust(x:UInt8):List UInt8->Nat->Rs Unit
 | [],p=>.error (2,p)
 |b::r,p=>if b=x then .ok ((),r,p+1)else .error (2,p)
def rdKind:List UInt8->Nat->Rs Int
 | [],p=>.error (2,p)
 |b::r,p=>if b=64 then .ok (0,r,p+1)else if b=127 then .ok (1,r,p+1)else if b=126 then .ok (2,r,p+1)else if b=125\/b=124 then .error (3,p)else .error (2,p)
def rdTab:Nat->List UInt8->Nat->Rs (List Int)
 |0,l,p=>.ok ([],l,p)
 |n+1,l,p=>match rdInt l p with
  |.error e=>.error e
  |.ok (x,l1,p1)=>match rdTab n l1 p1 with
   |.error e=>.error e
   |.ok (xs,l2,p2)=>.ok (x::xs,l2,p2)
def rdP(op:Int)(l:List UInt8)(p:Nat):Rs Nd:=
 if knd op=7\/knd op=8 then match rdInt l p with
  |.error e=>.error e
  |.ok (a,l1,p1)=>match rdInt l1 p1 with
   |.error e=>.error e
   |.ok (b,l2,p2)=>.ok (⟨op,a,b,0,0,[],.nil,.nil,false⟩,l2,p2)
 else if knd op=9 then match rdMust 0 l p with
  |.error e=>.error e
  |.ok (_,l1,p1)=>.ok (⟨op,0,0,0,0,[],.nil,.nil,false⟩,l1,p1)
 else if op=65 then match rdSig 32 l p with
  |.error e=>.error e
  |.ok (z,l1,p1)=>.ok (⟨op,0,0,z%4294967296,0,[],.nil,.nil,false⟩,l1,p1)
 else if op=66 then match rdSig 64 l p with
  |.error e=>.error e
  |.ok (z,l1,p1)=>.ok (⟨op,0,0,z%18446744073709551616,0,[],.nil,.nil,false⟩,l1,p1)
 else if op=14 then match rdInt l p with
  |.error e=>.error e
  |.ok (n,l1,p1)=>if 63<n then .error (7,p)else match rdTab (n.toNat+1) l1 p1 with
   |.error e=>.error e
   |.ok (L,l2,p2)=>.ok (⟨op,0,0,0,0,L,.nil,.nil,false⟩,l2,p2)
 else if op=17 then match rdInt l p with
  |.error e=>.error e
  |.ok (a,l1,p1)=>match rdMust 0 l1 p1 with
   |.error e=>.error e
   |.ok (_,l2,p2)=>.ok (⟨op,a,0,0,0,[],.nil,.nil,false⟩,l2,p2)
 else if knd op=4\/knd op=6\/op=12\/op=13 then match rdInt l p with
  |.error e=>.error e
  |.ok (a,l1,p1)=>.ok (⟨op,a,0,0,0,[],.nil,.nil,false⟩,l1,p1)
 else .ok (⟨op,0,0,0,0,[],.nil,.nil,false⟩,l,p)
def consN(n:Nd)(f:Fo):Fo:=.cons n.op n.a n.b n.v n.t n.L n.body n.els n.he f
def rdL:Nat->Nat->Nat->List UInt8->Nat->Rs (Fo×Nat×Nat)
 |0,_,_,_,p=>.error (0,p)
 |_+1,_,_,[],p=>.error (2,p)
 |fuel+1,depth,n,b::l,p=>
  if b=11\/b=5 then .ok ((.nil,b.toNat,n),l,p+1)
  else if Opx.flt b.toNat then .error (3,p)else if knd b.toNat=0 then .error (2,p)else if 512<=n\/(knd b.toNat=2/\32<=depth)then .error (7,p)
  else
   let go:Nd->Nat->List UInt8->Nat->Rs (Fo×Nat×Nat):=λnd n' l' p'=>match rdL fuel depth n' l' p' with
    |.error e=>.error e
    |.ok ((f,last,n2),l2,p2)=>.ok ((consN nd f,last,n2),l2,p2)
   if knd b.toNat=2 then match rdKind l (p+1)with
    |.error e=>.error e
    |.ok (t,l1,p1)=>match rdL fuel (depth+1) (n+1) l1 p1 with
     |.error e=>.error e
     |.ok ((body,last,n2),l2,p2)=>
      if last=5/\b=4 then match rdL fuel (depth+1) n2 l2 p2 with
       |.error e=>.error e
       |.ok ((els,last2,n3),l3,p3)=>if last2=5 then .error (2,p3-1)else go ⟨b.toNat,0,0,0,t,[],body,els,true⟩ n3 l3 p3
      else if last=5 then .error (2,p2-1)else go ⟨b.toNat,0,0,0,t,[],body,.nil,false⟩ n2 l2 p2
   else match rdP b.toNat l (p+1)with
    |.error e=>.error e
    |.ok (nd,l1,p1)=>go nd (n+1) l1 p1
theorem eN_read(a:Int)(h:num32 a=true)(more:List UInt8)(p:Nat):rdInt (eN a++more) p=.ok (a,more,p+(eN a).length):=by
 obtain⟨h1,h2⟩:=(num32_iff a).1 h
 have e:(a%18446744073709551616).toNat=a.toNat:=by omega
 unfold rdInt eN
 have h32:(2:Nat)^32=4294967296:=by decide
 rw[e,Leb.put_read _ 32 more (by omega) (by omega),if_pos (by omega)]
 simp only[List.drop_left]
 rw[Int.toNat_of_nonneg h1]
theorem tab_read(L:List Int)(h:L.all num32=true)(more:List UInt8)(p:Nat):rdTab L.length (L.flatMap eN++more) p=.ok (L,more,p+(L.flatMap eN).length):=by
 induction L generalizing p with
 |nil=>rfl
 |cons x L ih=>
  rw[List.all_cons,zp]at h
  simp only[zl,js,zt,rdTab]
  rw[eN_read x h.1]
  simp only
  rw[ih h.2]
  simp only[zz]
  rw[ju]
theorem s32_read(v:Int)(h0:0<=v)(h:v<=4294967295)(more:List UInt8)(p:Nat):rdSig 32 (Leb.putS (s32 v)++more) p=.ok (s32 v,more,p+(Leb.putS (s32 v)).length)/\s32 v%4294967296=v:=by
 have h1: -2147483648<=s32 v/\s32 v<2147483648:=by unfold s32;split<;>omega
 unfold rdSig
 rw[Leb.putS_read32 _ more h1.1 h1.2]
 refine⟨by simp only[List.drop_left],by unfold s32;split<;>omega⟩
theorem s64_read(v:Int)(h0:0<=v)(h:v<=18446744073709551615)(more:List UInt8)(p:Nat):rdSig 64 (Leb.putS (s64 v)++more) p=.ok (s64 v,more,p+(Leb.putS (s64 v)).length)/\s64 v%18446744073709551616=v:=by
 have h1: -9223372036854775808<=s64 v/\s64 v<9223372036854775808:=by unfold s64;split<;>omega
 unfold rdSig
 rw[Leb.putS_read _ more h1.1 h1.2]
 refine⟨by simp only[List.drop_left],by unfold s64;split<;>omega⟩
theorem knd_in{op:Int}(h:knd op≠0):0<=op/\op<174:=by
 unfold knd at h
 split at h
 ·exact absurd rfl h
 ·
  rename_i hn
  unfold Opx.nm at hn
  split at hn
  ·
   rename_i h0
   refine⟨h0,?_⟩
   rcases qm op.toNat 174 with h1|h1
   ·omega
   ·
    have ht:Opx.tab.length=174:=by decide +kernel
    exact absurd (by rw[jm,qt (by omega)];rfl) hn
  ·exact absurd rfl hn
theorem knd_kd{op:Int}(h:knd op≠0):knd op=Opx.kd op:=by
 unfold knd at *
 split at h
 ·exact absurd rfl h
 ·
  rename_i hn
  rw[if_neg hn]
theorem b8_nat{op:Int}(h:knd op≠0):((b8 op).toNat:Int)=op:=by
 obtain⟨h1,h2⟩:=knd_in h
 unfold b8
 rw[Leb.toNat_ofNat (by omega)]
 omega
theorem knd_5:knd 5=0:=by decide +kernel
theorem knd_11:knd 11=0:=by decide +kernel
theorem knd_flt{op:Int}(h:knd op≠0):Opx.flt op=false:=by
 obtain⟨h1,h2⟩:=knd_in h
 have:=List.all_eq_true.1 Opx.no_flt op.toNat (List.mem_range.2 (by omega))
 rw[Int.toNat_of_nonneg h1]at this
 rw[jc]at this
 rcases this with h3|h3
 ·simpa using h3
 ·exact absurd (by unfold knd;rw[if_pos h3]) h
theorem kd_iff(op:Int):(Opx.kd op=2↔2<=op/\op<=4)/\(Opx.kd op=4↔16<=op/\op<=17)/\(Opx.kd op=6↔28<=op/\op<=36)/\(Opx.kd op=7↔37<=op/\op<=53)/\(Opx.kd op=8↔54<=op/\op<=62)/\(Opx.kd op=9↔63<=op/\op<=64)/\(Opx.kd op=10↔65<=op/\op<=66):=by
 have key:(op<=1/\Opx.kd op=1)\/(2<=op/\op<=4/\Opx.kd op=2)\/(5<=op/\op<=15/\Opx.kd op=3)\/(16<=op/\op<=17/\Opx.kd op=4)\/(18<=op/\op<=27/\Opx.kd op=5)\/(28<=op/\op<=36/\Opx.kd op=6)\/(37<=op/\op<=53/\Opx.kd op=7)\/
   (54<=op/\op<=62/\Opx.kd op=8)\/(63<=op/\op<=64/\Opx.kd op=9)\/(65<=op/\op<=66/\Opx.kd op=10)\/(67<=op/\Opx.kd op=11):=by
  obtain⟨k,hk⟩:∃k,Opx.kd op=k:=⟨_,rfl⟩
  rw[hk]
  unfold Opx.kd at hk
  repeat' split at hk
  all_goals omega
 omega
theorem fit_facts{op a b v t:Int}{L:List Int}{nb ne he:Bool}(h:fit op a b v t L nb ne he=true):
  knd op≠0/\((knd op=4\/knd op=6\/op=12\/op=13\/knd op=7\/knd op=8)\/a=0)/\((knd op=7\/knd op=8)\/b=0)/\(knd op=10\/v=0)/\(knd op=2\/(t=0/\nb=true))/\(op=14\/L=[])/\(op=14->L≠[])/\
  (op=4\/he=false)/\(he=true\/ne=true)/\num32 a=true/\num32 b=true/\(0<=t/\t<=2)/\(op=65->v<=4294967295)/\L.all num32=true:=by
 simp only[fit,zp,jc,Bool.not_eq_true',beq_iff_eq,beq_eq_false_iff_ne,decide_eq_true_eq,List.isEmpty_iff,List.isEmpty_eq_false_iff,Bool.and_eq_false_iff,decide_eq_false_iff_not]at h
 obtain⟨⟨⟨⟨⟨⟨⟨⟨⟨⟨⟨⟨⟨⟨h0,h1⟩,h2⟩,h3⟩,h4⟩,h5⟩,h6⟩,h7⟩,h8⟩,h9⟩,h10⟩,h11⟩,h12⟩,h13⟩,h14⟩:=h
 refine⟨h0,?_,h2,h3,h4,h5,?_,h7,h8,h9,h10,⟨h11,h12⟩,?_,h14⟩
 ·
  rcases h1 with h1|h1
  ·
   left
   rcases h1 with((((h1|h1)|h1)|h1)|h1)|h1<;>simp[h1]
  ·exact .inr h1
 ·
  intro e
  rcases h6 with h6|h6
  ·exact absurd e h6
  ·exact h6
 ·
  intro e
  rcases h13 with h13|h13
  ·exact absurd e h13
  ·omega
theorem plain_read(op a b v t:Int)(L:List Int)(nb ne he:Bool)(hk:knd op≠2)(hf:fit op a b v t L nb ne he=true)(hv:0<=v/\v<=18446744073709551615)(hL:L.length<=64)(more:List UInt8)(p:Nat):
  rdP op (eP op a b v L++more) p=.ok (⟨op,a,b,v,t,L,.nil,.nil,false⟩,more,p+(eP op a b v L).length)/\nb=true/\ne=true/\he=false:=by
 obtain⟨h0,h1,h2,h3,h4,h5,h6,h7,h8,h9,h10,h11,h12,h13⟩:=fit_facts hf
 obtain⟨d2,d4,d6,d7,d8,d9,d10⟩:=kd_iff op
 rw[<-knd_kd h0]at d2 d4 d6 d7 d8 d9 d10
 obtain⟨ht,hnb⟩:t=0/\nb=true:=by rcases h4 with h|h;exact absurd h hk;exact h
 have hhe:he=false:=by
  rcases h7 with h|h
  ·exact absurd (by omega) hk
  ·exact h
 have hne:ne=true:=by rcases h8 with h|h;rw[hhe]at h;cases h;exact h
 refine⟨?_,hnb,hne,hhe⟩
 subst ht
 clear hf h4 h7 h8 h11 hnb hne hhe
 unfold rdP eP
 by_cases c1:knd op=7\/knd op=8
 ·
  have hv0:v=0:=by omega
  have hL0:L=[]:=by rcases h5 with h|h;omega;exact h
  rw[if_pos c1,if_pos c1,zt,eN_read a h9]
  simp only
  rw[eN_read b h10]
  simp only[zz]
  rw[hv0,hL0,ju]
 rw[if_neg c1,if_neg c1]
 have hb0:b=0:=by rcases h2 with h|h;exact absurd h c1;exact h
 subst hb0
 by_cases c2:knd op=9
 ·
  have hv0:v=0:=by omega
  have ha0:a=0:=by omega
  have hL0:L=[]:=by rcases h5 with h|h;omega;exact h
  rw[if_pos c2,if_pos c2,hv0,ha0,hL0]
  simp[rdMust]
 rw[if_neg c2,if_neg c2]
 by_cases c3:op=65
 ·
  have ha0:a=0:=by omega
  have hL0:L=[]:=by rcases h5 with h|h;omega;exact h
  obtain⟨e1,e2⟩:=s32_read v hv.1 (h12 c3) more p
  rw[if_pos c3,if_pos c3,e1]
  simp only
  rw[e2,ha0,hL0]
 rw[if_neg c3,if_neg c3]
 by_cases c4:op=66
 ·
  have ha0:a=0:=by omega
  have hL0:L=[]:=by rcases h5 with h|h;omega;exact h
  obtain⟨e1,e2⟩:=s64_read v hv.1 hv.2 more p
  rw[if_pos c4,if_pos c4,e1]
  simp only
  rw[e2,ha0,hL0]
 rw[if_neg c4,if_neg c4]
 have hv0:v=0:=by omega
 subst hv0
 by_cases c5:op=14
 ·
  have ha0:a=0:=by omega
  have hne:=h6 c5
  have hpos:0<L.length:=List.length_pos_iff.2 hne
  rw[if_pos c5,if_pos c5,zt,eN_read _ ((num32_iff _).2 (by omega))]
  simp only
  rw[if_neg (by omega),show((L.length:Int)-1).toNat+1=L.length by omega,tab_read L h13]
  simp only[zz]
  rw[ha0,ju]
 rw[if_neg c5,if_neg c5]
 have hL0:L=[]:=by rcases h5 with h|h;exact absurd h c5;exact h
 subst hL0
 by_cases c6:op=17
 ·
  rw[if_pos c6,if_pos c6,zt,eN_read a h9]
  simp[rdMust,ju]
 rw[if_neg c6,if_neg c6]
 by_cases c7:knd op=4\/knd op=6\/op=12\/op=13
 ·rw[if_pos c7,if_pos c7,eN_read a h9]
 ·
  have ha0:a=0:=by omega
  rw[if_neg c7,if_neg c7,ha0]
  simp
def lsh:Fo->Bool
 |.nil=>true
 |.cons _ _ _ _ _ L body els _ next=>(decide (L.length<=64)&&lsh body&&lsh els)&&lsh next
def vok:Fo->Prop
 |.nil=>True
 |.cons _ _ _ v _ _ body els _ next=>(0<=v/\v<=18446744073709551615)/\vok body/\vok els/\vok next
theorem up1_eq{x:Int}(h0:0<=x)(h:x<=1000):up1 x=x+1:=by unfold up1 wrap64;omega
theorem dp_cnt(f:Fo)(h:cnt f<=1000):dp f<=cnt f:=by
 induction f with
 |nil=>simp[dp,cnt]
 |cons op a b v t L body els he next ih1 ih2 ih3=>
  simp only[cnt]at h⊢
  have h1:=ih1 (by omega)
  have h2:=ih2 (by omega)
  have h3:=ih3 (by omega)
  have g1:=dp_nonneg body
  have g2:=dp_nonneg els
  simp only[dp]
  split
  ·
   rw[up1_eq g1 (by omega),up1_eq g2 (by omega)]
   omega
  ·omega
theorem isNil_nil{f:Fo}(h:isNil f=true):f=.nil:=by cases f<;>simp[isNil]at h⊢
theorem kind_read(t:Int)(h:0<=t/\t<=2)(r:List UInt8)(p:Nat):rdKind (eRes t::r) p=.ok (t,r,p+1):=by
 have:t=0\/t=1\/t=2:=by omega
 rcases this with rfl|rfl|rfl<;>rfl
theorem enc_read(f:Fo):∀(fuel depth n:Nat) (e:UInt8) (more:List UInt8) (p:Nat),may f=true->lsh f=true->vok f->n+cnt f<=512->(depth:Int)+dp f<=32->(enc f).length<fuel->(e=11\/e=5)->
  rdL fuel depth n (enc f++e::more) p=.ok ((f,e.toNat,n+cnt f),more,p+(enc f).length+1):=by
 induction f with
 |nil=>
  intro fuel depth n e more p _ _ _ _ _ hfu he
  obtain⟨k,rfl⟩:∃k,fuel=k+1:=⟨fuel-1,by omega⟩
  simp only[enc,qx,rdL,if_pos he,cnt,qe,zh]
 |cons op a b v t L body els he next ih1 ih2 ih3=>
  intro fuel depth n e more p hm hs hv hn hd hfu hee
  obtain⟨k,rfl⟩:∃k,fuel=k+1:=⟨fuel-1,by omega⟩
  simp only[may,zp]at hm
  obtain⟨⟨⟨hfit,hm1⟩,hm2⟩,hm3⟩:=hm
  simp only[lsh,zp,decide_eq_true_eq]at hs
  obtain⟨⟨⟨hs0,hs1⟩,hs2⟩,hs3⟩:=hs
  obtain⟨hv0,hv1,hv2,hv3⟩:=hv
  simp only[cnt]at hn
  obtain⟨h0,h1,h2,h3,h4,h5,h6,h7,h8,h9,h10,h11,h12,h13⟩:=fit_facts hfit
  have hb:=b8_nat h0
  have hop:=knd_in h0
  obtain⟨d2,-⟩:=kd_iff op
  rw[<-knd_kd h0]at d2
  have hne:¬(b8 op=11\/b8 op=5):=by
   rintro(h|h)
   ·
    rw[h]at hb
    exact h0 (by rw[<-hb];exact knd_11)
   ·
    rw[h]at hb
    exact h0 (by rw[<-hb];exact knd_5)
  have hblk:knd op=2->isBlk op=true:=λh=>by unfold isBlk;have:=d2.1 h;simp;omega
  have hblk':isBlk op=true->knd op=2:=λh=>by unfold isBlk at h;simp at h;exact d2.2 (by omega)
  have g0:=dp_nonneg next
  have g1:=dp_nonneg body
  have g2:=dp_nonneg els
  have c1:=dp_cnt body (by omega)
  have c2:=dp_cnt els (by omega)
  simp only[dp]at hd
  rw[up1_eq g1 (by omega),up1_eq g2 (by omega)]at hd
  have hlim:¬(512<=n\/(knd op=2/\32<=depth)):=by
   rintro(h|⟨h,h'⟩)
   ·omega
   ·
    rw[if_pos (hblk h)]at hd
    omega
  simp only[enc,zi,rdL,hb]
  rw[if_neg hne,if_neg (by rw[knd_flt h0];simp),if_neg h0,if_neg hlim]
  simp only[enc,zl,zz]at hfu
  by_cases hk:knd op=2
  ·
   rw[if_pos (hblk hk)]at hd
   have ha0:a=0:=by
    rcases h1 with h|h
    ·
     exfalso
     have:=d2.1 hk
     rcases h with h|h|h|h|h|h<;>omega
    ·exact h
   have hb0:b=0:=by rcases h2 with h|h;exfalso;omega;exact h
   have hv0':v=0:=by rcases h3 with h|h;exfalso;omega;exact h
   have hL0:L=[]:=by rcases h5 with h|h;exfalso;have:=d2.1 hk;omega;exact h
   subst ha0 hb0 hv0' hL0
   rw[if_pos hk]
   simp only[eB,if_pos hk,zi,zt]at hfu⊢
   rw[kind_read t h11]
   simp only
   cases he with
   |true=>
    have h4':op=4:=by rcases h7 with h|h;exact h;cases h
    subst h4'
    simp only[if_true,zi,zl,zz,zh]at hfu⊢
    rw[ih1 k (depth+1) (n+1) 5 _ _ hm1 hs1 hv1 (by omega) (by omega) (by omega) (.inr rfl)]
    simp only
    rw[if_pos ⟨rfl,rfl⟩]
    simp only[zt,zi,qx]
    rw[ih2 k (depth+1) _ 11 _ _ hm2 hs2 hv2 (by omega) (by omega) (by omega) (.inl rfl)]
    simp only
    rw[if_neg (by decide),ih3 k depth _ e more _ hm3 hs3 hv3 (by omega) (by omega) (by omega) hee]
    simp only[consN,cnt,enc,eB,if_pos hk,if_true,zl,zz,zh,ju]
    first
    |done
    |(congr 3<;>first|omega|(congr 1;omega))
   |false=>
    have hne2:els=.nil:=by rcases h8 with h|h;cases h;exact isNil_nil h
    subst hne2
    simp only[Bool.false_eq_true,if_false,qx,zi,zl,zz,zh]at hfu⊢
    rw[ih1 k (depth+1) (n+1) 11 _ _ hm1 hs1 hv1 (by omega) (by omega) (by omega) (.inl rfl)]
    simp only
    rw[if_neg (λh=>absurd h.1 (by decide)),if_neg (by decide),ih3 k depth _ e more _ hm3 hs3 hv3 (by omega) (by omega) (by omega) hee]
    simp only[consN,cnt,enc,eB,if_pos hk,Bool.false_eq_true,if_false,qx,zl,zz,zh,ju]
    first
    |done
    |(congr 3<;>first|omega|(congr 1;omega))
  ·
   rw[if_neg (λh=>hk (hblk' h))]at hd
   obtain⟨hp,hnb,hne2,hhe⟩:=plain_read op a b v t L _ _ he hk hfit hv0 hs0 (enc next++e::more) (p+1)
   have hbo:body=.nil:=isNil_nil hnb
   have hel:els=.nil:=isNil_nil hne2
   subst hbo hel hhe
   rw[if_neg hk]
   simp only[eB,if_neg hk,zt]at hfu⊢
   rw[hp]
   simp only
   rw[ih3 k depth _ e more _ hm3 hs3 hv3 (by simp only[cnt]at hn;omega) (by omega) (by omega) hee]
   simp only[consN,cnt,enc,eB,if_neg hk,zl,zz,ju]
   first
   |done
   |(congr 3<;>first|omega|(congr 1;omega))
end Go.Proofs.YteoijlfipmaoeaaGreatDoor.Trx
namespace Go.Proofs.YteoijlfipmaoeaaGreatDoor.Leb
theorem uOf_range32(l:List UInt8)(u n:Nat)(h:uOf l 0 32=some (u,n)):u<4294967296:=by
 unfold uOf at h
 split at h
 ·cases h
 ·
  rename_i j hj
  obtain⟨he,hl⟩:=enc_of_len _ _ _ hj
  obtain⟨j1,j2,j3,j4⟩:=lenOf_of_some _ _ _ hj
  rw[xx]at *
  split at h
  ·cases h
  ·
   rename_i hc
   injection h with h
   injection h with e1 e2
   subst e1
   have hlt:=joinOf_lt (l.take j)
   rw[hl]at hlt
   refine Nat.lt_of_le_of_lt (Nat.mod_le _ _) ?_
   by_cases h5:j=5
   ·
    subst h5
    have hx:l[0+5-1]?.getD 0=l[4]'(by omega):=by simp[show 4<l.length by omega]
    rw[hx]at hc
    have hq:(l[4]'(by omega)).toNat / 2^(32-7 * ((32+6) / 7-1))=0:=by
     rcases jh ((l[4]'(by omega)).toNat / 2^(32-7 * ((32+6) / 7-1)))with h|h
     ·exact h
     ·exact absurd ⟨rfl,by omega⟩ hc
    have h16:(2:Nat)^(32-7 * ((32+6) / 7-1))=16:=by decide
    rw[h16]at hq
    obtain⟨a1,a2⟩:=joinOf_last l 5 (by omega) (by omega)
    have h28:(2:Nat)^(7 * (5-1))=268435456:=by decide
    rw[h28]at a1 a2
    rw[a1]
    have:(l[5-1]'(by omega)).toNat=(l[4]'(by omega)).toNat:=rfl
    omega
   ·
    have:2^(7 * j)<=2^28:=jg (by omega) (by omega)
    have h28:(2:Nat)^28=268435456:=by decide
    omega
theorem sOf_range32(l:List UInt8)(z:Int)(n:Nat)(h:sOf l 0 32=some (z,n)): -2147483648<=z/\z<2147483648:=by
 unfold sOf at h
 split at h
 ·cases h
 ·
  rename_i j hj
  obtain⟨he,hl⟩:=enc_of_len _ _ _ hj
  obtain⟨j1,j2,j3,j4⟩:=lenOf_of_some _ _ _ hj
  rw[xx]at *
  split at h
  ·cases h
  ·
   rename_i hc
   injection h with h
   injection h with e1 e2
   subst e1
   have hx:l[0+j-1]?.getD 0=l[j-1]'(by omega):=by rw[qz];simp[show j-1<l.length by omega]
   rw[hx]at hc⊢
   by_cases h5:j=5
   ·
    subst h5
    have hev:evenB (l[5-1]'(by omega)).toNat (32-7 * ((32+6) / 7-1))=true:=by
     cases hq:evenB (l[5-1]'(by omega)).toNat (32-7 * ((32+6) / 7-1))
     ·exact absurd ⟨rfl,hq⟩ hc
     ·rfl
    have h6:(2:Nat)^(32-7 * ((32+6) / 7-1)-1)=8:=by decide
    simp only[evenB,h6,jc,beq_iff_eq]at hev
    obtain⟨a1,a2⟩:=joinOf_last l 5 (by omega) (by omega)
    have h28:(2:Nat)^(7 * (5-1))=268435456:=by decide
    have h35:(2:Int)^(7 * 5)=34359738368:=by decide
    rw[h28]at a1 a2
    rw[a1,h35]
    split<;>omega
   ·
    have hb:=sval_bounds he
    unfold sval at hb
    rw[hl]at hb
    have e:(l.take j)[j-1]? =l[j-1]?:=by rw[ja,if_pos (by omega)]
    rw[e,zb (by omega)]at hb
    simp only[Option.getD_some]at hb
    have:(2:Int)^(7 * j-1)<=2^27:=by
     have:=jg (n:=2) (by omega) (show 7 * j-1<=27 by omega)
     exact_mod_cast this
    have h27:(2:Int)^27=134217728:=by decide
    omega
theorem sOf_range64(l:List UInt8)(z:Int)(n:Nat)(h:sOf l 0 64=some (z,n)): -9223372036854775808<=z/\z<9223372036854775808:=by
 unfold sOf at h
 split at h
 ·cases h
 ·
  rename_i j hj
  obtain⟨he,hl⟩:=enc_of_len _ _ _ hj
  obtain⟨j1,j2,j3,j4⟩:=lenOf_of_some _ _ _ hj
  rw[xx]at *
  split at h
  ·cases h
  ·
   rename_i hc
   injection h with h
   injection h with e1 e2
   subst e1
   have hx:l[0+j-1]?.getD 0=l[j-1]'(by omega):=by rw[qz];simp[show j-1<l.length by omega]
   rw[hx]at hc⊢
   by_cases h5:j=10
   ·
    subst h5
    have hev:evenB (l[10-1]'(by omega)).toNat (64-7 * ((64+6) / 7-1))=true:=by
     cases hq:evenB (l[10-1]'(by omega)).toNat (64-7 * ((64+6) / 7-1))
     ·exact absurd ⟨rfl,hq⟩ hc
     ·rfl
    have h6:(2:Nat)^(64-7 * ((64+6) / 7-1)-1)=1:=by decide
    simp only[evenB,h6,jc,beq_iff_eq]at hev
    obtain⟨a1,a2⟩:=joinOf_last l 10 (by omega) (by omega)
    have h28:(2:Nat)^(7 * (10-1))=9223372036854775808:=by decide
    have h35:(2:Int)^(7 * 10)=1180591620717411303424:=by decide
    rw[h28]at a1 a2
    rw[a1,h35]
    split<;>omega
   ·
    have hb:=sval_bounds he
    unfold sval at hb
    rw[hl]at hb
    have e:(l.take j)[j-1]? =l[j-1]?:=by rw[ja,if_pos (by omega)]
    rw[e,zb (by omega)]at hb
    simp only[Option.getD_some]at hb
    have:(2:Int)^(7 * j-1)<=2^62:=by
     have:=jg (n:=2) (by omega) (show 7 * j-1<=62 by omega)
     exact_mod_cast this
    have h27:(2:Int)^62=4611686018427387904:=by decide
    omega
end Go.Proofs.YteoijlfipmaoeaaGreatDoor.Leb
namespace Go.Proofs.YteoijlfipmaoeaaGreatDoor.Trx
open Go.RowKit
def Adv(l:List UInt8)(p:Nat)(l':List UInt8)(p' m:Nat):Prop:=∃k,p'=p+k/\l'=l.drop k/\k<=l.length/\m<=k
theorem Adv.trans{l l1 l2:List UInt8}{p p1 p2 m1 m2:Nat}(h:Adv l p l1 p1 m1)(h2:Adv l1 p1 l2 p2 m2):Adv l p l2 p2 (m1+m2):=by
 obtain⟨k,rfl,rfl,h3,h4⟩:=h
 obtain⟨k2,rfl,rfl,h5,h6⟩:=h2
 rw[qc]at h5
 exact⟨k+k2,by omega,by rw[jd],by omega,by omega⟩
theorem Adv.mono{l l1:List UInt8}{p p1 m1 m2:Nat}(h:Adv l p l1 p1 m1)(hm:m2<=m1):Adv l p l1 p1 m2:=by
 obtain⟨k,h1,h2,h3,h4⟩:=h
 exact⟨k,h1,h2,h3,by omega⟩
theorem Adv.one(b:UInt8)(r:List UInt8)(p:Nat):Adv (b::r) p r (p+1) 1:=⟨1,rfl,rfl,by simp,by omega⟩
theorem Adv.none_(l:List UInt8)(p:Nat):Adv l p l p 0:=⟨0,rfl,rfl,by omega,by omega⟩
theorem int_got{l l':List UInt8}{p p':Nat}{v:Int}(h:rdInt l p=.ok (v,l',p')):num32 v=true/\Adv l p l' p' (eN v).length:=by
 unfold rdInt at h
 split at h
 ·cases h
 ·
  rename_i u k hu
  injection h with h
  simp only[Prod.mk.injEq]at h
  obtain⟨rfl,rfl,rfl⟩:=h
  have h1:=Leb.uOf_range32 _ _ _ hu
  obtain⟨h2,h3⟩:=Leb.uOf_short _ _ _ _ _ (by omega) hu
  have h4:=Leb.uOf_le _ _ _ _ _ hu
  refine⟨(num32_iff _).2 (by omega),k,rfl,rfl,h4,?_⟩
  unfold eN
  rw[show((u:Int)%18446744073709551616).toNat=u by omega]
  exact h3
theorem must_got{x:UInt8}{l l':List UInt8}{p p':Nat}{u:Unit}(h:rdMust x l p=.ok (u,l',p')):Adv l p l' p' 1:=by
 cases l with
 |nil=>simp[rdMust]at h
 |cons b r=>
  simp only[rdMust]at h
  split at h
  ·
   injection h with h
   simp only[Prod.mk.injEq]at h
   obtain⟨-,rfl,rfl⟩:=h
   exact Adv.one _ _ _
  ·cases h
theorem kind_got{l l':List UInt8}{p p':Nat}{t:Int}(h:rdKind l p=.ok (t,l',p')):(0<=t/\t<=2)/\Adv l p l' p' 1:=by
 cases l with
 |nil=>simp[rdKind]at h
 |cons b r=>
  simp only[rdKind]at h
  split at h
  ·
   injection h with h
   simp only[Prod.mk.injEq]at h
   obtain⟨rfl,rfl,rfl⟩:=h
   exact⟨by omega,Adv.one _ _ _⟩
  ·
   split at h
   ·
    injection h with h
    simp only[Prod.mk.injEq]at h
    obtain⟨rfl,rfl,rfl⟩:=h
    exact⟨by omega,Adv.one _ _ _⟩
   ·
    split at h
    ·
     injection h with h
     simp only[Prod.mk.injEq]at h
     obtain⟨rfl,rfl,rfl⟩:=h
     exact⟨by omega,Adv.one _ _ _⟩
    ·split at h<;>cases h
theorem tab_got:∀(n:Nat) {l l':List UInt8} {p p':Nat} {L:List Int},rdTab n l p=.ok (L,l',p')->L.length=n/\L.all num32=true/\Adv l p l' p' (L.flatMap eN).length
 |0,l,l',p,p',L,h=>by
  simp only[rdTab]at h
  injection h with h
  simp only[Prod.mk.injEq]at h
  obtain⟨rfl,rfl,rfl⟩:=h
  exact⟨rfl,rfl,Adv.none_ _ _⟩
 |n+1,l,l',p,p',L,h=>by
  simp only[rdTab]at h
  split at h
  ·cases h
  ·
   rename_i x l1 p1 hx
   split at h
   ·cases h
   ·
    rename_i xs l2 p2 hxs
    injection h with h
    simp only[Prod.mk.injEq]at h
    obtain⟨rfl,rfl,rfl⟩:=h
    obtain⟨a1,a2⟩:=int_got hx
    obtain⟨b1,b2,b3⟩:=tab_got n hxs
    refine⟨by simp[b1],by simp[a1,b2],?_⟩
    rw[js,zz]
    exact a2.trans b3
theorem sig32_got{l l':List UInt8}{p p':Nat}{z:Int}(h:rdSig 32 l p=.ok (z,l',p')):(0<=z%4294967296/\z%4294967296<=4294967295)/\Adv l p l' p' (Leb.putS (s32 (z%4294967296))).length:=by
 unfold rdSig at h
 split at h
 ·cases h
 ·
  rename_i u k hu
  injection h with h
  simp only[Prod.mk.injEq]at h
  obtain⟨rfl,rfl,rfl⟩:=h
  have h1:=Leb.sOf_range32 _ _ _ hu
  obtain⟨h2,h3⟩:=Leb.sOf_short _ _ _ _ _ hu
  have h4:=Leb.sOf_le _ _ _ _ _ hu
  have e:s32 (u%4294967296)=u:=by unfold s32;split<;>omega
  exact⟨by omega,k,rfl,rfl,h4,by rw[e];exact h3⟩
theorem sig64_got{l l':List UInt8}{p p':Nat}{z:Int}(h:rdSig 64 l p=.ok (z,l',p')):(0<=z%18446744073709551616/\z%18446744073709551616<=18446744073709551615)/\Adv l p l' p' (Leb.putS (s64 (z%18446744073709551616))).length:=by
 unfold rdSig at h
 split at h
 ·cases h
 ·
  rename_i u k hu
  injection h with h
  simp only[Prod.mk.injEq]at h
  obtain⟨rfl,rfl,rfl⟩:=h
  have h1:=Leb.sOf_range64 _ _ _ hu
  obtain⟨h2,h3⟩:=Leb.sOf_short _ _ _ _ _ hu
  have h4:=Leb.sOf_le _ _ _ _ _ hu
  have e:s64 (u%18446744073709551616)=u:=by unfold s64;split<;>omega
  exact⟨by omega,k,rfl,rfl,h4,by rw[e];exact h3⟩
theorem fit_mk{op a b v t:Int}{L:List Int}{nb ne he:Bool}(h0:knd op≠0)(h1:(knd op=4\/knd op=6\/op=12\/op=13\/knd op=7\/knd op=8)\/a=0)(h2:(knd op=7\/knd op=8)\/b=0)(h3:knd op=10\/v=0)(h4:knd op=2\/(t=0/\nb=true))(h5:op=14\/L=[])(h6:op=14->L≠[])
  (h7:op=4\/he=false) (h8:he=true\/ne=true) (h9:num32 a=true) (h10:num32 b=true) (h11:0<=t/\t<=2) (h12:op=65->v<=4294967295) (h13:L.all num32=true):fit op a b v t L nb ne he=true:=by
 simp only[fit,zp,jc,Bool.not_eq_true',beq_iff_eq,beq_eq_false_iff_ne,decide_eq_true_eq,List.isEmpty_iff,List.isEmpty_eq_false_iff,Bool.and_eq_false_iff,decide_eq_false_iff_not]
 refine⟨⟨⟨⟨⟨⟨⟨⟨⟨⟨⟨⟨⟨⟨h0,?_⟩,h2⟩,h3⟩,h4⟩,h5⟩,?_⟩,h7⟩,h8⟩,h9⟩,h10⟩,h11.1⟩,h11.2⟩,?_⟩,h13⟩
 ·rcases h1 with(h|h|h|h|h|h)|h<;>simp[h]
 ·
  by_cases e:op=14
  ·exact .inr (h6 e)
  ·exact .inl e
 ·
  by_cases e:op=65
  ·exact .inr (by have:=h12 e;omega)
  ·exact .inl e
theorem num_0:num32 0=true:=rfl
theorem plain_got{op:Int}{l l':List UInt8}{p p':Nat}{nd:Nd}(h0:knd op≠0)(hk:knd op≠2)(h:rdP op l p=.ok (nd,l',p')):
  ∃a b v L,nd=⟨op,a,b,v,0,L,.nil,.nil,false⟩/\fit op a b v 0 L true true false=true/\L.length<=64/\(0<=v/\v<=18446744073709551615)/\Adv l p l' p' (eP op a b v L).length:=by
 obtain⟨d2,d4,d6,d7,d8,d9,d10⟩:=kd_iff op
 rw[<-knd_kd h0]at d2 d4 d6 d7 d8 d9 d10
 unfold rdP at h
 unfold eP
 by_cases c1:knd op=7\/knd op=8
 ·
  rw[if_pos c1]at h
  split at h
  ·cases h
  ·
   rename_i a l1 p1 ha
   split at h
   ·cases h
   ·
    rename_i b l2 p2 hb
    injection h with h
    simp only[Prod.mk.injEq]at h
    obtain⟨rfl,rfl,rfl⟩:=h
    obtain⟨a1,a2⟩:=int_got ha
    obtain⟨b1,b2⟩:=int_got hb
    refine⟨a,b,0,[],rfl,fit_mk h0 (.inl (by omega)) (.inl c1) (.inr rfl) (.inr ⟨rfl,rfl⟩) (.inr rfl) (by omega) (.inr rfl) (.inr rfl) a1 b1 (by omega) (by omega) rfl,by simp,by omega,?_⟩
    rw[if_pos c1,zz]
    exact a2.trans b2
 rw[if_neg c1]at h
 by_cases c2:knd op=9
 ·
  rw[if_pos c2]at h
  split at h
  ·cases h
  ·
   rename_i u l1 p1 ha
   injection h with h
   simp only[Prod.mk.injEq]at h
   obtain⟨rfl,rfl,rfl⟩:=h
   refine⟨0,0,0,[],rfl,fit_mk h0 (.inr rfl) (.inr rfl) (.inr rfl) (.inr ⟨rfl,rfl⟩) (.inr rfl) (by omega) (.inr rfl) (.inr rfl) num_0 num_0 (by omega) (by omega) rfl,by simp,by omega,?_⟩
   rw[if_neg c1,if_pos c2]
   exact must_got ha
 rw[if_neg c2]at h
 by_cases c3:op=65
 ·
  rw[if_pos c3]at h
  split at h
  ·cases h
  ·
   rename_i z l1 p1 ha
   injection h with h
   simp only[Prod.mk.injEq]at h
   obtain⟨rfl,rfl,rfl⟩:=h
   obtain⟨a1,a2⟩:=sig32_got ha
   refine⟨0,0,z%4294967296,[],rfl,fit_mk h0 (.inr rfl) (.inr rfl) (.inl (by omega)) (.inr ⟨rfl,rfl⟩) (.inr rfl) (by omega) (.inr rfl) (.inr rfl) num_0 num_0 (by omega) (by omega) rfl,by simp,by omega,?_⟩
   rw[if_neg c1,if_neg c2,if_pos c3]
   exact a2
 rw[if_neg c3]at h
 by_cases c4:op=66
 ·
  rw[if_pos c4]at h
  split at h
  ·cases h
  ·
   rename_i z l1 p1 ha
   injection h with h
   simp only[Prod.mk.injEq]at h
   obtain⟨rfl,rfl,rfl⟩:=h
   obtain⟨a1,a2⟩:=sig64_got ha
   refine⟨0,0,z%18446744073709551616,[],rfl,fit_mk h0 (.inr rfl) (.inr rfl) (.inl (by omega)) (.inr ⟨rfl,rfl⟩) (.inr rfl) (by omega) (.inr rfl) (.inr rfl) num_0 num_0 (by omega) (by omega) rfl,by simp,by omega,?_⟩
   rw[if_neg c1,if_neg c2,if_neg c3,if_pos c4]
   exact a2
 rw[if_neg c4]at h
 by_cases c5:op=14
 ·
  rw[if_pos c5]at h
  split at h
  ·cases h
  ·
   rename_i n l1 p1 ha
   split at h
   ·cases h
   ·
    rename_i hn
    split at h
    ·cases h
    ·
     rename_i L l2 p2 hb
     injection h with h
     simp only[Prod.mk.injEq]at h
     obtain⟨rfl,rfl,rfl⟩:=h
     obtain⟨a1,a2⟩:=int_got ha
     obtain⟨b1,b2,b3⟩:=tab_got _ hb
     have hn0:=(num32_iff n).1 a1
     refine⟨0,0,0,L,rfl,fit_mk h0 (.inr rfl) (.inr rfl) (.inr rfl) (.inr ⟨rfl,rfl⟩) (.inl c5) (λ_ e=>by rw[e]at b1;simp at b1) (.inr rfl) (.inr rfl) num_0 num_0 (by omega) (by omega) b2,by omega,by omega,?_⟩
     rw[if_neg c1,if_neg c2,if_neg c3,if_neg c4,if_pos c5,zz,show(L.length:Int)-1=n by omega]
     exact a2.trans b3
 rw[if_neg c5]at h
 by_cases c6:op=17
 ·
  rw[if_pos c6]at h
  split at h
  ·cases h
  ·
   rename_i a l1 p1 ha
   split at h
   ·cases h
   ·
    rename_i u l2 p2 hb
    injection h with h
    simp only[Prod.mk.injEq]at h
    obtain⟨rfl,rfl,rfl⟩:=h
    obtain⟨a1,a2⟩:=int_got ha
    refine⟨a,0,0,[],rfl,fit_mk h0 (.inl (by omega)) (.inr rfl) (.inr rfl) (.inr ⟨rfl,rfl⟩) (.inr rfl) (by omega) (.inr rfl) (.inr rfl) a1 num_0 (by omega) (by omega) rfl,by simp,by omega,?_⟩
    rw[if_neg c1,if_neg c2,if_neg c3,if_neg c4,if_neg c5,if_pos c6,zz]
    exact a2.trans (must_got hb)
 rw[if_neg c6]at h
 by_cases c7:knd op=4\/knd op=6\/op=12\/op=13
 ·
  rw[if_pos c7]at h
  split at h
  ·cases h
  ·
   rename_i a l1 p1 ha
   injection h with h
   simp only[Prod.mk.injEq]at h
   obtain⟨rfl,rfl,rfl⟩:=h
   obtain⟨a1,a2⟩:=int_got ha
   refine⟨a,0,0,[],rfl,fit_mk h0 (.inl (by omega)) (.inr rfl) (.inr rfl) (.inr ⟨rfl,rfl⟩) (.inr rfl) (by omega) (.inr rfl) (.inr rfl) a1 num_0 (by omega) (by omega) rfl,by simp,by omega,?_⟩
   rw[if_neg c1,if_neg c2,if_neg c3,if_neg c4,if_neg c5,if_neg c6,if_pos c7]
   exact a2
 rw[if_neg c7]at h
 injection h with h
 simp only[Prod.mk.injEq]at h
 obtain⟨rfl,rfl,rfl⟩:=h
 refine⟨0,0,0,[],rfl,fit_mk h0 (.inr rfl) (.inr rfl) (.inr rfl) (.inr ⟨rfl,rfl⟩) (.inr rfl) (by omega) (.inr rfl) (.inr rfl) num_0 num_0 (by omega) (by omega) rfl,by simp,by omega,?_⟩
 rw[if_neg c1,if_neg c2,if_neg c3,if_neg c4,if_neg c5,if_neg c6,if_neg c7]
 exact Adv.none_ _ _
structure Got(depth n:Nat)(l:List UInt8)(p:Nat)(f:Fo)(last n':Nat)(l':List UInt8)(p':Nat):Prop where
 may:may f=true
 lsh:lsh f=true
 vok:vok f
 n:n'=n+cnt f
 le:n'<=512
 dp:(depth:Int)+dp f<=32
 last:last=5\/last=11
 adv:Adv l p l' p' ((enc f).length+1)
theorem Got.cons{depth n n2 n3:Nat}{b:UInt8}{l l2 l3:List UInt8}{p p2 p3:Nat}{op a b_ v t:Int}{L:List Int}{body els f:Fo}{he:Bool}{last:Nat}(hg:Got depth n2 l2 p2 f last n3 l3 p3)
  (hfit:fit op a b_ v t L (isNil body) (isNil els) he=true) (m1:Trx.may body=true) (m2:Trx.may els=true) (s0:L.length<=64) (s1:Trx.lsh body=true) (s2:Trx.lsh els=true) (v0:0<=v/\v<=18446744073709551615) (v1:Trx.vok body) (v2:Trx.vok els)
  (hn:n2=n+1+cnt body+cnt els) (d1:(depth:Int)+1+Trx.dp body<=32\/isBlk op=false) (d2:(depth:Int)+1+Trx.dp els<=32\/isBlk op=false) (ha:Adv l (p+1) l2 p2 (eB op a b_ v t L (enc body) (enc els) he).length):
  Got depth n (b::l) p (consN ⟨op,a,b_,v,t,L,body,els,he⟩ f) last n3 l3 p3:=by
 have hle:=hg.le
 have hn3:=hg.n
 have c1:=dp_cnt body (by omega)
 have c2:=dp_cnt els (by omega)
 have g1:=dp_nonneg body
 have g2:=dp_nonneg els
 have hd:=hg.dp
 refine⟨by simp[consN,Trx.may,hfit,m1,m2,hg.may],by simp[consN,Trx.lsh,s0,s1,s2,hg.lsh],⟨v0,v1,v2,hg.vok⟩,by simp only[consN,cnt];omega,hle,?_,hg.last,?_⟩
 ·
  simp only[consN,Trx.dp]
  split
  ·
   rename_i hb
   rw[up1_eq g1 (by omega),up1_eq g2 (by omega)]
   rcases d1 with d1|d1
   ·
    rcases d2 with d2|d2
    ·omega
    ·rw[hb]at d2;cases d2
   ·rw[hb]at d1;cases d1
  ·omega
 ·
  refine(((Adv.one b l p).trans ha).trans hg.adv).mono ?_
  simp only[consN,enc,zl,zz]
  omega
theorem rdL_got:∀(fuel depth n:Nat) (l:List UInt8) (p:Nat) (f:Fo) (last n':Nat) (l':List UInt8) (p':Nat),rdL fuel depth n l p=.ok ((f,last,n'),l',p')->n<=512->depth<=32->Got depth n l p f last n' l' p':=by
 intro fuel
 induction fuel with
 |zero=>intro depth n l p f last n' l' p' h _ _;simp[rdL]at h
 |succ fuel ih=>
  intro depth n l p f last n' l' p' h hn hd
  cases l with
  |nil=>simp[rdL]at h
  |cons b l=>
   simp only[rdL]at h
   split at h
   ·
    rename_i hb
    injection h with h
    simp only[Prod.mk.injEq]at h
    obtain⟨⟨rfl,rfl,rfl⟩,rfl,rfl⟩:=h
    exact⟨rfl,rfl,trivial,by simp[cnt],hn,by simp[dp];omega,by rcases hb with rfl|rfl;exact .inr rfl;exact .inl rfl,Adv.one _ _ _⟩
   ·
    rename_i hb
    split at h
    ·cases h
    ·
     rename_i hfl
     split at h
     ·cases h
     ·
      rename_i h0
      split at h
      ·cases h
      ·
       rename_i hlim
       have h0':knd ((b.toNat:Nat):Int)≠0:=h0
       obtain⟨d2,-⟩:=kd_iff ((b.toNat:Nat):Int)
       rw[<-knd_kd h0']at d2
       have hblk:isBlk ((b.toNat:Nat):Int)=true↔knd ((b.toNat:Nat):Int)=2:=by
        rw[d2];unfold isBlk;simp
       have hn1:n+1<=512:=by omega
       split at h
       ·
        rename_i hk
        have hd1:depth+1<=32:=by omega
        split at h
        ·cases h
        ·
         rename_i t l1 p1 ht
         obtain⟨ht1,ht2⟩:=kind_got ht
         split at h
         ·cases h
         ·
          rename_i body last1 n2 l2 p2 hbo
          have g1:=ih (depth+1) (n+1) l1 p1 body last1 n2 l2 p2 hbo hn1 hd1
          have e1:=g1.n
          have e2:=g1.dp
          split at h
          ·
           rename_i hl5
           split at h
           ·cases h
           ·
            rename_i els last2 n3 l3 p3 hel
            have g2:=ih (depth+1) n2 l2 p2 els last2 n3 l3 p3 hel g1.le hd1
            have e3:=g2.n
            have e4:=g2.dp
            split at h
            ·cases h
            ·
             split at h
             ·cases h
             ·
              rename_i f' last' n4 l4 p4 hre
              injection h with h
              simp only[Prod.mk.injEq]at h
              obtain⟨⟨rfl,rfl,rfl⟩,rfl,rfl⟩:=h
              have g3:=ih depth n3 l3 p3 f' last' n4 l4 p4 hre g2.le hd
              have h4:((b.toNat:Nat):Int)=4:=by rw[hl5.2];rfl
              refine g3.cons (fit_mk h0' (.inr rfl) (.inr rfl) (.inr rfl) (.inl hk) (.inr rfl) (by omega) (.inl h4) (.inl rfl) num_0 num_0 ht1 (by omega) rfl) g1.may g2.may (by simp) g1.lsh g2.lsh (by omega) g1.vok g2.vok (by omega) (.inl (by omega)) (.inl (by omega)) ?_
              refine((ht2.trans g1.adv).trans g2.adv).mono ?_
              simp only[eB,if_pos hk,if_true,zl,zz,zh]
              omega
          ·
           split at h
           ·cases h
           ·
            split at h
            ·cases h
            ·
             rename_i f' last' n4 l4 p4 hre
             injection h with h
             simp only[Prod.mk.injEq]at h
             obtain⟨⟨rfl,rfl,rfl⟩,rfl,rfl⟩:=h
             have g3:=ih depth n2 l2 p2 f' last' n4 l4 p4 hre g1.le hd
             refine g3.cons (fit_mk h0' (.inr rfl) (.inr rfl) (.inr rfl) (.inl hk) (.inr rfl) (by omega) (.inr rfl) (.inr rfl) num_0 num_0 ht1 (by omega) rfl) g1.may rfl (by simp) g1.lsh rfl (by omega) g1.vok trivial (by simp only[cnt];omega) (.inl (by omega)) (.inl (by simp only[dp];omega)) ?_
             refine(ht2.trans g1.adv).mono ?_
             simp only[eB,if_pos hk,Bool.false_eq_true,if_false,qx,zl,zz,zh]
             omega
       ·
        rename_i hk
        have hnb:isBlk ((b.toNat:Nat):Int)=false:=by
         cases hq:isBlk ((b.toNat:Nat):Int)
         ·rfl
         ·exact absurd (hblk.1 hq) hk
        split at h
        ·cases h
        ·
         rename_i nd l1 p1 hnd
         obtain⟨a,b2,v,L,rfl,hf,hL,hv,hadv⟩:=plain_got h0' hk hnd
         split at h
         ·cases h
         ·
          rename_i f' last' n4 l4 p4 hre
          injection h with h
          simp only[Prod.mk.injEq]at h
          obtain⟨⟨rfl,rfl,rfl⟩,rfl,rfl⟩:=h
          have g3:=ih depth (n+1) l1 p1 f' last' n4 l4 p4 hre hn1 hd
          refine g3.cons hf rfl rfl hL rfl rfl hv trivial trivial (by simp[cnt]) (.inr hnb) (.inr hnb) ?_
          simp only[eB,if_neg hk]
          exact hadv
def rdE(l:List UInt8)(p:Nat):Rs Fo:=match rdL (l.length+1) 0 0 l p with
 |.error e=>.error e
 |.ok ((f,last,_),l',p')=>if last=5 then .error (2,p'-1)else .ok (f,l',p')
theorem put_back(f:Fo)(more:List UInt8)(p:Nat)(hm:may f=true)(hs:lsh f=true)(hv:vok f)(hn:cnt f<=512)(hd:dp f<=32):rdE (enc f++11::more) p=.ok (f,more,p+(enc f).length+1):=by
 unfold rdE
 rw[enc_read f _ 0 0 11 more p hm hs hv (by omega) (by simpa using hd) (by simp;omega) (.inl rfl)]
 rfl
theorem get_back{l l':List UInt8}{p p':Nat}{f:Fo}(h:rdE l p=.ok (f,l',p')):may f=true/\lsh f=true/\vok f/\cnt f<=512/\dp f<=32/\p+(enc f).length+1<=p'/\p'<=p+l.length/\∀more q,rdE (enc f++11::more) q=.ok (f,more,q+(enc f).length+1):=by
 unfold rdE at h
 split at h
 ·cases h
 ·
  rename_i f' last n l2 p2 hr
  have g:=rdL_got _ _ _ _ _ _ _ _ _ _ hr (by omega) (by omega)
  split at h
  ·cases h
  ·
   injection h with h
   simp only[Prod.mk.injEq]at h
   obtain⟨rfl,rfl,rfl⟩:=h
   have h1:=g.n
   have h2:=g.le
   have h3:=g.dp
   obtain⟨k,hk1,-,hk2,hk3⟩:=g.adv
   refine⟨g.may,g.lsh,g.vok,by omega,by omega,by omega,by omega,λmore q=>put_back f' more q g.may g.lsh g.vok (by omega) (by omega)⟩
def opChk(depth n:Nat)(b:Int):Nat:=if Opx.flt b then 3 else if knd b=0 then 2 else if 512<=n\/(knd b=2/\32<=depth)then 7 else 0
def rdI(fuel depth n:Nat)(b:Int)(l:List UInt8)(p:Nat):Rs (Nd×Nat):=
 if knd b=2 then match rdKind l p with
  |.error e=>.error e
  |.ok (t,l1,p1)=>match rdL fuel (depth+1) n l1 p1 with
   |.error e=>.error e
   |.ok ((body,last,n2),l2,p2)=>
    if last=5/\b=4 then match rdL fuel (depth+1) n2 l2 p2 with
     |.error e=>.error e
     |.ok ((els,last2,n3),l3,p3)=>if last2=5 then .error (2,p3-1)else .ok ((⟨b,0,0,0,t,[],body,els,true⟩,n3),l3,p3)
    else if last=5 then .error (2,p2-1)else .ok ((⟨b,0,0,0,t,[],body,.nil,false⟩,n2),l2,p2)
 else match rdP b l p with
  |.error e=>.error e
  |.ok (nd,l1,p1)=>.ok ((nd,n),l1,p1)
def preN(pre:List Nd):Rs (Fo×Nat×Nat)->Rs (Fo×Nat×Nat)
 |.error e=>.error e
 |.ok ((f,last,n),l,p)=>.ok ((ofN (pre++nds f),last,n),l,p)
theorem preN_nil(r:Rs (Fo×Nat×Nat)):preN [] r=r:=by
 rcases r with e|⟨⟨f,last,n⟩,l,p⟩<;>simp[preN]
theorem preN_preN(a b:List Nd)(r:Rs (Fo×Nat×Nat)):preN a (preN b r)=preN (a++b) r:=by
 rcases r with e|⟨⟨f,last,n⟩,l,p⟩<;>simp[preN]
def stepL(fuel depth n:Nat)(b:UInt8)(l:List UInt8)(p:Nat):Rs (Fo×Nat×Nat):=
 if b=11\/b=5 then .ok ((.nil,b.toNat,n),l,p+1)
 else if opChk depth n b.toNat≠0 then .error (opChk depth n b.toNat,p)
 else match rdI fuel depth (n+1) b.toNat l (p+1)with
  |.error e=>.error e
  |.ok ((nd,n'),l',p')=>preN [nd] (rdL fuel depth n' l' p')
theorem rdL_cons(fuel depth n:Nat)(b:UInt8)(l:List UInt8)(p:Nat):rdL (fuel+1) depth n (b::l) p=stepL fuel depth n b l p:=by
 have hb4:((b.toNat:Int)=4)↔b=4:=by
  constructor
  ·
   intro h
   have:b.toNat=4:=by omega
   exact UInt8.toNat_inj.1 (by rw[this];rfl)
  ·rintro rfl;rfl
 have hgo:∀(nd:Nd) (n':Nat) (l':List UInt8) (p':Nat),(match rdL fuel depth n' l' p' with
    |.error e=>.error e
    |.ok ((f,last,n2),l2,p2)=>.ok ((consN nd f,last,n2),l2,p2):Rs (Fo×Nat×Nat))=preN [nd] (rdL fuel depth n' l' p'):=by
  intro nd n' l' p'
  rcases rdL fuel depth n' l' p' with e|⟨⟨f,last,n2⟩,l2,p2⟩
  ·rfl
  ·simp[preN,consN,ofN]
 unfold stepL
 rw[rdL]
 by_cases h1:b=11\/b=5
 ·rw[if_pos h1,if_pos h1]
 rw[if_neg h1,if_neg h1]
 by_cases h2:Opx.flt b.toNat=true
 ·
  have hc:opChk depth n b.toNat=3:=by simp[opChk,h2]
  rw[hc,if_pos h2,if_pos (by decide)]
 rw[if_neg h2]
 by_cases h3:knd b.toNat=0
 ·
  have hc:opChk depth n b.toNat=2:=by simp[opChk,h2,h3]
  rw[hc,if_pos h3,if_pos (by decide)]
 rw[if_neg h3]
 by_cases h4:512<=n\/(knd b.toNat=2/\32<=depth)
 ·
  have hc:opChk depth n b.toNat=7:=by simp[opChk,h2,h3,h4]
  rw[hc,if_pos h4,if_pos (by decide)]
 have hc:opChk depth n b.toNat=0:=by unfold opChk;rw[if_neg h2,if_neg h3,if_neg h4]
 rw[hc,if_neg h4,if_neg (show¬(0:Nat)≠0 by simp)]
 unfold rdI
 by_cases h5:knd b.toNat=2
 ·
  rw[if_pos h5,if_pos h5]
  rcases rdKind l (p+1)with e|⟨t,l1,p1⟩
  ·rfl
  simp only
  rcases rdL fuel (depth+1) (n+1) l1 p1 with e|⟨⟨body,last,n2⟩,l2,p2⟩
  ·rfl
  simp only[hb4]
  by_cases h6:last=5/\b=4
  ·
   rw[if_pos h6,if_pos h6]
   rcases rdL fuel (depth+1) n2 l2 p2 with e|⟨⟨els,last2,n3⟩,l3,p3⟩
   ·rfl
   simp only
   by_cases h7:last2=5
   ·rw[if_pos h7,if_pos h7]
   ·
    rw[if_neg h7,if_neg h7]
    exact hgo _ _ _ _
  ·
   rw[if_neg h6,if_neg h6]
   by_cases h7:last=5
   ·rw[if_pos h7,if_pos h7]
   ·
    rw[if_neg h7,if_neg h7]
    exact hgo _ _ _ _
 ·
  rw[if_neg h5,if_neg h5]
  rcases rdP b.toNat l (p+1)with e|⟨nd,l1,p1⟩
  ·rfl
  ·exact hgo _ _ _ _
def wt:Fo->Nat
 |.nil=>0
 |.cons _ _ _ _ _ L body els _ next=>1+L.length+wt body+wt els+wt next
theorem wt_append(l m:List Nd):wt (ofN (l++m))=wt (ofN l)+wt (ofN m):=by
 induction l with
 |nil=>simp[ofN,wt]
 |cons n l ih=>simp only[zi,ofN,wt,ih];omega
theorem eN_len(n:Int):(eN n).length<=10:=Leb.putU_len10 (by omega)
theorem flat_len(L:List Int):(L.flatMap eN).length<=10 * L.length:=by
 induction L with
 |nil=>simp
 |cons x L ih=>
  have:=eN_len x
  simp only[js,zz,zl]
  omega
theorem eP_len(op a b v:Int)(L:List Int)(hv:0<=v/\v<=18446744073709551615)(h65:op=65->v<=4294967295):(eP op a b v L).length<=20+10 * L.length:=by
 have ha:=eN_len a
 have hb:=eN_len b
 have hL:=eN_len ((L.length:Int)-1)
 have hf:=flat_len L
 unfold eP
 split
 ·simp only[zz];omega
 split
 ·simp only[qg];omega
 split
 ·
  rename_i h
  have:=h65 h
  have:=Leb.putS_len10 (v:=s32 v) (by unfold s32;split<;>omega) (by unfold s32;split<;>omega)
  omega
 split
 ·
  have:=Leb.putS_len10 (v:=s64 v) (by unfold s64;split<;>omega) (by unfold s64;split<;>omega)
  omega
 split
 ·simp only[zz];omega
 split
 ·simp only[zz,qg];omega
 split
 ·omega
 ·simp
theorem enc_len(f:Fo):may f=true->vok f->(enc f).length<=24 * wt f:=by
 induction f with
 |nil=>intros;simp[enc]
 |cons op a b v t L body els he next h1 h2 h3=>
  intro hm hv
  simp only[may,zp]at hm
  obtain⟨⟨⟨hfit,hm1⟩,hm2⟩,hm3⟩:=hm
  obtain⟨hv0,hv1,hv2,hv3⟩:=hv
  have q1:=h1 hm1 hv1
  have q2:=h2 hm2 hv2
  have q3:=h3 hm3 hv3
  have hP:=eP_len op a b v L hv0 (fit_facts hfit).2.2.2.2.2.2.2.2.2.2.2.2.1
  simp only[enc,wt,zl,zz,eB]
  split
  ·
   have:((if he=true then 5::enc els else[]):List UInt8).length<=1+(enc els).length:=by
    split<;>simp<;>omega
   simp only[zl,zz,zh]
   omega
  ·omega
end Go.Proofs.YteoijlfipmaoeaaGreatDoor.Trx
namespace Go.Proofs.YteoijlfipmaoeaaGreatDoor
open Go.RowKit Go.ChangeShapes Go.WideShapes Go.Deep Trx
open Go.Proofs.Tryz
section
variable{H:Type}
theorem bulk_pos(d:DataW H):1<=Rows.uptoBulk d:=by
 cases d with
 |lit l=>cases l<;>simp[Rows.uptoBulk]
 |_=>simp[Rows.uptoBulk]
theorem bulk_len(l:List (DataW H)):l.length<=Rows.uptoBulkAll l:=by
 induction l with
 |nil=>simp[Rows.uptoBulkAll]
 |cons d l ih=>have:=bulk_pos d;simp only[Rows.uptoBulkAll,zl];omega
theorem bulk_three{l:List (DataW H)}{a b c:DataW H}(h5:l[5]? =some a)(h6:l[6]? =some b)(h7:l[7]? =some c):Rows.uptoBulk a+Rows.uptoBulk b+Rows.uptoBulk c<=Rows.uptoBulkAll l:=by
 match l,h5,h6,h7 with
 |_::_::_::_::_::x5::x6::x7::r,h5,h6,h7=>
  simp at h5 h6 h7
  subst h5 h6 h7
  simp only[Rows.uptoBulkAll]
  omega
 | [],h5,_,_=>simp at h5
 | [_],h5,_,_=>simp at h5
 | [_,_],h5,_,_=>simp at h5
 | [_,_,_],h5,_,_=>simp at h5
 | [_,_,_,_],h5,_,_=>simp at h5
 | [_,_,_,_,_],h5,_,_=>simp at h5
 | [_,_,_,_,_,_],_,h6,_=>simp at h6
 | [_,_,_,_,_,_,_],_,_,h7=>simp at h7
theorem bulk_sum:∀(ns:List Nd) (es:List (DataW H)),(∀(i:Nat) (n:Nd),ns[i]? =some n->∃e,es[i]? =some e/\1+n.L.length+wt n.body+wt n.els<=Rows.uptoBulk e)->wt (ofN ns)<=Rows.uptoBulkAll es
 | [],es,_=>by simp[ofN,wt]
 |n::ns,es,h=>by
  obtain⟨e,he,hw⟩:=h 0 n rfl
  cases es with
  |nil=>simp at he
  |cons e' es=>
   simp at he
   subst he
   have:=bulk_sum ns es (λi m hm=>by simpa using h (i+1) m (by simpa using hm))
   simp only[ofN,wt,Rows.uptoBulkAll]
   omega
end
section
variable{H:Type}{enc:TypeId×Value->H}{w:World}{base:Nat}{spare:Nat->Bool}{held:Bool}
theorem open_fieldsB{P:Program}{e:TypeId}{fs:Array Field}{fuel:Nat}{cs:List Value}{x:DataW H×List MemPlace}(he:P.underlying e=some (.struct fs))
  (hone:oneCellFields P fs=true) (hC:P.cellsOf e=fs.size) (h:DataW.trod enc P w base spare held fuel e cs=some x):
  ∃(n:Nat) (ys:List (DataW H×List MemPlace)),fuel=n+1/\x.1=.agg (ys.map (·.1))/\cs.length=fs.size/\∀(j:Nat) (f:Field),fs[j]? =some f->∃v y,cs[j]? =some v/\ys[j]? =some y/\DataW.trod enc P w base spare held n f.type [v]=some y:=by
 obtain⟨ys,n',hn',hy,hlen,hyl,hf⟩:=DataW.trod_struct he h
 refine⟨n',ys,hn',by rw[hy],hlen.trans hC,λj f hj=>?_⟩
 obtain⟨ho,hk⟩:=hone_of hone j f hj
 have hjl:j<fs.size:=(Array.getElem?_eq_some_iff.1 hj).1
 have hlc:=hlen.trans hC
 have h1:=hf j f hj
 rw[ho,hk]at h1
 have hone':(cs.drop j).take 1=[cs[j]'(by omega)]:=by
  rw[ji (by omega)]
  rfl
 rw[hone']at h1
 have hys:ys[j]? =some (ys[j]'(by omega)):=zb (by omega)
 exact⟨cs[j]'(by omega),_,zb (by omega),hys,h1.trans hys⟩
theorem open_n64B{fuel:Nat}{cs:List Value}{x:DataW H×List MemPlace}(h:DataW.trod enc prog w base spare held fuel 52 cs=some x):
  ∃A zs c,cs=[.slice A zs.length c]/\zs.length<=c/\c<=maxLen/\(∀z∈zs,inI z)/\Sl w w.heap.size A (n64s zs)/\zs.length<=Rows.uptoBulk x.1:=by
 obtain⟨A,zs,c,hcs,h1,h2,h3,h4⟩:=open_n64 h
 refine⟨A,zs,c,hcs,h1,h2,h3,h4,?_⟩
 rcases DataW.trod_slice underlying52 h with⟨h0,-⟩|⟨a,l,cap,elems,rest,n,hn,hcs',hx,-,-,-,hlen,-,-,-⟩
 ·
  rw[hcs]at h0
  simp at h0
  omega
 ·
  rw[hcs]at hcs'
  simp at hcs'
  have:=bulk_len (elems.map (·.1))
  rw[zd]at this
  rw[hx]
  simp only[Rows.uptoBulk]
  omega
theorem open_nd_ofB(N:Nat)(ih:∀m,m<N->∀(cs:List Value) (x:DataW H×List MemPlace),DataW.trod enc prog w base spare held m 53 cs=some x->∃A f c,cs=[.slice A (len f) c]/\len f<=c/\c<=maxLen/\RdS w w.heap.size A f/\wt f<=Rows.uptoBulk x.1)
  {fuel:Nat} (hN:fuel<=N) {cs:List Value} {x:DataW H×List MemPlace} (h:DataW.trod enc prog w base spare held fuel 59 cs=some x):
  ∃nd p,cs=(insC nd p).toList/\NdOk w w.heap.size nd p/\1+nd.L.length+wt nd.body+wt nd.els<=Rows.uptoBulk x.1:=by
 obtain⟨n,ys,hn,hx,hl,hf⟩:=open_fieldsB underlying59 (by kernel_rfl) (by kernel_rfl) h
 have hl9:cs.length=9:=hl
 obtain⟨v0,y0,c0,-,t0⟩:=hf 0 _ rfl
 obtain⟨v1,y1,c1,-,t1⟩:=hf 1 _ rfl
 obtain⟨v2,y2,c2,-,t2⟩:=hf 2 _ rfl
 obtain⟨v3,y3,c3,-,t3⟩:=hf 3 _ rfl
 obtain⟨v4,y4,c4,-,t4⟩:=hf 4 _ rfl
 obtain⟨v5,y5,c5,g5,t5⟩:=hf 5 _ rfl
 obtain⟨v6,y6,c6,g6,t6⟩:=hf 6 _ rfl
 obtain⟨v7,y7,c7,g7,t7⟩:=hf 7 _ rfl
 obtain⟨v8,y8,c8,-,t8⟩:=hf 8 _ rfl
 clear hf hl
 obtain⟨op,e0,-,w0⟩:=DataW.trod_int (k:=.i64) underlying3 t0
 obtain⟨a,e1,-,w1⟩:=DataW.trod_int (k:=.i64) underlying3 t1
 obtain⟨b,e2,-,w2⟩:=DataW.trod_int (k:=.i64) underlying3 t2
 obtain⟨v,e3,-,w3⟩:=DataW.trod_int (k:=.u64) underlying57 t3
 obtain⟨t,e4,-,w4⟩:=DataW.trod_int (k:=.i64) underlying3 t4
 obtain⟨AL,zs,cL,e5,l5,m5,z5,s5,b5⟩:=open_n64B t5
 obtain⟨Ab,fb,cb,e6,l6,m6,s6,b6⟩:=ih n (by omega) _ _ t6
 obtain⟨Ae,fe,ce,e7,l7,m7,s7,b7⟩:=ih n (by omega) _ _ t7
 obtain⟨he,e8,-⟩:=DataW.trod_bool underlying4 t8
 injection e0 with e0;injection e1 with e1;injection e2 with e2;injection e3 with e3;injection e4 with e4
 injection e5 with e5;injection e6 with e6;injection e7 with e7;injection e8 with e8
 subst e0 e1 e2 e3 e4 e5 e6 e7 e8
 refine⟨⟨op,a,b,v,t,zs,fb,fe,he⟩,⟨AL,cL,Ab,cb,Ae,ce⟩,?_,⟨⟨inI_of w0,inI_of w1,inI_of w2,inU_of w3,inI_of w4,z5,l5,m5,s5,l6,m6,l7,m7⟩,s6,s7⟩,?_⟩
 ·
  match cs,hl9,c0,c1,c2,c3,c4,c5,c6,c7,c8 with
  | [_,_,_,_,_,_,_,_,_],_,c0,c1,c2,c3,c4,c5,c6,c7,c8=>
   simp at c0 c1 c2 c3 c4 c5 c6 c7 c8
   subst c0 c1 c2 c3 c4 c5 c6 c7 c8
   rfl
 ·
  have:=bulk_three (l:=ys.map (·.1)) (a:=y5.1) (b:=y6.1) (c:=y7.1) (by rw[zr,g5];rfl) (by rw[zr,g6];rfl) (by rw[zr,g7];rfl)
  rw[hx]
  simp only[Rows.uptoBulk]
  omega
theorem open_insB(fuel:Nat):∀(cs:List Value) (x:DataW H×List MemPlace),DataW.trod enc prog w base spare held fuel 53 cs=some x->
  ∃A f c,cs=[.slice A (len f) c]/\len f<=c/\c<=maxLen/\RdS w w.heap.size A f/\wt f<=Rows.uptoBulk x.1:=by
 induction fuel using Nat.strongRecOn with
 |ind fuel ih=>
  intro cs x h
  rcases DataW.trod_slice underlying53 h with⟨h0,-⟩|⟨a,l,cap,elems,rest,n,hn,hcs,hx,hb,hl,hm,hlen,hel,-,-⟩
  ·exact⟨none,.nil,0,h0,zq _,qw _,RdS.nil_,qw _⟩
  ·
   have hC:prog.cellsOf 59=9:=by kernel_rfl
   rw[hC]at hel
   have hone:∀i,i<l->∃nd:Nd,∃p,(∀k,k<9->w.cell? ((a.add (i * 9)).add k)=(insC nd p)[k]?)/\NdOk w w.heap.size nd p/\∃e,(elems.map (·.1))[i]? =some e/\1+nd.L.length+wt nd.body+wt nd.els<=Rows.uptoBulk e:=by
    intro i hi
    have h1:=hel i hi
    have hge:elems[i]? =some (elems[i]'(by omega)):=zb (by omega)
    rw[hge,Option.bind_eq_some_iff]at h1
    obtain⟨cs',h2,h3⟩:=h1
    obtain⟨nd,p,rfl,hok,hbk⟩:=open_nd_ofB fuel (λm hm' cs x=>ih m hm' cs x) (by omega) h3
    refine⟨nd,p,λk hk=>?_,hok,_,by rw[zr,hge];rfl,hbk⟩
    rw[(cells_at h2).2 k hk]
    simp
   obtain⟨ns,hns,hq⟩:=list_of l hone
   have hwt:wt (ofN ns)<=Rows.uptoBulk x.1:=by
    have:=bulk_sum ns (elems.map (·.1)) (λi m hm=>by obtain⟨p,-,-,h3⟩:=hq i m hm;exact h3)
    rw[hx]
    simp only[Rows.uptoBulk]
    omega
   refine⟨some a,ofN ns,cap,by rw[hcs,len_ofN,hns],by rw[len_ofN,hns];exact hl,hm,λhne=>?_,hwt⟩
   have hpos:0<ns.length:=by
    rcases jh ns.length with h0|h0
    ·
     rw[zc h0]at hne
     exact absurd rfl hne
    ·exact h0
   obtain⟨p0,hc0,-⟩:=hq 0 _ (zb hpos)
   obtain⟨blk,off,spot⟩:=a
   have h00:=hc0 0 (by omega)
   have hs:spot=none:=by
    have:=(cell_block_lt (h00.trans rfl)).2
    simpa[Addr.add]using this
   subst hs
   refine⟨blk,off,rfl,RdF.mk λi nd hi=>?_⟩
   rw[nds_ofN]at hi
   obtain⟨p,hc,hok,-⟩:=hq i nd hi
   refine⟨p,?_,λk hk=>?_,hok⟩
   ·
    have:=(cell_block_lt ((hc 0 (by omega)).trans rfl)).1
    rw[add_at,add_at]at this
    exact this
   ·rw[<-hc k hk,add_at,add_at]
end
end Go.Proofs.YteoijlfipmaoeaaGreatDoor

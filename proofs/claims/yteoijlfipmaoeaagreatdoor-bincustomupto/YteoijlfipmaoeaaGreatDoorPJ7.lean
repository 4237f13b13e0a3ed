import Derived.Test.YteoijlfipmaoeaaGreatDoorPJ1
import Derived.Laws.BitsAllLaws
import Derived.RowKit
import Derived.Laws.ShiftsVarLaws
import Derived.IntWalk
import Derived.OpenShut
set_option linter.unusedVariables false
set_option linter.unusedSimpArgs false
set_option maxRecDepth 100000
set_option maxHeartbeats 1000000
namespace Go.Proofs.YteoijlfipmaoeaaGreatDoor.Leb
def lenOf:List UInt8->Nat->Option Nat
 | [],_=>none
 |_::_,0=>none
 |b::r,m+1=>if b.toNat<128 then some 1 else(lenOf r m).map (· +1)
theorem lenOf_none:∀(l:List UInt8) (m:Nat),(∀i (h:i<l.length),i<m->128<=(l[i]).toNat)->lenOf l m=none
 | [],_,_=>rfl
 |_::_,0,_=>rfl
 |b::r,m+1,h=>by
  have h0:=h 0 (by simp) (by omega)
  have:=lenOf_none r m (λi hi hm=>h (i+1) (by simpa using hi) (by omega))
  simp only[List.getElem_cons_zero]at h0
  simp[lenOf,this,Nat.not_lt.2 h0]
theorem lenOf_some:∀(l:List UInt8) (m j:Nat) (hj:j<l.length),j<m->(l[j]).toNat<128->(∀i (h:i<l.length),i<j->128<=(l[i]).toNat)->lenOf l m=some (j+1)
 | [],_,_,hj,_,_,_=>absurd hj (by simp)
 |_::_,0,_,_,hm,_,_=>absurd hm (by omega)
 |b::r,m+1,0,_,_,hb,_=>by simp at hb;simp[lenOf,hb]
 |b::r,m+1,j+1,hj,hm,hb,h=>by
  have h0:=h 0 (by simp) (by omega)
  simp only[List.getElem_cons_zero]at h0
  have:=lenOf_some r m j (by simpa using hj) (by omega) (by simpa using hb) (λi hi hlt=>h (i+1) (by simpa using hi) (by omega))
  simp[lenOf,this,Nat.not_lt.2 h0]
theorem lenOf_of_some:∀(l:List UInt8) (m j:Nat),lenOf l m=some j->1<=j/\j<=m/\∃h:j-1<l.length,(l[j-1]).toNat<128
 | [],_,_,h=>by simp[lenOf]at h
 |_::_,0,_,h=>by simp[lenOf]at h
 |b::r,m+1,j,h=>by
  unfold lenOf at h
  split at h
  ·injection h with h;subst h;exact⟨by omega,by omega,by simp,by simpa⟩
  ·
   rw[Option.map_eq_some_iff]at h
   obtain⟨j',h',rfl⟩:=h
   obtain⟨h1,h2,h3,h4⟩:=lenOf_of_some r m j' h'
   refine⟨by omega,by omega,by simp;omega,?_⟩
   obtain⟨q,rfl⟩:∃q,j'=q+1:=⟨j'-1,by omega⟩
   simpa using h4
def joinOf:List UInt8->Nat
 | []=>0
 |b::r=>b.toNat%128+128 * joinOf r
theorem joinOf_snoc:∀(l:List UInt8) (b:UInt8),joinOf (l++[b])=joinOf l+2^(7 * l.length) * (b.toNat%128)
 | [],b=>by simp[joinOf]
 |a::r,b=>by
  rw[zi,joinOf,joinOf_snoc r b,joinOf,zl,show 7 * (r.length+1)=7 * r.length+7 by omega,Nat.pow_add,Nat.mul_add]
  have:128 * (2^(7 * r.length) * (b.toNat%128))=2^(7 * r.length) * 2^7 * (b.toNat%128):=by
   rw[jr (2^(7 * r.length)) (2^7),Nat.mul_assoc]
  omega
theorem joinOf_lt:∀(l:List UInt8),joinOf l<2^(7 * l.length)
 | []=>by simp[joinOf]
 |b::r=>by
  have:=joinOf_lt r
  rw[joinOf,zl,show 7 * (r.length+1)=7 * r.length+7 by omega,Nat.pow_add]
  have:b.toNat%128<128:=kj _ (by omega)
  omega
theorem or_shift(J x k:Nat)(hJ:J<2^(7 * k))(hk:k<=9):J |||(x * 2^(7 * k))%2^64=(J+2^(7 * k) * x)%2^64:=by
 have hd:2^64=2^(7 * k) * 2^(64-7 * k):=by rw[<-Nat.pow_add];congr 1;omega
 generalize 2^(64-7 * k)=R at hd
 have hR:0<R:=Nat.pos_of_ne_zero (λe=>by subst e;simp at hd)
 generalize hP:2^(7 * k)=P at *
 rw[hd,jr x P,Nat.mul_mod_mul_left,Nat.or_comm]
 have h1:(P * (x%R)) |||J=P * (x%R)+J:=by
  have:=nat_join (7 * k) (P * (x%R)) J (by rw[hP];exact Nat.mul_mod_right _ _) (by rw[hP];exact hJ)
  exact this
 rw[h1]
 have h2:J+P * x=P * (x%R)+J+P * R * (x / R):=by
  have h3:P * x=P * (R * (x / R)+x%R):=by rw[Nat.div_add_mod]
  rw[h3,Nat.mul_add,<-Nat.mul_assoc];omega
 rw[h2,Nat.add_mul_mod_self_left]
 refine(xw ?_).symm
 have h4:x%R<R:=kj _ hR
 calc P * (x%R)+J<P * (x%R)+P:=by omega
  _=P * (x%R+1):=by rw[Nat.mul_add,Nat.mul_one]
  _<=P * R:=Nat.mul_le_mul_left _ h4
theorem join_step(bs:List UInt8)(k:Nat)(hk:k<bs.length)(h9:k<=9):
  bits .or .u64 ((joinOf (bs.take k):Nat)%18446744073709551616:Int) (IntKind.u64.wrap (IntKind.u64.wrap (bits .and .u8 ((bs[k]).toNat:Int) 127) * 2^(k * 7)))=
   ((joinOf (bs.take (k+1))%18446744073709551616:Nat):Int):=by
 have hJ:=joinOf_lt (bs.take k)
 rw[qh,xr (by omega)]at hJ
 have hb:=(bs[k]).toNat_lt
 rw[ql hk,joinOf_snoc,qh,xr (by omega)]
 generalize joinOf (bs.take k)=J at *
 generalize(bs[k]).toNat=c at *
 have ea:bits .and .u8 (c:Int) 127=((c%128:Nat):Int):=by
  rw[show(127:Int)=((127:Nat):Int)from rfl,u8_and_nat c 127 (by omega) (by omega),nat_mask7]
 have hJ64:J<18446744073709551616:=zj hJ (by
  calc 2^(7 * k)<=2^63:=jg (by omega) (by omega)
   _<=_:=by omega)
 have hw:∀n:Nat,IntKind.u64.wrap (n:Int)=((n%18446744073709551616:Nat):Int):=λn=>by
  rw[IntKind.wrap_u64];omega
 have hx:c%128%18446744073709551616=c%128:=xw (by omega)
 rw[ea,hw,hx]
 have e2:(((c%128:Nat):Int) * 2^(k * 7))=((c%128 * 2^(7 * k):Nat):Int):=by
  rw[jr k 7];simp
 have e3:((J:Nat)%18446744073709551616:Int)=((J:Nat):Int):=by omega
 rw[e2,hw,e3,u64_or_nat _ _ hJ64 (kj _ (by omega))]
 have:=or_shift J (c%128) k hJ h9
 rw[show(2:Nat)^64=18446744073709551616 from rfl]at this
 rw[this]
theorem and64(x:Nat)(h:x<128):bits .and .u8 (x:Int) 64=if 64<=x then 64 else 0:=by
 rw[show(64:Int)=((64:Nat):Int)from rfl,u8_and_nat x 64 (by omega) (by omega),show(64:Nat)=2^6 from rfl,nat_bit]
 by_cases h6:64<=x
 ·rw[if_pos (by simpa using h6),show x / 2^6%2=1 by omega]
 ·rw[if_neg (by simpa using h6),show x / 2^6%2=0 by omega];rfl
theorem ones_shl:∀j,j<=9->(18446744073709551615 * 2^(7 * j))%18446744073709551616=18446744073709551616-2^(7 * j)
 |0,_|1,_|2,_|3,_|4,_|5,_|6,_|7,_|8,_|9,_=>by decide
 |n+10,h=>absurd h (by omega)
theorem sign_join(J j:Nat)(hJ:J<2^(7 * j))(h1:1<=j)(h2:j<=10)(h10:j=10->127 * 2^63<=J):
  RowKit.wrap64 (bits .or .u64 ((J:Int)%18446744073709551616) (IntKind.u64.wrap (18446744073709551615 * 2^(min (j * 7) 64))))=(J:Int)-2^(7 * j):=by
 have hw:∀n:Nat,IntKind.u64.wrap (n:Int)=((n%18446744073709551616:Nat):Int):=λn=>by
  rw[IntKind.wrap_u64];omega
 have e2:((18446744073709551615:Int) * 2^(min (j * 7) 64))=((18446744073709551615 * 2^(min (7 * j) 64):Nat):Int):=by
  rw[jr j 7];simp
 have e4:((J:Int)%18446744073709551616)=((J%18446744073709551616:Nat):Int):=by simp
 have e3:((2:Int)^(7 * j))=((2^(7 * j):Nat):Int):=by simp
 rw[e2,hw,e3,e4]
 rcases qm j 10 with h|h
 ·
  rw[xr (by omega),ones_shl j (by omega)]
  have hd:(18446744073709551616-2^(7 * j))%2^(7 * j)=0:=by
   have:18446744073709551616=2^(7 * j) * 2^(64-7 * j):=by rw[<-Nat.pow_add,show 7 * j+(64-7 * j)=64 by omega]
   rw[this,<-Nat.mul_sub_one]
   exact Nat.mul_mod_right _ _
  have hP:2^(7 * j)<=2^63:=jg (by omega) (by omega)
  have hP0:0<2^(7 * j):=Nat.pow_pos (by omega)
  have hor:=nat_join (7 * j) (18446744073709551616-2^(7 * j)) J hd hJ
  generalize 2^(7 * j)=P at *
  rw[xw (by omega),u64_or_nat _ _ (by omega) (by omega),Nat.or_comm,hor]
  unfold RowKit.wrap64
  omega
 ·
  have hj:j=10:=by omega
  subst hj
  have hb:=h10 rfl
  rw[show(18446744073709551615 * 2^(min (7 * 10) 64))%18446744073709551616=0 by decide,u64_or_nat _ _ (by omega) (by omega),Nat.or_zero]
  unfold RowKit.wrap64
  omega
theorem unsign_join(J:Nat)(hJ:J<2^63):RowKit.wrap64 ((J:Int)%18446744073709551616)=(J:Int):=by
 unfold RowKit.wrap64
 omega
def evenB(c n:Nat):Bool:=c / 2^(n-1)==0 || c / 2^(n-1)==127 / 2^(n-1)
def sOf(bs:List UInt8)(k bits:Nat):Option (Int×Nat):=
 match lenOf (bs.drop k) ((bits+6) / 7)with
 |none=>none
 |some j=>if j=(bits+6) / 7/\evenB (bs[k+j-1]?.getD 0).toNat (bits-7 * ((bits+6) / 7-1))=false then none
  else some ((joinOf ((bs.drop k).take j):Int)-(if 64<=(bs[k+j-1]?.getD 0).toNat then 2^(7 * j)else 0),k+j)
def uOf(bs:List UInt8)(k bits:Nat):Option (Nat×Nat):=
 match lenOf (bs.drop k) ((bits+6) / 7)with
 |none=>none
 |some j=>if j=(bits+6) / 7/\(bs[k+j-1]?.getD 0).toNat / 2^(bits-7 * ((bits+6) / 7-1))≠0 then none
  else some (joinOf ((bs.drop k).take j)%18446744073709551616,k+j)
theorem joinOf_last(l:List UInt8)(j:Nat)(h1:1<=j)(hl:j<=l.length):
  joinOf (l.take j)=joinOf (l.take (j-1))+2^(7 * (j-1)) * ((l[j-1]'(by omega)).toNat%128)/\joinOf (l.take (j-1))<2^(7 * (j-1)):=by
 obtain⟨i,rfl⟩:∃i,j=i+1:=⟨j-1,by omega⟩
 have h:=joinOf_lt (l.take i)
 rw[qh,xr (by omega)]at h
 rw[ql (by omega),joinOf_snoc,qh,xr (by omega)]
 simp only[Nat.add_sub_cancel]
 exact⟨trivial,h⟩
def putU(v:Nat):List UInt8:=if v<128 then[UInt8.ofNat v]else UInt8.ofNat (v%128+128)::putU (v / 128)
termination_by v
decreasing_by omega
theorem putU_small{v:Nat}(h:v<128):putU v=[UInt8.ofNat v]:=by rw[putU,if_pos h]
theorem putU_big{v:Nat}(h:¬v<128):putU v=UInt8.ofNat (v%128+128)::putU (v / 128):=by rw[putU,if_neg h]
theorem putU_len:∀(n v:Nat),v<128^(n+1)->(putU v).length<=n+1
 |0,v,h=>by rw[putU_small (by simpa using h)];simp
 |n+1,v,h=>by
  by_cases hv:v<128
  ·rw[putU_small hv];simp
  ·
   rw[putU_big hv,zl]
   have:=putU_len n (v / 128) (by rw[Nat.pow_succ]at h;exact Nat.div_lt_of_lt_mul (by rw[jr];exact h))
   omega
theorem putU_len10{v:Nat}(h:v<18446744073709551616):(putU v).length<=10:=putU_len 9 v (by omega)
theorem putU_pos(v:Nat):0<(putU v).length:=by
 by_cases hv:v<128
 ·rw[putU_small hv];simp
 ·rw[putU_big hv];simp
def putS(v:Int):List UInt8:=if -64<=v/\v<64 then[UInt8.ofNat (v%128).toNat]else UInt8.ofNat ((v%128).toNat+128)::putS (v / 128)
termination_by v.natAbs
decreasing_by omega
theorem putS_small{v:Int}(h: -64<=v/\v<64):putS v=[UInt8.ofNat (v%128).toNat]:=by rw[putS,if_pos h]
theorem putS_big{v:Int}(h:¬(-64<=v/\v<64)):putS v=UInt8.ofNat ((v%128).toNat+128)::putS (v / 128):=by rw[putS,if_neg h]
theorem putS_len:∀(n:Nat) (v:Int),-(64 * 128^n)<=v->v<64 * 128^n->(putS v).length<=n+1
 |0,v,h1,h2=>by rw[putS_small (by omega)];simp
 |n+1,v,h1,h2=>by
  by_cases hv: -64<=v/\v<64
  ·rw[putS_small hv];simp
  ·
   rw[putS_big hv,zl]
   rw[Int.pow_succ]at h1 h2
   have:=putS_len n (v / 128) (by omega) (by omega)
   omega
theorem putS_len10{v:Int}(h1: -9223372036854775808<=v)(h2:v<9223372036854775808):(putS v).length<=10:=putS_len 9 v (by omega) (by omega)
theorem or128(c:Nat)(h:c<256):bits .or .u8 (c:Int) 128=((c%128+128:Nat):Int):=by
 rw[show(128:Int)=((128:Nat):Int)from rfl,u8_or_nat c 128 h (by omega)]
 congr 1
 have h1:c=128 * (c / 128)+c%128:=(Nat.div_add_mod c 128).symm
 have h2:c%128<2^7:=kj _ (by omega)
 rcases qm c 128 with h3|h3
 ·rw[Nat.or_comm,nat_join 7 128 c (by decide) (by omega)];omega
 ·
  have h4:c=128 |||c%128:=by rw[nat_join 7 128 (c%128) (by decide) h2];omega
  rw[Nat.or_comm]
  conv=>lhs;rw[h4]
  rw[<-Nat.or_assoc,Nat.or_self,<-h4];omega
theorem toNat_ofNat{n:Nat}(h:n<256):(UInt8.ofNat n).toNat=n:=by simp[UInt8.toNat_ofNat'];omega
def Enc:List UInt8->Prop
 | []=>False
 | [b]=>b.toNat<128
 |b::c::r=>128<=b.toNat/\Enc (c::r)
theorem Enc.pos:∀{l:List UInt8},Enc l->0<l.length
 | [],h=>h.elim
 | [_],_=>by simp
 |_::_::_,_=>by simp
theorem enc_one{n:Nat}(h:n<128):Enc [UInt8.ofNat n]:=by
 show(UInt8.ofNat n).toNat<128
 rw[toNat_ofNat (by omega)];exact h
theorem enc_more{n:Nat}{l:List UInt8}(h:n<128)(hl:Enc l):Enc (UInt8.ofNat (n+128)::l):=by
 cases l with
 |nil=>exact hl.elim
 |cons c r=>exact⟨by rw[toNat_ofNat (by omega)];omega,hl⟩
theorem lenOf_enc:∀{l:List UInt8} (_:Enc l) (more:List UInt8) (m:Nat),lenOf (l++more) m=if l.length<=m then some l.length else none
 | [],h,_,_=>h.elim
 | [b],h,more,0=>by simp[lenOf]
 | [b],h,more,m+1=>by
  have h':b.toNat<128:=h
  simp[lenOf,h']
 |b::c::r,h,more,0=>by simp[lenOf]
 |b::c::r,h,more,m+1=>by
  have h1:128<=b.toNat:=h.1
  have ih:=lenOf_enc h.2 more m
  have h2:¬b.toNat<128:=by omega
  rw[zi,lenOf,if_neg h2,ih]
  simp only[zl]
  by_cases hm:r.length+1<=m
  ·rw[if_pos hm,if_pos (by omega)];simp
  ·rw[if_neg hm,if_neg (by omega)];simp
theorem Enc.last:∀{l:List UInt8} (h:Enc l),(l[l.length-1]'(by have:=h.pos;omega)).toNat<128
 | [],h=>h.elim
 | [_],h=>h
 |_::c::r,h=>Enc.last (l:=c::r) h.2
theorem uOf_enc{l:List UInt8}(h:Enc l)(more:List UInt8)(bits:Nat)(h0:1<=bits)(h1:bits<=64):
  uOf (l++more) 0 bits=if l.length<=(bits+6) / 7/\joinOf l<2^bits then some (joinOf l,l.length)else none:=by
 have hp:=h.pos
 have hl:=joinOf_last l l.length hp (zq _)
 rw[xo,xw h.last]at hl
 have hlt:=joinOf_lt l
 unfold uOf
 rw[xx,lenOf_enc h]
 by_cases hm:l.length<=(bits+6) / 7
 ·
  rw[if_pos hm]
  simp only[qz,List.take_left]
  have hget:(l++more)[l.length-1]?.getD 0=l[l.length-1]'(by omega):=by
   rw[jx (by omega)]
   simp[show l.length-1<l.length by omega]
  rw[hget]
  obtain⟨x,hx⟩:∃x,x=(l[l.length-1]'(by omega)).toNat:=⟨_,rfl⟩
  rw[<-hx]at hl⊢
  have hmod:joinOf l<2^bits->joinOf l%18446744073709551616=joinOf l:=λhh=>xw (zj hh (by
   have:2^bits<=2^64:=jg (by omega) h1
   omega))
  by_cases hj:l.length=(bits+6) / 7
  ·
   have hd:x / 2^(bits-7 * ((bits+6) / 7-1))=joinOf l / 2^bits:=by
    have e:bits=7 * (l.length-1)+(bits-7 * ((bits+6) / 7-1)):=by omega
    generalize bits-7 * ((bits+6) / 7-1)=q at *
    rw[e,Nat.pow_add,<-Nat.div_div_eq_div_mul,hl.1,Nat.add_mul_div_left _ _ (Nat.pow_pos (by omega)),Nat.div_eq_of_lt hl.2,qz]
   rw[hd]
   by_cases hf:joinOf l<2^bits
   ·rw[if_neg (by rw[Nat.div_eq_of_lt hf];simp),if_pos ⟨hm,hf⟩,hmod hf]
   ·rw[if_pos ⟨hj,by rw[Nat.ne_zero_iff_zero_lt];exact Nat.div_pos (by omega) (Nat.pow_pos (by omega))⟩,if_neg (λhh=>hf hh.2)]
  ·
   have hf:joinOf l<2^bits:=zj hlt (jg (by omega) (by omega))
   rw[if_neg (λhh=>hj hh.1),if_pos ⟨hm,hf⟩,hmod hf]
 ·rw[if_neg hm,if_neg (λhh=>hm hh.1)]
theorem putU_enc(v:Nat):Enc (putU v):=by
 induction v using Nat.strongRecOn with
 |_ v ih=>
  by_cases h:v<128
  ·rw[putU_small h];exact enc_one h
  ·rw[putU_big h];exact enc_more (kj _ (by omega)) (ih (v / 128) (by omega))
theorem putU_join(v:Nat):joinOf (putU v)=v:=by
 induction v using Nat.strongRecOn with
 |_ v ih=>
  by_cases h:v<128
  ·rw[putU_small h,joinOf,joinOf,toNat_ofNat (by omega)];omega
  ·rw[putU_big h,joinOf,toNat_ofNat (by omega),ih (v / 128) (by omega)];omega
theorem putU_len_of(j v:Nat)(h:1<=j)(hv:v<2^(7 * j)):(putU v).length<=j:=by
 obtain⟨i,rfl⟩:∃i,j=i+1:=⟨j-1,by omega⟩
 exact putU_len i v (by rw[show(128:Nat)=2^7 from rfl,<-Nat.pow_mul];exact hv)
theorem put_read(v bits:Nat)(more:List UInt8)(h0:1<=bits)(h1:bits<=64):
  uOf (putU v++more) 0 bits=if v<2^bits then some (v,(putU v).length)else none:=by
 rw[uOf_enc (putU_enc v) more bits h0 h1,putU_join]
 by_cases hv:v<2^bits
 ·rw[if_pos hv,if_pos ⟨putU_len_of _ v (by omega) (zj hv (jg (by omega) (by omega))),hv⟩]
 ·rw[if_neg hv,if_neg (λhh=>hv hh.2)]
def sval(l:List UInt8):Int:=(joinOf l:Int)-(if 64<=(l[l.length-1]?.getD 0).toNat then 2^(7 * l.length)else 0)
theorem sval_one(b:UInt8)(h:b.toNat<128):sval [b]=(b.toNat:Int)-(if 64<=b.toNat then 128 else 0):=by
 simp[sval,joinOf];omega
theorem sval_cons(b c:UInt8)(r:List UInt8):sval (b::c::r)=(b.toNat%128:Nat)+128 * sval (c::r):=by
 unfold sval
 rw[joinOf]
 have e:(b::c::r)[(b::c::r).length-1]? =(c::r)[(c::r).length-1]?:=by simp
 rw[e,show 7 * (b::c::r).length=7 * (c::r).length+7 by simp;omega,Int.pow_add]
 split<;>omega
theorem putS_enc(n:Nat):∀v:Int,v.natAbs<=n->Enc (putS v)/\sval (putS v)=v:=by
 induction n using Nat.strongRecOn with
 |_ n ih=>
  intro v hv
  by_cases h: -64<=v/\v<64
  ·
   rw[putS_small h]
   have hb:(v%128).toNat<128:=by omega
   refine⟨enc_one hb,?_⟩
   rw[sval_one _ (by rw[toNat_ofNat (by omega)];exact hb),toNat_ofNat (by omega)]
   split<;>omega
  ·
   rw[putS_big h]
   obtain⟨h1,h2⟩:=ih (v / 128).natAbs (by omega) (v / 128) (zq _)
   refine⟨enc_more (by omega) h1,?_⟩
   cases hp:putS (v / 128)with
   |nil=>rw[hp]at h1;exact h1.elim
   |cons c r=>
    rw[hp]at h2
    rw[sval_cons,h2,toNat_ofNat (by omega)]
    omega
theorem sval_bounds:∀{l:List UInt8} (_:Enc l),-(2^(7 * l.length-1):Int)<=sval l/\sval l<2^(7 * l.length-1)
 | [],h=>h.elim
 | [b],h=>by
  have h':b.toNat<128:=h
  rw[sval_one b h']
  simp
  split<;>omega
 |b::c::r,h=>by
  have ih:=sval_bounds (l:=c::r) h.2
  rw[sval_cons]
  have e:7 * (b::c::r).length-1=(7 * (c::r).length-1)+7:=by simp;omega
  rw[e,Int.pow_add]
  have:b.toNat%128<128:=kj _ (by omega)
  omega
theorem sOf_enc64{l:List UInt8}(h:Enc l)(more:List UInt8)(h1: -9223372036854775808<=sval l)(h2:sval l<9223372036854775808)(h10:l.length<=10):
  sOf (l++more) 0 64=some (sval l,l.length):=by
 have hp:=h.pos
 have hl:=joinOf_last l l.length hp (zq _)
 rw[xo,xw h.last]at hl
 have hlast:=h.last
 unfold sOf
 rw[xx,lenOf_enc h,if_pos (by omega)]
 simp only[qz,List.take_left]
 have hget0:l[l.length-1]?.getD 0=l[l.length-1]'(by omega):=by simp[show l.length-1<l.length by omega]
 have hget:(l++more)[l.length-1]?.getD 0=l[l.length-1]'(by omega):=by
  rw[jx (by omega)]
  exact hget0
 rw[hget]
 unfold sval at *
 rw[hget0]at h1 h2⊢
 obtain⟨x,hx⟩:∃x,x=(l[l.length-1]'(by omega)).toNat:=⟨_,rfl⟩
 rw[<-hx]at hl h1 h2 hlast⊢
 rw[if_neg]
 rintro⟨e1,e2⟩
 have e1':l.length=10:=by omega
 rw[e1']at hl h1 h2
 have hev:evenB x 1=true:=by
  have h3:(2:Int)^(7 * 10)=1180591620717411303424:=by decide
  have h4:(2:Nat)^(7 * (10-1))=9223372036854775808:=by decide
  rw[h3]at h1 h2
  rw[h4]at hl
  simp only[evenB,Nat.sub_self,Nat.pow_zero,Nat.div_one,jc,beq_iff_eq]
  split at h1<;>omega
 rw[hev]at e2
 cases e2
theorem putS_read(v:Int)(more:List UInt8)(h1: -9223372036854775808<=v)(h2:v<9223372036854775808):
  sOf (putS v++more) 0 64=some (v,(putS v).length):=by
 obtain⟨he,hv⟩:=putS_enc v.natAbs v (zq _)
 have:=sOf_enc64 he more (by rw[hv];exact h1) (by rw[hv];exact h2) (putS_len10 h1 h2)
 rw[hv]at this
 exact this
theorem putS_len_of(j:Nat)(v:Int)(h:1<=j)(h1: -(2^(7 * j-1):Int)<=v)(h2:v<2^(7 * j-1)):(putS v).length<=j:=by
 obtain⟨i,rfl⟩:∃i,j=i+1:=⟨j-1,by omega⟩
 have e:(2:Int)^(7 * (i+1)-1)=64 * 128^i:=by
  rw[show 7 * (i+1)-1=6+7 * i by omega,Int.pow_add,Int.pow_mul];rfl
 rw[e]at h1 h2
 exact putS_len i v h1 h2
theorem enc_of_len:∀(l:List UInt8) (m j:Nat),lenOf l m=some j->Enc (l.take j)/\(l.take j).length=j
 | [],_,_,h=>by simp[lenOf]at h
 |_::_,0,_,h=>by simp[lenOf]at h
 |b::r,m+1,j,h=>by
  unfold lenOf at h
  split at h
  ·injection h with h;subst h;exact⟨by simpa[Enc],by simp⟩
  ·
   rename_i hb
   rw[Option.map_eq_some_iff]at h
   obtain⟨j',h',rfl⟩:=h
   obtain⟨h1,h2⟩:=enc_of_len r m j' h'
   rw[List.take_succ_cons]
   refine⟨?_,by simp[h2]⟩
   cases hq:r.take j' with
   |nil=>rw[hq]at h1;exact h1.elim
   |cons c q=>rw[hq]at h1;exact⟨by omega,h1⟩
theorem uOf_short(bs:List UInt8)(k bits u n:Nat)(h1:bits<=64)(h:uOf bs k bits=some (u,n)):k<=n/\(putU u).length<=n-k:=by
 unfold uOf at h
 split at h
 ·cases h
 ·
  rename_i j hj
  obtain⟨he,hl⟩:=enc_of_len _ _ _ hj
  obtain⟨j1,j2,_⟩:=lenOf_of_some _ _ _ hj
  split at h
  ·cases h
  ·
   injection h with h
   injection h with e1 e2
   subst e1 e2
   refine⟨by omega,?_⟩
   rw[Nat.add_sub_cancel_left]
   have hlt:=joinOf_lt ((bs.drop k).take j)
   rw[hl]at hlt
   exact putU_len_of j _ j1 (Nat.lt_of_le_of_lt (Nat.mod_le _ _) hlt)
theorem sOf_short(bs:List UInt8)(k bits n:Nat)(s:Int)(h:sOf bs k bits=some (s,n)):k<=n/\(putS s).length<=n-k:=by
 unfold sOf at h
 split at h
 ·cases h
 ·
  rename_i j hj
  obtain⟨he,hl⟩:=enc_of_len _ _ _ hj
  obtain⟨j1,j2,j3,_⟩:=lenOf_of_some _ _ _ hj
  split at h
  ·cases h
  ·
   injection h with h
   injection h with e1 e2
   subst e1 e2
   refine⟨by omega,?_⟩
   rw[Nat.add_sub_cancel_left]
   have hb:=sval_bounds he
   unfold sval at hb
   rw[hl]at hb
   have e:((bs.drop k).take j)[j-1]? =bs[k+j-1]?:=by
    rw[ja,if_pos (by omega),jk];congr 1;omega
   rw[e]at hb
   exact putS_len_of j _ j1 hb.1 hb.2
theorem uOf_lt(bs:List UInt8)(k bits u n:Nat)(h:uOf bs k bits=some (u,n)):u<18446744073709551616:=by
 unfold uOf at h
 split at h
 ·cases h
 ·
  split at h
  ·cases h
  ·
   injection h with h
   injection h with e1 e2
   subst e1
   exact kj _ (by omega)
theorem uOf_le(bs:List UInt8)(k bits u n:Nat)(h:uOf bs k bits=some (u,n)):n<=bs.length:=by
 unfold uOf at h
 split at h
 ·cases h
 ·
  rename_i j hj
  obtain⟨j1,j2,j3,_⟩:=lenOf_of_some _ _ _ hj
  simp only[qc]at j3
  split at h
  ·cases h
  ·
   injection h with h
   injection h with e1 e2
   omega
theorem sOf_le(bs:List UInt8)(k bits n:Nat)(s:Int)(h:sOf bs k bits=some (s,n)):n<=bs.length:=by
 unfold sOf at h
 split at h
 ·cases h
 ·
  rename_i j hj
  obtain⟨j1,j2,j3,_⟩:=lenOf_of_some _ _ _ hj
  simp only[qc]at j3
  split at h
  ·cases h
  ·
   injection h with h
   injection h with e1 e2
   omega
end Go.Proofs.YteoijlfipmaoeaaGreatDoor.Leb
namespace Go.Proofs.YteoijlfipmaoeaaGreatDoor.Sect
open Leb
structure Pt where
 id:Int
 at_:Nat
 bs:List UInt8
def Pt.key(s:Pt):Int×List UInt8:=(s.id,s.bs)
def magic:List UInt8:=[0,97,115,109,1,0,0,0]
def fol(i hi:Int):Bool:=i==0 || (decide (hi<i)&&decide (i<=11))
def pre(acc:List Pt):Except (Nat×Nat) (List Pt)->Except (Nat×Nat) (List Pt)
 |.error e=>.error e
 |.ok l=>.ok (acc++l)
def spl(l:List UInt8)(p:Nat)(hi:Int)(n:Nat):Except (Nat×Nat) (List Pt):=
 match l with
 | []=>.ok []
 |x::r=>
  if fol x.toNat hi=false then .error (2,p)
  else if n=128 then .error (7,p)
  else match uOf r 0 32 with
   |none=>.error (2,p+1)
   |some (k,j)=>if r.length-j<k then .error (2,p+1)
    else pre [⟨x.toNat,p+1+j,(r.drop j).take k⟩] (spl (r.drop (j+k)) (p+1+j+k) (max hi x.toNat) (n+1))
termination_by l.length
decreasing_by simp;omega
def split(bs:List UInt8):Except (Nat×Nat) (List Pt):=if bs.take 8=magic then spl (bs.drop 8) 8 0 0 else .error (2,0)
theorem spl_nil(p:Nat)(hi:Int)(n:Nat):spl [] p hi n=.ok []:=by rw[spl]
theorem spl_cons(x:UInt8)(r:List UInt8)(p:Nat)(hi:Int)(n:Nat):spl (x::r) p hi n=
  if fol x.toNat hi=false then .error (2,p)
  else if n=128 then .error (7,p)
  else match uOf r 0 32 with
   |none=>.error (2,p+1)
   |some (k,j)=>if r.length-j<k then .error (2,p+1)
    else pre [⟨x.toNat,p+1+j,(r.drop j).take k⟩] (spl (r.drop (j+k)) (p+1+j+k) (max hi x.toNat) (n+1)):=by rw[spl]
theorem pre_pre(a b:List Pt)(r:Except (Nat×Nat) (List Pt)):pre a (pre b r)=pre (a++b) r:=by cases r<;>simp[pre]
theorem pre_nil(r:Except (Nat×Nat) (List Pt)):pre [] r=r:=by cases r<;>simp[pre]
theorem uOf_drop(bs:List UInt8)(k bits:Nat):uOf bs k bits=(uOf (bs.drop k) 0 bits).map λq=>(q.1,k+q.2):=by
 unfold uOf
 rw[xx]
 cases h:lenOf (bs.drop k) ((bits+6) / 7)with
 |none=>rfl
 |some j=>
  obtain⟨j1,j2,j3,j4⟩:=lenOf_of_some _ _ _ h
  have e:(bs.drop k)[0+j-1]? =bs[k+j-1]?:=by
   rw[jk];congr 1;omega
  simp only[e]
  split
  ·rfl
  ·simp
theorem uOf_ge(bs:List UInt8)(k bits u n:Nat)(h:uOf bs k bits=some (u,n)):k+1<=n:=by
 unfold uOf at h
 split at h
 ·cases h
 ·
  rename_i j hj
  obtain⟨j1,j2,j3,j4⟩:=lenOf_of_some _ _ _ hj
  split at h
  ·cases h
  ·
   injection h with h
   injection h with e1 e2
   omega
theorem spl_at(bs:List UInt8)(p:Nat)(hi:Int)(n:Nat)(h:p<bs.length):spl (bs.drop p) p hi n=
  if fol (bs[p]).toNat hi=false then .error (2,p)
  else if n=128 then .error (7,p)
  else match uOf bs (p+1) 32 with
   |none=>.error (2,p+1)
   |some (k,j)=>if bs.length-j<k then .error (2,p+1)
    else pre [⟨(bs[p]).toNat,j,(bs.drop j).take k⟩] (spl (bs.drop (j+k)) (j+k) (max hi (bs[p]).toNat) (n+1)):=by
 rw[ji h,spl_cons,uOf_drop bs (p+1) 32]
 cases hu:uOf (bs.drop (p+1)) 0 32 with
 |none=>rfl
 |some q=>
  obtain⟨k,j⟩:=q
  simp only[Option.map_some,qc,jd]
  have e1:p+1+j+k=p+1+(j+k):=by omega
  have e2:bs.length-(p+1)-j=bs.length-(p+1+j):=by omega
  rw[e1,e2]
def rise:Int->List Int->Bool
 |_,[]=>true
 |hi,i::r=>fol i hi&&rise (max hi i) r
def top(hi:Int)(l:List Int):Int:=l.foldl max hi
def encS(s:Int×List UInt8):List UInt8:=UInt8.ofNat s.1.toNat::(putU s.2.length++s.2)
def encL(l:List (Int×List UInt8)):List UInt8:=l.flatMap encS
def pts:Nat->List (Int×List UInt8)->List Pt
 |_,[]=>[]
 |p,s::r=>⟨s.1,p+1+(putU s.2.length).length,s.2⟩::pts (p+(encS s).length) r
theorem encL_cons(s:Int×List UInt8)(l:List (Int×List UInt8)):encL (s::l)=encS s++encL l:=by simp[encL]
theorem encL_snoc(s:Int×List UInt8)(l:List (Int×List UInt8)):encL (l++[s])=encL l++encS s:=by simp[encL]
theorem encS_length(s:Int×List UInt8):(encS s).length=1+(putU s.2.length).length+s.2.length:=by simp[encS];omega
theorem fol_range{i hi:Int}(h:fol i hi=true)(h0:0<=hi):0<=i/\i<=11:=by
 unfold fol at h
 simp at h
 omega
theorem spl_enc(more:List UInt8):∀(l:List (Int×List UInt8)) (p:Nat) (hi:Int) (n:Nat),rise hi (l.map (·.1))=true->0<=hi->n+l.length<=128->(∀s∈l,s.2.length<4294967296)->
  spl (encL l++more) p hi n=pre (pts p l) (spl more (p+(encL l).length) (top hi (l.map (·.1))) (n+l.length))
 | [],p,hi,n,_,_,_,_=>by simp[encL,pts,top,pre_nil]
 |s::r,p,hi,n,hr,h0,hn,hb=>by
  rw[qu,rise,zp]at hr
  obtain⟨hf,hr⟩:=hr
  obtain⟨hi1,hi2⟩:=fol_range hf h0
  have hx:((UInt8.ofNat s.1.toNat).toNat:Int)=s.1:=by rw[toNat_ofNat (by omega)];omega
  have hlen:=hb s jo
  have ih:=spl_enc more r (p+(encS s).length) (max hi s.1) (n+1) hr (by omega) (by simp at hn;omega) (λq hq=>hb q (xj _ hq))
  rw[encL_cons,zt]
  unfold encS
  rw[zi,spl_cons,hx,hf,if_neg (by decide),if_neg (by simp at hn;omega),zt,put_read _ 32 _ (by omega) (by omega),if_pos (by simpa using hlen)]
  dsimp only
  have e0:((putU s.2.length++(s.2++(encL r++more))).length-(putU s.2.length).length)=s.2.length+(encL r++more).length:=by simp only[zz];omega
  rw[e0,if_neg (by omega),List.drop_left,List.take_left,<-zt,List.drop_append_of_le_length (by simp),show(putU s.2.length++s.2).drop ((putU s.2.length).length+s.2.length)=[]by rw[<-zz,List.drop_length],qx]
  have e1:p+1+(putU s.2.length).length+s.2.length=p+(encS s).length:=by rw[encS_length];omega
  rw[e1,ih,pre_pre]
  have e2:p+(encS s).length+(encL r).length=p+(UInt8.ofNat s.1.toNat::(putU s.2.length++s.2)++encL r).length:=by
   simp[encS];omega
  have e3:n+1+r.length=n+(s::r).length:=by simp;omega
  rw[e2,e3]
  rfl
theorem spl_ok:∀(N:Nat) (l:List UInt8) (p:Nat) (hi:Int) (n:Nat) (t:List Pt),l.length<=N->spl l p hi n=.ok t->n<=128->
  rise hi (t.map (·.id))=true/\n+t.length<=128/\(encL (t.map Pt.key)).length<=l.length/\(∀s∈t,s.bs.length<=l.length/\p<s.at_/\s.at_<=p+l.length)
 |_,[],p,hi,n,t,_,h,hn=>by
  rw[spl_nil]at h
  injection h with h
  subst h
  exact⟨rfl,by simpa using hn,by simp[encL],by simp⟩
 |0,_::_,_,_,_,_,hl,_,_=>by simp at hl
 |N+1,x::r,p,hi,n,t,hl,h,hn=>by
  rw[spl_cons]at h
  split at h
  ·cases h
  rename_i hf
  split at h
  ·cases h
  rename_i hn'
  split at h
  ·cases h
  rename_i k j hu
  split at h
  ·cases h
  rename_i hk
  cases hs:spl (r.drop (j+k)) (p+1+j+k) (max hi x.toNat) (n+1)with
  |error e=>rw[hs]at h;cases h
  |ok u=>
   rw[hs]at h
   injection h with h
   subst h
   obtain⟨i1,i2,i3,i4⟩:=spl_ok N _ _ _ _ u (by simp at hl⊢;omega) hs (by omega)
   have hj:=uOf_le _ _ _ _ _ hu
   obtain⟨-,hp⟩:=uOf_short _ _ _ _ _ (by omega) hu
   have hlen:((r.drop j).take k).length=k:=by simp;omega
   refine⟨?_,by simp;omega,?_,λs hs'=>?_⟩
   ·
    simp only[xd,qu,rise,zp]
    exact⟨by simpa using hf,i1⟩
   ·
    simp only[xd,qu,encL_cons,zz,encS_length,Pt.key,hlen,zl]
    simp at i3
    simp at hp
    omega
   ·
    rcases List.mem_append.1 hs' with h1|h1
    ·
     simp at h1
     subst h1
     refine⟨?_,?_,?_⟩
     ·show((r.drop j).take k).length<=_;rw[hlen];simp;omega
     ·show p<p+1+j;omega
     ·show p+1+j<=_;simp;omega
    ·
     obtain⟨h2,h3,h4⟩:=i4 s h1
     simp at h2 h4⊢
     omega
end Go.Proofs.YteoijlfipmaoeaaGreatDoor.Sect
namespace Go.Proofs.YteoijlfipmaoeaaGreatDoor
open Lib (hid)
open Go.RowKit
open Go.Proofs.Tryz
theorem ret_intL{k:IntKind}{a b:Int}(h:a=b):Ending.returned (.int k a)=.returned (.int k b):=by rw[h]
theorem ret_boolL{a b:Bool}(h:a=b):Ending.returned (.bool a)=.returned (.bool b):=by rw[h]
theorem most_any(n:Int)(w:World)(h0:1<=n)(h1:n<=64):
  Calls prog 191 #[.int .i64 n] w λe w'=>e=.returned (.int .i64 ((n+6) / 7))/\w=w':=by
 go_enter func191,ntmps191
 go_wp2
 go_ret
 exact⟨ret_intL (by omega),rfl⟩
theorem most_nat(n:Int)(m:Nat)(w:World)(h0:1<=n)(h1:n<=64)(hm:(n+6) / 7=m):
  Calls prog 191 #[.int .i64 n] w λe w'=>e=.returned (.int .i64 m)/\w=w':=by
 rw[<-hm];exact most_any n w h0 h1
theorem kept_any(n:Int)(w:World)(h0:1<=n)(h1:n<=64):
  Calls prog 192 #[.int .i64 n] w λe w'=>e=.returned (.int .i64 (n-7 * ((n+6) / 7-1)))/\w=w':=by
 go_enter func192,ntmps192
 go_wp2_with(go_at_call 191;refine(most_any _ _ (by omega) (by omega)).mono ?_;rintro e w' ⟨rfl,rfl⟩)
 go_ret
 exact⟨rfl,rfl⟩
theorem kept_nat(n:Int)(q:Nat)(w:World)(h0:1<=n)(h1:n<=64)(hq:n-7 * ((n+6) / 7-1)=q):
  Calls prog 192 #[.int .i64 n] w λe w'=>e=.returned (.int .i64 q)/\w=w':=by
 rw[<-hq];exact kept_any n w h0 h1
theorem even_any(c:UInt8)(n:Int)(w:World)(h0:1<=n)(h1:n<=7):
  Calls prog 301 #[.int .u8 c.toNat,.int .i64 n] w λe w'=>e=.returned (.bool (Leb.evenB c.toNat n.toNat))/\w=w':=by
 have hc:=c.toNat_lt
 go_enter func301,ntmps301
 go_wp2
 all_goals
  rename_i h
  go_ret
  refine⟨ret_boolL ?_,rfl⟩
  clear h0 h1 hc
  unfold Leb.evenB
  have e1:((c.toNat:Int) / 2^(n.toNat-1))=((c.toNat / 2^(n.toNat-1):Nat):Int):=by simp
  have e2:((127:Int) / 2^(n.toNat-1))=((127 / 2^(n.toNat-1):Nat):Int):=by simp
 ·
  rw[e1]at h
  have h':c.toNat / 2^(n.toNat-1)=0:=by omega
  simp[h']
 ·
  show((_==_) || (_==_))=_
  rw[e1,e2]
  have hb:∀a b:Nat,((a:Int)==(b:Int))=(a==b):=λa b=>by
   rw[Bool.eq_iff_iff,beq_iff_eq,beq_iff_eq];omega
  rw[hb]
  rw[show(0:Int)=((0:Nat):Int)from rfl,hb]
def lenV:Option Nat->Value
 |some j=>.tuple #[.int .i64 j,.nilIface]
 |none=>.tuple #[.int .i64 0,.iface 40 (.int .i64 2)]
theorem length_any(A:Option Addr)(c:Nat)(bs:List UInt8)(k:Nat)(bits:Int)(w:World)(hs:Sl w w.heap.size A (u8s bs))(hc:bs.length<=c)(hm:c<=maxLen)
  (
  h0:1<=bits) (h1:bits<=64) (h3:k<=bs.length):
  Calls prog 190 #[.slice A bs.length c,.int .i64 k,.int .i64 bits] w λe w'=>e=.returned (lenV (Leb.lenOf (bs.drop k) ((bits.toNat+6) / 7)))/\w=w':=by
 unfold maxLen at hm
 have t1:decide (bits<1)=false:=by simp;omega
 have t2:decide (64<bits)=false:=by simp;omega
 have t3:decide (bs.length<k)=false:=by simp;omega
 by_cases hlt:k<bs.length
 ·
  obtain⟨b,off,rfl,hb,hcell⟩:=hs (by intro h;have:=congrArg List.length h;simp at this;simp[this]at hlt)
  have hck:¬c=k:=by omega
  obtain⟨m,hm⟩:∃m:Nat,(bits+6) / 7=m:=⟨((bits+6) / 7).toNat,by omega⟩
  have hm10:m<=10:=by omega
  have em:(bits.toNat+6) / 7=m:=by omega
  rw[em]
  have Hm:=hid hm
  clear hm em
  have HF:=hid (λ(l:List UInt8) j=>Leb.lenOf_none l j)
  have HS:=hid (λ(l:List UInt8) i j=>Leb.lenOf_some l i j)
  have HC:=hid hcell
  clear hcell
  by_cases hmin:(m:Int)<((bs.length-k:Nat):Int)
  all_goals
   go_enter func190,ntmps190
   go_wp2_with(go_at_call 191;refine(most_nat _ m _ (by omega) (by omega) Hm.out).mono ?_;rintro e w' ⟨rfl,rfl⟩)
   go_loop [39] (λi=>∃j:Nat,j<=m/\j<=bs.length-k/\i=.int .i64 j/\Hid (∀i (h:i<(bs.drop k).length),i<j->128<=((bs.drop k)[i]).toNat)) (λi=>m-(intOf i).toNat)
   case atStart=>exact⟨0,qw _,qw _,rfl,hid (λi _ h=>absurd h (by omega))⟩
   case round=>
    obtain⟨j,hj1,hj2,rfl,HJ⟩:=hrel
    by_cases hj:j<m/\j<bs.length-k
    ·
     obtain⟨hjm,hjn⟩:=hj
     have hl:j<(bs.drop k).length:=by simp;omega
     have hcj:=(HC.out (k+j) (by simp;omega)).trans (u8s_get bs (k+j) (by omega))
     have hbj:bs[k+j]'(by omega)=(bs.drop k)[j]:=by simp
     rw[hbj]at hcj
     clear hbj
     rw[show off+(k+j)=off+k+j by omega]at hcj
     have hb8:=((bs.drop k)[j]).toNat_lt
     by_cases hbig:((bs.drop k)[j]).toNat<128
     ·
      have hfin:=HS.out (bs.drop k) m j hl hjm hbig HJ.out
      have Hfin:=hid hfin
      clear hfin
      obtain⟨x,hx⟩:∃x,x=((bs.drop k)[j]).toNat:=⟨_,rfl⟩
      rw[<-hx]at hcj hb8 hbig
      clear hx
      go_wp2
      go_ret2
      refine⟨?_,rfl⟩
      rw[Hfin.out]
      rfl
     ·
      have HJ2:=hid (show∀i (h:i<(bs.drop k).length),i<j+1->128<=((bs.drop k)[i]).toNat from λi h hij=>by
       rcases qm i j with h1|h1
       ·exact HJ.out i h h1
       ·
        have:i=j:=by omega
        subst this;omega)
      obtain⟨x,hx⟩:∃x,x=((bs.drop k)[j]).toNat:=⟨_,rfl⟩
      rw[<-hx]at hcj hb8 hbig
      clear hx
      go_wp2
      go_round
      case rel=>exact⟨j+1,by omega,by omega,by go_num,HJ2⟩
      case measure=>simp[intOf];omega
    ·
     have hfin:=HF.out (bs.drop k) m (λi h hij=>HJ.out i h (by simp at h;omega))
     have Hfin:=hid hfin
     clear hfin
     first|(have hx:¬j<m:=by omega)|(have hx:¬j<bs.length-k:=by omega)
     go_wp2
     go_ret2
     refine⟨?_,rfl⟩
     rw[Hfin.out]
     rfl
 ·
  have hk:k=bs.length:=by omega
  subst hk
  clear hs
  have e0:bs.drop bs.length=[]:=by simp
  rw[e0]
  clear h3 t3 hlt e0
  have t3:decide (bs.length<bs.length)=false:=by simp
  have t4:¬((bits+6) / 7<((bs.length-bs.length:Nat):Int)):=by omega
  by_cases hck:c=bs.length
  all_goals
   go_enter func190,ntmps190
   go_wp2_with(go_at_call 191;refine(most_any _ _ (by omega) (by omega)).mono ?_;rintro e w' ⟨rfl,rfl⟩)
   refine wp_loop_rounds 1 ?_
   rw[rounds_succ]
   go_wp2
   go_ret2
   exact⟨rfl,rfl⟩
theorem join_any(b off c:Nat)(bs:List UInt8)(w:World)(hs:Sl w w.heap.size (some ⟨b,off,none⟩) (u8s bs))(hc:bs.length<=10):
  Calls prog 193 #[.slice (some ⟨b,off,none⟩) bs.length c] w λe w'=>e=.returned (.int .u64 (Leb.joinOf bs%18446744073709551616:Nat))/\w=w':=by
 go_enter func193,ntmps193
 go_wp2
 go_loop [3,8] (λv i=>∃k:Nat,k<=bs.length/\i=.int .i64 k/\v=.int .u64 (Leb.joinOf (bs.take k)%18446744073709551616:Nat)) (λ_ i=>bs.length-(intOf i).toNat)
 case atStart=>exact⟨0,qw _,rfl,rfl⟩
 case round=>
  obtain⟨k,hk,rfl,rfl⟩:=hrel
  by_cases hlt:k<bs.length
  ·
   obtain⟨b',off',e,hb,hcell⟩:=hs (by intro h;have:=congrArg List.length h;simp at this;simp[this]at hlt)
   injection e with e;injection e with e1 e2;subst e1 e2
   have hc:=(hcell k (by simpa using hlt)).trans (u8s_get bs k hlt)
   clear hcell hs
   have hb8:=bs[k].toNat_lt
   have H:=hid (Leb.join_step bs k hlt (by omega))
   go_wp2
   go_round
   case rel=>exact⟨k+1,by omega,by go_num,by rw[H.out]⟩
   case measure=>simp[intOf];omega
  ·
   go_wp2
   go_ret
   exact⟨ret_intL (by rw[zo (by omega)]),rfl⟩
def luV:Option (Nat×Nat)->Value
 |some (x,n)=>.tuple #[.int .u64 (x:Int),.int .i64 (n:Int),.nilIface]
 |none=>.tuple #[.int .u64 0,.int .i64 0,.iface 40 (.int .i64 2)]
theorem U_any(A:Option Addr)(c:Nat)(bs:List UInt8)(k:Nat)(bits:Int)(w:World)(hs:Sl w w.heap.size A (u8s bs))(hc:bs.length<=c)(hm:c<=maxLen)
  (
  h0:1<=bits) (h1:bits<=64) (h3:k<=bs.length):
  Calls prog 133 #[.slice A bs.length c,.int .i64 k,.int .i64 bits] w λe w'=>e=.returned (luV (Leb.uOf bs k bits.toNat))/\∃nq,w'=w.drewN nq:=by
 have hm':=hm
 unfold maxLen at hm'
 have hlen:=length_any A c bs k bits w hs hc hm h0 h1 h3
 cases hl:Leb.lenOf (bs.drop k) ((bits.toNat+6) / 7)with
 |none=>
  have hfin:Leb.uOf bs k bits.toNat=none:=by simp[Leb.uOf,hl]
  have Hfin:=hid hfin
  rw[hl]at hlen
  have HL:=hid hlen
  clear hfin hl hlen
  go_enter func133,ntmps133
  go_wp2_with(go_at_call 190;refine HL.out.mono ?_;rintro e w' ⟨rfl,rfl⟩;unfold lenV)
  go_ret3
  refine⟨?_,0,rfl⟩
  rw[Hfin.out]
  rfl
 |some j=>
  obtain⟨j1,j2,j3,j4⟩:=Leb.lenOf_of_some _ _ _ hl
  rw[hl]at hlen
  have HL:=hid hlen
  clear hlen
  simp only[qc]at j3
  obtain⟨b,off,rfl,hb,hcell⟩:=hs (by intro h;have:=congrArg List.length h;simp at this;simp[this]at j3)
  have hcj:=(hcell (k+j-1) (by simp;omega)).trans (u8s_get bs (k+j-1) (by omega))
  have hget:bs[k+j-1]?.getD 0=bs[k+j-1]'(by omega):=by simp[show k+j-1<bs.length by omega]
  obtain⟨m,hmm⟩:∃m:Nat,(bits+6) / 7=m:=⟨((bits+6) / 7).toNat,by omega⟩
  obtain⟨q,hq⟩:∃q:Nat,bits-7 * ((bits+6) / 7-1)=q:=⟨(bits-7 * ((bits+6) / 7-1)).toNat,by omega⟩
  have em:(bits.toNat+6) / 7=m:=by omega
  have eq:bits.toNat-7 * (m-1)=q:=by omega
  have hb8:=(bs[k+j-1]'(by omega)).toNat_lt
  have hfin:Leb.uOf bs k bits.toNat=if j=m/\(bs[k+j-1]'(by omega)).toNat / 2^q≠0 then none
    else some (Leb.joinOf ((bs.drop k).take j)%18446744073709551616,k+j):=by
   unfold Leb.uOf
   rw[hl]
   simp only[hget,em,eq]
  obtain⟨x,hx⟩:∃x,x=(bs[k+j-1]'(by omega)).toNat:=⟨_,rfl⟩
  rw[<-hx]at hfin hcj hb8
  have hsl:Sl w w.heap.size (some ⟨b,off+k,none⟩) (u8s ((bs.drop k).take j)):=by
   have:=(hs.drop (k:=k) (cap:=c) (by simpa using hc)).take j
   rw[if_neg (by omega),<-u8s_drop,<-u8s_take]at this
   by_cases e:k=0
   ·subst e;simpa[Addr.add]using this
   ·simpa[Addr.add,e]using this
  have hlj:((bs.drop k).take j).length=j:=by simp;omega
  have hjoin:=λnq=>join_any b (off+k) (c-k) ((bs.drop k).take j) (w.drewN nq) (hsl.drewN nq) (by omega)
  rw[hlj]at hjoin
  clear hsl
  have hm10:m<=10:=by omega
  have hq1:1<=q:=by omega
  have hq7:q<=7:=by omega
  rw[em]at j2
  have Hm:=hid hmm
  have Hq:=hid hq
  have HJ:=hid hjoin
  clear hmm hq em eq hx hget hl j4 hlj hjoin hcell hs
  have hck:¬c=k:=by omega
  have f1:IntKind.i64.wrap ((k:Int)+j-1)=(k:Int)+j-1:=IntWalk.i64_in _ (by omega)
  have f2:(0:Int)<=(k:Int)+j-1:=by omega
  have f3:(k:Int)+j-1<bs.length:=by omega
  have f4:((k:Int)+j-1).toNat=k+j-1:=by omega
  have f5:((k:Int)+j).toNat=k+j:=by omega
  have F1:=hid f1
  have F4:=hid f4
  clear f1 f4
  by_cases hjm:j=m
  ·
   subst hjm
   have ez:((x:Int) / 2^q)=((x / 2^q:Nat):Int):=by simp
   by_cases hz:x / 2^q=0
   ·
    have t1:((x:Int) / 2^q != 0)=false:=by rw[ez,hz];rfl
    rw[if_neg (by simp[hz])]at hfin
    have Hfin:=hid hfin
    clear hfin hz ez
    go_enter func133,ntmps133
    go_wp2_with(go_at_call 190;refine HL.out.mono ?_;rintro e w' ⟨rfl,rfl⟩;unfold lenV)
    have f1:=F1.out
    have f4:=F4.out
    go_quiet (first|(go_at_call 191;exact quiet_same (most_nat _ j _ (by omega) (by omega) Hm.out))|(go_at_call 192;exact quiet_same (kept_nat _ q _ (by omega) (by omega) Hq.out)))
    clear f1 f4
    go_wp2_with(go_at_call 193;refine(HJ.out _).mono ?_;rintro e w' ⟨rfl,rfl⟩)
    go_ret3
    exact⟨by rw[Hfin.out];rfl,_,rfl⟩
   ·
    have t1:((x:Int) / 2^q != 0)=true:=by rw[ez,bne_iff_ne];omega
    rw[if_pos (by simp[hz])]at hfin
    have Hfin:=hid hfin
    clear hfin hz ez
    go_enter func133,ntmps133
    go_wp2_with(go_at_call 190;refine HL.out.mono ?_;rintro e w' ⟨rfl,rfl⟩;unfold lenV)
    have f1:=F1.out
    have f4:=F4.out
    go_quiet (first|(go_at_call 191;exact quiet_same (most_nat _ j _ (by omega) (by omega) Hm.out))|(go_at_call 192;exact quiet_same (kept_nat _ q _ (by omega) (by omega) Hq.out)))
    clear f1 f4
    go_wp2
    go_ret3
    exact⟨by rw[Hfin.out];rfl,_,rfl⟩
  ·
   have t1:((j:Int)==(m:Int))=false:=by rw[beq_eq_false_iff_ne];omega
   rw[if_neg (by simp[hjm])]at hfin
   have Hfin:=hid hfin
   clear hfin
   go_enter func133,ntmps133
   go_wp2_with(go_at_call 190;refine HL.out.mono ?_;rintro e w' ⟨rfl,rfl⟩;unfold lenV)
   go_quiet (first|(go_at_call 191;exact quiet_same (most_nat _ m _ (by omega) (by omega) Hm.out)))
   go_wp2_with(go_at_call 193;refine(HJ.out _).mono ?_;rintro e w' ⟨rfl,rfl⟩)
   go_ret3
   exact⟨by rw[Hfin.out];rfl,_,rfl⟩
def sV:Option (Int×Nat)->Value
 |some (x,n)=>.tuple #[.int .i64 x,.int .i64 (n:Int),.nilIface]
 |none=>.tuple #[.int .i64 0,.int .i64 0,.iface 40 (.int .i64 2)]
theorem S_any(A:Option Addr)(c:Nat)(bs:List UInt8)(k:Nat)(bits:Int)(w:World)(hs:Sl w w.heap.size A (u8s bs))(hc:bs.length<=c)(hm:c<=maxLen)
  (
  h0:1<=bits) (h1:bits<=64) (h3:k<=bs.length):
  Calls prog 294 #[.slice A bs.length c,.int .i64 k,.int .i64 bits] w λe w'=>e=.returned (sV (Leb.sOf bs k bits.toNat))/\w=w':=by
 have hm':=hm
 unfold maxLen at hm'
 have hlen:=length_any A c bs k bits w hs hc hm h0 h1 h3
 cases hl:Leb.lenOf (bs.drop k) ((bits.toNat+6) / 7)with
 |none=>
  have hfin:Leb.sOf bs k bits.toNat=none:=by simp[Leb.sOf,hl]
  have Hfin:=hid hfin
  rw[hl]at hlen
  have HL:=hid hlen
  clear hfin hl hlen
  go_enter func294,ntmps294
  go_wp2_with(go_at_call 190;refine HL.out.mono ?_;rintro e w' ⟨rfl,rfl⟩;unfold lenV)
  go_ret3
  refine⟨?_,rfl⟩
  rw[Hfin.out]
  rfl
 |some j=>
  obtain⟨j1,j2,j3,j4⟩:=Leb.lenOf_of_some _ _ _ hl
  rw[hl]at hlen
  have HL:=hid hlen
  clear hlen
  have j3':=j3
  simp only[qc]at j3
  obtain⟨b,off,rfl,hb,hcell⟩:=hs (by intro h;have:=congrArg List.length h;simp at this;simp[this]at j3)
  have hcj:=(hcell (k+j-1) (by simp;omega)).trans (u8s_get bs (k+j-1) (by omega))
  have hget:bs[k+j-1]?.getD 0=bs[k+j-1]'(by omega):=by simp[show k+j-1<bs.length by omega]
  have hdj:(bs.drop k)[j-1]=bs[k+j-1]'(by omega):=by simp[show k+(j-1)=k+j-1 by omega]
  obtain⟨m,hmm⟩:∃m:Nat,(bits+6) / 7=m:=⟨((bits+6) / 7).toNat,by omega⟩
  obtain⟨q,hq⟩:∃q:Nat,bits-7 * ((bits+6) / 7-1)=q:=⟨(bits-7 * ((bits+6) / 7-1)).toNat,by omega⟩
  have em:(bits.toNat+6) / 7=m:=by omega
  have eq:bits.toNat-7 * (m-1)=q:=by omega
  have hlast:=Leb.joinOf_last (bs.drop k) j j1 (by omega)
  rw[hdj]at hlast j4
  have hev:=λwx=>even_any (bs[k+j-1]'(by omega)) (q:Int) wx (by omega) (by omega)
  have hfin:Leb.sOf bs k bits.toNat=if j=m/\Leb.evenB (bs[k+j-1]'(by omega)).toNat q=false then none
    else some ((Leb.joinOf ((bs.drop k).take j):Int)-(if 64<=(bs[k+j-1]'(by omega)).toNat then 2^(7 * j)else 0),k+j):=by
   unfold Leb.sOf
   rw[hl]
   simp only[hget,em,eq]
  obtain⟨x,hx⟩:∃x,x=(bs[k+j-1]'(by omega)).toNat:=⟨_,rfl⟩
  rw[<-hx]at hfin hcj hlast j4
  rw[show((bs[k+j-1]'(by omega)).toNat:Int)=(x:Int)by rw[hx],<-hx,xn]at hev
  have hsl:Sl w w.heap.size (some ⟨b,off+k,none⟩) (u8s ((bs.drop k).take j)):=by
   have:=(hs.drop (k:=k) (cap:=c) (by simpa using hc)).take j
   rw[if_neg (by omega),<-u8s_drop,<-u8s_take]at this
   by_cases e:k=0
   ·subst e;simpa[Addr.add]using this
   ·simpa[Addr.add,e]using this
  have hlj:((bs.drop k).take j).length=j:=by simp;omega
  have hjoin:=join_any b (off+k) (c-k) ((bs.drop k).take j) w hsl (by omega)
  have hJlt:=Leb.joinOf_lt ((bs.drop k).take j)
  rw[hlj]at hjoin hJlt
  rw[em]at j2
  have hm10:m<=10:=by omega
  have hq1:1<=q:=by omega
  have hq7:q<=7:=by omega
  have hq10:m=10->q=1:=by omega
  have Hm:=hid hmm
  have Hq:=hid hq
  have HE:=hid hev
  have hck:¬c=k:=by omega
  obtain⟨J,hJ⟩:∃J,J=Leb.joinOf ((bs.drop k).take j):=⟨_,rfl⟩
  rw[<-hJ]at hfin hjoin hJlt hlast
  have HJ:=hid hjoin
  clear hmm hq em eq hx hget hl hlj hjoin hcell hs hsl hev hdj hJ j3'
  have g1:¬(x%128≠x):=by omega
  have g2:x%128=x:=by omega
  rw[g2]at hlast
  clear g1 g2
  have hz:=Leb.and64 x j4
  have hneg:64<=x->(j=m->Leb.evenB x q=true)->j=10->127 * 2^63<=J:=λh6 hev h10=>by
   have hm10':m=10:=by omega
   have hx:x=127:=by
    have:=hev (by omega)
    rw[hq10 hm10']at this
    simp[Leb.evenB]at this
    omega
   subst h10 hx
   omega
  have hpos:x<64->(j=m->Leb.evenB x q=true)->J<2^63:=λh6 hev=>by
   rcases qm j 10 with h10|h10
   ·exact zj hJlt (jg (by omega) (by omega))
   ·
    have hx:x=0:=by
     have:=hev (by omega)
     rw[hq10 (by omega)]at this
     simp[Leb.evenB]at this
     omega
    subst hx
    have:j=10:=by omega
    subst this
    omega
  have HN:=hid hneg
  have HP:=hid hpos
  have HA:=hid hlast
  clear hneg hpos hlast hq10
  have f2:(0:Int)<=(k:Int)+j-1:=by omega
  have f3:(k:Int)+j-1<bs.length:=by omega
  have F4:=hid (show((k:Int)+j-1).toNat=k+j-1 by omega)
  have hx8:x<256:=by omega
  have HZ:=hid hz
  clear hz
  by_cases hbad:j=m/\Leb.evenB x q=false
  ·
   rw[if_pos hbad]at hfin
   have Hfin:=hid hfin
   obtain⟨rfl,hev⟩:=hbad
   have he:=HE.out
   rw[hev]at he
   have HE2:=hid he
   clear he hev hfin HE
   go_enter func294,ntmps294
   have f4:=F4.out
   go_wp2_with(first|(go_at_call 190;refine HL.out.mono ?_;rintro e w' ⟨rfl,rfl⟩;unfold lenV)|(go_at_call 191;refine(most_nat _ j _ (by omega) (by omega) Hm.out).mono ?_;rintro e w' ⟨rfl,rfl⟩)|(go_at_call 192;refine(kept_nat _ q _ (by omega) (by omega) Hq.out).mono ?_;rintro e w' ⟨rfl,rfl⟩)|(go_at_call 301;refine(HE2.out _).mono ?_;rintro e w' ⟨rfl,rfl⟩))
   go_ret3
   exact⟨by rw[Hfin.out];rfl,rfl⟩
  ·
   rw[if_neg hbad]at hfin
   have hev:j=m->Leb.evenB x q=true:=λe=>by
    cases h:Leb.evenB x q
    ·exact absurd ⟨e,h⟩ hbad
    ·rfl
   clear hbad
   have hsg:∃(u:Int) (v:Nat),Hid (Leb.sOf bs k bits.toNat=some (u,k+j))/\Hid (Go.bits .and .u8 (x:Int) 64=v)/\
     (v=0/\Hid (u=wrap64 ((J:Int)%18446744073709551616))\/v=64/\Hid (u=wrap64 (Go.bits .or .u64 ((J:Int)%18446744073709551616) (IntKind.u64.wrap (18446744073709551615 * 2^(min (j * 7) 64)))))):=by
    by_cases h6:64<=x
    ·
     have hv:=Leb.sign_join J j hJlt j1 (by omega) (HN.out h6 hev)
     refine⟨_,64,hid ?_,hid ?_,.inr ⟨rfl,hid rfl⟩⟩
     ·rw[hfin,if_pos h6,hv]
     ·rw[HZ.out,if_pos h6];rfl
    ·
     refine⟨_,0,hid ?_,hid ?_,.inl ⟨rfl,hid rfl⟩⟩
     ·rw[hfin,if_neg h6,Leb.unsign_join J (HP.out (by omega) hev)];simp
     ·rw[HZ.out,if_neg h6];rfl
   obtain⟨u,v,Hfin,HV,hcase⟩:=hsg
   have HE2:j=m->Hid (∀wx,Calls prog 301 #[.int .u8 (x:Int),.int .i64 (q:Int)] wx λe w'=>e=.returned (.bool true)/\wx=w'):=λe=>by
    have he:=HE.out
    rw[hev e]at he
    exact hid he
   clear hfin hev HE HN HP HZ
   have f7:(0:Int)<=(j:Int) * 7:=by omega
   by_cases hjm:j=m
   ·
    have HE3:=HE2 hjm
    clear HE2
    subst hjm
    rcases hcase with⟨rfl,HU⟩|⟨rfl,HU⟩
    all_goals
     go_enter func294,ntmps294
     have f4:=F4.out
     have f5:=HV.out
     go_wp2_with(first|(go_at_call 190;refine HL.out.mono ?_;rintro e w' ⟨rfl,rfl⟩;unfold lenV)|(go_at_call 191;refine(most_nat _ j _ (by omega) (by omega) Hm.out).mono ?_;rintro e w' ⟨rfl,rfl⟩)|(go_at_call 192;refine(kept_nat _ q _ (by omega) (by omega) Hq.out).mono ?_;rintro e w' ⟨rfl,rfl⟩)|(go_at_call 301;refine(HE3.out _).mono ?_;rintro e w' ⟨rfl,rfl⟩)|(go_at_call 193;refine HJ.out.mono ?_;rintro e w' ⟨rfl,rfl⟩))
     go_ret3
     exact⟨by rw[Hfin.out,HU.out];rfl,rfl⟩
   ·
    have t1:((j:Int)==(m:Int))=false:=by rw[beq_eq_false_iff_ne];omega
    clear HE2
    rcases hcase with⟨rfl,HU⟩|⟨rfl,HU⟩
    all_goals
     go_enter func294,ntmps294
     have f4:=F4.out
     have f5:=HV.out
     go_wp2_with(first|(go_at_call 190;refine HL.out.mono ?_;rintro e w' ⟨rfl,rfl⟩;unfold lenV)|(go_at_call 191;refine(most_nat _ m _ (by omega) (by omega) Hm.out).mono ?_;rintro e w' ⟨rfl,rfl⟩)|(go_at_call 193;refine HJ.out.mono ?_;rintro e w' ⟨rfl,rfl⟩))
     go_ret3
     refine⟨?_,rfl⟩
     rw[Hfin.out,HU.out]
     try rw[show min (j * 7) 64=j * 7 by omega]
     rfl
theorem u8s_snoc(l:List UInt8)(n:Nat)(h:n<256):u8s (l++[UInt8.ofNat n])=u8s l++[.int .u8 (n:Int)]:=by
 simp[u8s];omega
theorem elem_u8:Elem prog 5 1:=Elem.mk_ (z:=.int .u8 0) (by kernel_rfl) rfl
theorem PutU_any(v:Nat)(w:World)(hv:v<18446744073709551616):
  Calls prog 113 #[.int .u64 v] w λe w'=>∃s,e=.returned s/\Own w.heap.size w w' 5 s (u8s (Leb.putU v)):=by
 go_enter func113,ntmps113
 go_wp2
 go_loopw [0,3] (λn s wr=>∃cur pre,n=.int .u64 (cur:Nat)/\cur<18446744073709551616/\Own w.heap.size w wr 5 s (u8s pre)/\Hid (pre++Leb.putU cur=Leb.putU v)) (λn _ _=>(intOf n).toNat)
 case atStart=>exact⟨v,[],rfl,hv,Own.nil_ _ _ _ (zx _ _) (zq _),hid rfl⟩
 case round=>
  obtain⟨cur,pre,rfl,hcur,hown,HP⟩:=hrel
  have hlen:pre.length<=10:=by
   have h1:=congrArg List.length HP.out
   have h2:=Leb.putU_len10 hv
   rw[zz]at h1
   omega
  by_cases hbig:127<cur
  ·
   go_wp2_with(at_builtin;refine wpList_push rfl _ _ _ rfl _ 1 underlying35 elem_u8 (by decide) _ _ _ _ _ _ 1 rfl hown rfl rfl (by simp;omega) ?_;intro v' w' hown')
   have e1:=Leb.or128 (cur%256) (by omega)
   rw[show((cur:Int)%256)=((cur%256:Nat):Int)by simp,e1,show cur%256%128=cur%128 by omega,<-u8s_snoc _ _ (by omega)]at hown'
   go_roundw
   case rel=>exact⟨cur / 128,_,by simp,by omega,hown',hid (by rw[zt,xd,<-Leb.putU_big (by omega)];exact HP.out)⟩
   case measure=>simp[intOf];omega
  ·
   go_wp2_with(at_builtin;refine wpList_push rfl _ _ _ rfl _ 1 underlying35 elem_u8 (by decide) _ _ _ _ _ _ 1 rfl hown rfl rfl (by simp;omega) ?_;intro v' w' hown')
   rw[<-u8s_snoc _ _ (by omega),<-Leb.putU_small (by omega),HP.out]at hown'
   go_ret
   exact⟨_,rfl,hown'⟩
theorem PutS_any(v:Int)(w:World)(hv1: -9223372036854775808<=v)(hv2:v<9223372036854775808):
  Calls prog 264 #[.int .i64 v] w λe w'=>∃s,e=.returned s/\Own w.heap.size w w' 5 s (u8s (Leb.putS v)):=by
 go_enter func264,ntmps264
 go_wp2
 go_loopw [0,3] (λn s wr=>∃(cur:Int) (pre:List UInt8),n=.int .i64 cur/\ -9223372036854775808<=cur/\cur<9223372036854775808/\Own w.heap.size w wr 5 s (u8s pre)/\Hid (pre++Leb.putS cur=Leb.putS v)) (λn _ _=>(intOf n).natAbs)
 case atStart=>exact⟨v,[],rfl,hv1,hv2,Own.nil_ _ _ _ (zx _ _) (zq _),hid rfl⟩
 case round=>
  obtain⟨cur,pre,rfl,hc1,hc2,hown,HP⟩:=hrel
  have hlen:pre.length<=10:=by
   have h1:=congrArg List.length HP.out
   have h2:=Leb.putS_len10 hv1 hv2
   rw[zz]at h1
   omega
  by_cases hbig: -64<=cur/\cur<64
  ·
   obtain⟨b1,b2⟩:=hbig
   have t1:decide (cur< -64)=false:=by simp;omega
   have t2:decide (64<=cur)=false:=by simp;omega
   go_wp2_with(at_builtin;refine wpList_push rfl _ _ _ rfl _ 1 underlying35 elem_u8 (by decide) _ _ _ _ _ _ 1 rfl hown rfl rfl (by simp;omega) ?_;intro v' w' hown')
   have e1:bits .and .u8 (cur%256) 127=(((cur%128).toNat:Nat):Int):=by
    obtain⟨q,hq⟩:∃q:Nat,cur%256=q:=⟨(cur%256).toNat,by omega⟩
    rw[hq,show(127:Int)=((127:Nat):Int)from rfl,u8_and_nat q 127 (by omega) (by omega),nat_mask7]
    omega
   rw[e1,<-u8s_snoc _ _ (by omega),<-Leb.putS_small ⟨b1,b2⟩,HP.out]at hown'
   go_ret
   exact⟨_,rfl,hown'⟩
  ·
   have H2:=hid (Leb.putS_big hbig)
   have hb2:cur< -64\/64<=cur:=by omega
   clear hbig
   by_cases b1:cur< -64
   all_goals
    go_wp2_with(at_builtin;refine wpList_push rfl _ _ _ rfl _ 1 underlying35 elem_u8 (by decide) _ _ _ _ _ _ 1 rfl hown rfl rfl (by simp;omega) ?_;intro v' w' hown')
    obtain⟨q,hq⟩:∃q:Nat,cur%256=q:=⟨(cur%256).toNat,by omega⟩
    rw[hq,Leb.or128 q (by omega),show q%128=(cur%128).toNat by omega,<-u8s_snoc _ _ (by omega)]at hown'
    go_roundw
    case rel=>exact⟨cur / 128,_,by simp,by omega,by omega,hown',hid (by rw[zt,xd,<-H2.out];exact HP.out)⟩
    case measure=>simp[intOf];omega
theorem below_drewN{B:Nat}{a w:World}(h:Below B a w)(n:Nat):Below B a (w.drewN n):=⟨h.os,h.tape,h.output,h.size,h.block⟩
theorem U_int{A:Option Addr}{n c:Nat}{bs:List UInt8}{at_ bits:Int}{w:World}{B:Nat}(r:Option (Nat×Nat))(hs:Sl w B A (u8s bs))(hB:B<=w.heap.size)(hn:bs.length=n)(hc:n<=c)(hm:c<=maxLen)
  (
  h0:1<=bits) (h1:bits<=64) (h2:0<=at_) (h3:at_<=n) (hr:Leb.uOf bs at_.toNat bits.toNat=r):
  Calls prog 133 #[.slice A n c,.int .i64 at_,.int .i64 bits] w λe w'=>e=.returned (luV r)/\∃nq,w'=w.drewN nq:=by
 subst hn hr
 obtain⟨k,rfl⟩:=xg h2
 exact U_any A c bs k bits w (hs.more hB) hc hm h0 h1 (by omega)
theorem S_int{A:Option Addr}{n c:Nat}{bs:List UInt8}{at_ bits:Int}{w:World}{B:Nat}(r:Option (Int×Nat))(hs:Sl w B A (u8s bs))(hB:B<=w.heap.size)(hn:bs.length=n)(hc:n<=c)(hm:c<=maxLen)
  (
  h0:1<=bits) (h1:bits<=64) (h2:0<=at_) (h3:at_<=n) (hr:Leb.sOf bs at_.toNat bits.toNat=r):
  Calls prog 294 #[.slice A n c,.int .i64 at_,.int .i64 bits] w λe w'=>e=.returned (sV r)/\w=w':=by
 subst hn hr
 obtain⟨k,rfl⟩:=xg h2
 exact S_any A c bs k bits w (hs.more hB) hc hm h0 h1 (by omega)
theorem Leb.up1:Leb.uOf [229,142,38] 0 32=some (624485,3):=by decide
end Go.Proofs.YteoijlfipmaoeaaGreatDoor

import Derived.Test.YteoijlfipmaoeaaGreatDoorPU8
import Derived.Test.YteoijlfipmaoeaaGreatDoorPJ4
import Derived.Lib.OthersKept
set_option linter.unusedVariables false
set_option linter.unusedSimpArgs false
set_option maxRecDepth 100000
set_option maxHeartbeats 4000000
namespace Go.Proofs.YteoijlfipmaoeaaGreatDoor
open Go.Lib
namespace Utf
theorem N_width(n b0 b1 b2 b3:Nat)(hn:1<=n):1<=(decodeN n b0 b1 b2 b3).2/\(decodeN n b0 b1 b2 b3).2<=n/\(decodeN n b0 b1 b2 b3).2<=4:=by
 unfold decodeN
 repeat' split
 all_goals simp only
 all_goals omega
theorem N_char(n b0 b1 b2 b3:Nat)(h0:b0<256):char (decodeN n b0 b1 b2 b3).1=true:=by
 unfold decodeN char
 repeat' split
 all_goals simp only[zp,jc,decide_eq_true_eq]
 all_goals omega
theorem dec_width(l:List UInt8)(h:1<=l.length):1<=(dec l).2/\(dec l).2<=l.length/\(dec l).2<=4:=N_width _ _ _ _ _ h
theorem dec_char(l:List UInt8):char (dec l).1=true:=N_char _ _ _ _ _ (at_lt l 0)
theorem dec_le(l:List UInt8):(dec l).1<=1114111:=by
 have:=dec_char l
 simp[char]at this
 omega
theorem take_at(l:List UInt8):∀k,k<=l.length->l.take k=(List.range k).map λi=>UInt8.ofNat (at_ l i):=λk hk=>by
 refine List.ext_getElem (by simp;omega) λi h1 h2=>?_
 simp at h1 h2
 rw[List.getElem_take,List.getElem_map,List.getElem_range,<-at_get l i (by omega)]
 simp
theorem N_enc(n b0 b1 b2 b3:Nat)(hn:1<=n)(h0:b0<256)(h1:b1<256)(h2:b2<256)(h3:b3<256)(hg:decodeN n b0 b1 b2 b3≠(65533,1)):
  enc (decodeN n b0 b1 b2 b3).1=([b0,b1,b2,b3].take (decodeN n b0 b1 b2 b3).2).map UInt8.ofNat:=by
 unfold decodeN at hg⊢
 split at hg
 ·
  rename_i h
  rw[if_pos h]
  simp[enc,h]
 ·
  rename_i h
  rw[if_neg h]
  split at hg
  ·
   rename_i h'
   rw[if_pos h']
   split at hg
   ·
    rename_i h4
    rw[if_pos h4]
    simp only[enc]
    rw[if_neg (by omega),if_pos (by omega)]
    simp only[List.take_succ_cons,List.take_zero,qu,je]
    rw[show 192+(b0%32 * 64+b1%64) / 64=b0 by omega,show 128+(b0%32 * 64+b1%64)%64=b1 by omega]
   ·exact absurd rfl hg
  ·
   rename_i h'
   rw[if_neg h']
   split at hg
   ·
    rename_i h5
    rw[if_pos h5]
    split at hg
    ·
     rename_i h4
     rw[if_pos h4]
     simp only[enc]
     rw[if_neg (by omega),if_neg (by omega),if_pos (by omega)]
     simp only[List.take_succ_cons,List.take_zero,qu,je]
     rw[show 224+(b0%16 * 4096+b1%64 * 64+b2%64) / 4096=b0 by omega,show 128+(b0%16 * 4096+b1%64 * 64+b2%64) / 64%64=b1 by omega,show 128+(b0%16 * 4096+b1%64 * 64+b2%64)%64=b2 by omega]
    ·exact absurd rfl hg
   ·
    rename_i h5
    rw[if_neg h5]
    split at hg
    ·
     rename_i h6
     rw[if_pos h6]
     split at hg
     ·
      rename_i h4
      rw[if_pos h4]
      simp only[enc]
      rw[if_neg (by omega),if_neg (by omega),if_neg (by omega)]
      simp only[List.take_succ_cons,List.take_zero,qu,je]
      rw[show 240+(b0%8 * 262144+b1%64 * 4096+b2%64 * 64+b3%64) / 262144=b0 by omega,show 128+(b0%8 * 262144+b1%64 * 4096+b2%64 * 64+b3%64) / 4096%64=b1 by omega,show 128+(b0%8 * 262144+b1%64 * 4096+b2%64 * 64+b3%64) / 64%64=b2 by omega,show 128+(b0%8 * 262144+b1%64 * 4096+b2%64 * 64+b3%64)%64=b3 by omega]
     ·exact absurd rfl hg
    ·exact absurd rfl hg
theorem dec_enc(l:List UInt8)(h:1<=l.length)(hg:dec l≠(65533,1)):enc (dec l).1=l.take (dec l).2:=by
 have:=N_enc l.length (at_ l 0) (at_ l 1) (at_ l 2) (at_ l 3) h (at_lt l 0) (at_lt l 1) (at_lt l 2) (at_lt l 3) hg
 obtain⟨w1,w2,w3⟩:=dec_width l h
 rw[take_at l _ w2]
 refine this.trans ?_
 show([at_ l 0,at_ l 1,at_ l 2,at_ l 3].take (dec l).2).map UInt8.ofNat=_
 obtain⟨k,hk⟩:∃k,(dec l).2=k:=⟨_,rfl⟩
 rw[hk]at w1 w3⊢
 have:k=1\/k=2\/k=3\/k=4:=by omega
 rcases this with rfl|rfl|rfl|rfl<;>rfl
theorem enc_dec(c:Nat)(h:char c=true)(r:List UInt8):dec (enc c++r)=(c,(enc c).length):=by
 have hc:c<=1114111/\(c<55296\/57343<c):=by simpa[char]using h
 have ho:∀x,x<256->(UInt8.ofNat x).toNat=x:=λx hx=>by simp;omega
 by_cases h1:c<128
 ·
  have e:enc c=[UInt8.ofNat c]:=by simp[enc,h1]
  rw[e]
  unfold dec
  have a0:at_ ([UInt8.ofNat c]++r) 0=c:=by simp only[at_,zi,qx,jv];exact ho c (by omega)
  rw[a0]
  unfold decodeN
  rw[if_pos h1]
  rfl
 ·
  by_cases h2:c<2048
  ·
   have e:enc c=[UInt8.ofNat (192+c / 64),UInt8.ofNat (128+c%64)]:=by simp[enc,h1,h2]
   rw[e]
   unfold dec
   have a0:at_ ([UInt8.ofNat (192+c / 64),UInt8.ofNat (128+c%64)]++r) 0=192+c / 64:=by simp only[at_,zi,qx,jv];exact ho _ (by omega)
   have a1:at_ ([UInt8.ofNat (192+c / 64),UInt8.ofNat (128+c%64)]++r) 1=128+c%64:=by simp only[at_,zi,qx,xm,jv];exact ho _ (by omega)
   rw[a0,a1]
   unfold decodeN
   rw[if_neg (by omega),if_pos ⟨by omega,by simp,by omega⟩,if_pos (by omega)]
   simp only[zl,zh]
   refine Prod.ext ?_ rfl
   simp only
   omega
  ·
   by_cases h3:c<65536
   ·
    have e:enc c=[UInt8.ofNat (224+c / 4096),UInt8.ofNat (128+c / 64%64),UInt8.ofNat (128+c%64)]:=by simp[enc,h1,h2,h3]
    rw[e]
    unfold dec
    have a0:at_ ([UInt8.ofNat (224+c / 4096),UInt8.ofNat (128+c / 64%64),UInt8.ofNat (128+c%64)]++r) 0=224+c / 4096:=by simp only[at_,zi,qx,jv];exact ho _ (by omega)
    have a1:at_ ([UInt8.ofNat (224+c / 4096),UInt8.ofNat (128+c / 64%64),UInt8.ofNat (128+c%64)]++r) 1=128+c / 64%64:=by simp only[at_,zi,qx,xm,jv];exact ho _ (by omega)
    have a2:at_ ([UInt8.ofNat (224+c / 4096),UInt8.ofNat (128+c / 64%64),UInt8.ofNat (128+c%64)]++r) 2=128+c%64:=by simp only[at_,zi,qx,xm,jv];exact ho _ (by omega)
    rw[a0,a1,a2]
    unfold decodeN
    rw[if_neg (by omega),if_neg (by omega),if_pos ⟨by omega,⟨by simp,by omega⟩,by simp,by omega⟩,if_pos (by omega)]
    simp only[zl,zh]
    refine Prod.ext ?_ rfl
    simp only
    omega
   ·
    have e:enc c=[UInt8.ofNat (240+c / 262144),UInt8.ofNat (128+c / 4096%64),UInt8.ofNat (128+c / 64%64),UInt8.ofNat (128+c%64)]:=by simp[enc,h1,h2,h3]
    rw[e]
    unfold dec
    have a0:at_ ([UInt8.ofNat (240+c / 262144),UInt8.ofNat (128+c / 4096%64),UInt8.ofNat (128+c / 64%64),UInt8.ofNat (128+c%64)]++r) 0=240+c / 262144:=by simp only[at_,zi,qx,jv];exact ho _ (by omega)
    have a1:at_ ([UInt8.ofNat (240+c / 262144),UInt8.ofNat (128+c / 4096%64),UInt8.ofNat (128+c / 64%64),UInt8.ofNat (128+c%64)]++r) 1=128+c / 4096%64:=by simp only[at_,zi,qx,xm,jv];exact ho _ (by omega)
    have a2:at_ ([UInt8.ofNat (240+c / 262144),UInt8.ofNat (128+c / 4096%64),UInt8.ofNat (128+c / 64%64),UInt8.ofNat (128+c%64)]++r) 2=128+c / 64%64:=by simp only[at_,zi,qx,xm,jv];exact ho _ (by omega)
    have a3:at_ ([UInt8.ofNat (240+c / 262144),UInt8.ofNat (128+c / 4096%64),UInt8.ofNat (128+c / 64%64),UInt8.ofNat (128+c%64)]++r) 3=128+c%64:=by simp only[at_,zi,qx,xm,jv];exact ho _ (by omega)
    rw[a0,a1,a2,a3]
    unfold decodeN
    rw[if_neg (by omega),if_neg (by omega),if_neg (by omega),if_pos ⟨by omega,⟨by simp,by omega⟩,⟨by simp,by omega⟩,by simp,by omega⟩,if_pos (by omega)]
    simp only[zl,zh]
    refine Prod.ext ?_ rfl
    simp only
    omega
def scan:Nat->List UInt8->List Nat×Option Nat
 |0,_=>([],none)
 |f+1,l=>if l=[]then([],none)else if dec l=(65533,1)then([],some 0)
   else((dec l).1::(scan f (l.drop (dec l).2)).1,(scan f (l.drop (dec l).2)).2.map (· +(dec l).2))
theorem scan_more:∀(f g:Nat) (l:List UInt8),l.length<=f->l.length<=g->scan f l=scan g l
 |0,0,_,_,_=>rfl
 |0,g+1,l,h,_=>by
  have:l=[]:=zc (by omega)
  subst this
  simp[scan]
 |f+1,0,l,_,h=>by
  have:l=[]:=zc (by omega)
  subst this
  simp[scan]
 |f+1,g+1,l,hf,hg=>by
  unfold scan
  split
  ·rfl
  ·
   rename_i hne
   split
   ·rfl
   ·
    have hl:1<=l.length:=by
     rcases jh l.length with h|h
     ·exact absurd (zc h) hne
     ·exact h
    have hw:=dec_width l hl
    rw[scan_more f g (l.drop (dec l).2) (by simp;omega) (by simp;omega)]
def all(l:List UInt8):List Nat×Option Nat:=scan l.length l
theorem all_nil:all []=([],none):=rfl
theorem all_bad(l:List UInt8)(h:1<=l.length)(hb:dec l=(65533,1)):all l=([],some 0):=by
 obtain⟨n,hn⟩:∃n,l.length=n+1:=⟨l.length-1,by omega⟩
 have hne:l≠[]:=by intro e;simp[e]at h
 unfold all
 rw[hn]
 unfold scan
 rw[if_neg hne,if_pos hb]
theorem all_step(l:List UInt8)(h:1<=l.length)(hb:dec l≠(65533,1)):
  all l=((dec l).1::(all (l.drop (dec l).2)).1,(all (l.drop (dec l).2)).2.map (· +(dec l).2)):=by
 obtain⟨n,hn⟩:∃n,l.length=n+1:=⟨l.length-1,by omega⟩
 have hne:l≠[]:=by intro e;simp[e]at h
 have hw:=dec_width l h
 unfold all
 rw[hn]
 conv=>lhs;unfold scan
 rw[if_neg hne,if_neg hb,scan_more n _ (l.drop (dec l).2) (by simp;omega) (zq _)]
end Utf
namespace Utf
theorem split(l:List UInt8)(h:1<=l.length)(hg:dec l≠(65533,1)):l=enc (dec l).1++l.drop (dec l).2:=by
 rw[dec_enc l h hg,jw]
theorem dec_append(a b:List UInt8)(h:1<=a.length)(hg:dec a≠(65533,1)):dec (a++b)=dec a:=by
 have hs:=split a h hg
 have h1:=enc_dec (dec a).1 (dec_char a) (a.drop (dec a).2)
 have h2:=enc_dec (dec a).1 (dec_char a) (a.drop (dec a).2++b)
 rw[<-zt,<-hs]at h2
 rw[<-hs]at h1
 rw[h1,h2]
theorem all_append:∀(n:Nat) (a b:List UInt8),a.length<=n->(all a).2=none->all (a++b)=((all a).1++(all b).1,(all b).2.map (· +a.length))
 |0,a,b,h,_=>by
  have:a=[]:=zc (by omega)
  subst this
  simp[all_nil]
 |n+1,a,b,h,hn=>by
  rcases jh a.length with h0|h0
  ·
   have:a=[]:=zc h0
   subst this
   simp[all_nil]
  ·
   have hg:dec a≠(65533,1):=λe=>by rw[all_bad a h0 e]at hn;cases hn
   have hw:=dec_width a h0
   have hd:=dec_append a b h0 hg
   have hs:=all_step a h0 hg
   have hs2:=all_step (a++b) (by simp;omega) (by rw[hd];exact hg)
   rw[hd,List.drop_append_of_le_length (by omega)]at hs2
   have hn2:(all (a.drop (dec a).2)).2=none:=by rw[hs]at hn;simpa using hn
   have ih:=all_append n (a.drop (dec a).2) b (by simp;omega) hn2
   rw[hs2,ih,hs]
   refine Prod.ext ?_ ?_
   ·simp
   ·
    simp only[Option.map_map]
    congr 1
    funext x
    simp[Function.comp]
    omega
theorem flat_len(l:List Nat):(l.flatMap enc).length<=4 * l.length:=by
 induction l with
 |nil=>simp
 |cons c l ih=>
  have:=enc_len c
  simp only[js,zz,zl]
  omega
end Utf
end Go.Proofs.YteoijlfipmaoeaaGreatDoor
namespace Go.Proofs.YteoijlfipmaoeaaGreatDoor
open Lib (hid)
open Go.RowKit Go.Lib
open Go.Proofs.Tryz
theorem slow_any(b off c:Nat)(bs:List UInt8)(w:World)(hT:U8T w)(hs:Sl w w.heap.size (some ⟨b,off,none⟩) (u8s bs))(hn:1<=bs.length)(h128:128<=Utf.at_ bs 0):
  Calls prog 247 #[.slice (some ⟨b,off,none⟩) bs.length c] w λe w'=>e=.returned (.tuple #[.int .i32 (Utf.dec bs).1,.int .i64 (Utf.dec bs).2])/\Below w.heap.size w w':=by
 have c0:=u8_cell hs 0 hn
 rw[qe]at c0
 have c1:=u8_cell hs 1
 have c2:=u8_cell hs 2
 have c3:=u8_cell hs 3
 have l0:=Utf.at_lt bs 0
 have l1:=Utf.at_lt bs 1
 have l2:=Utf.at_lt bs 2
 have l3:=Utf.at_lt bs 3
 have hd:Utf.dec bs=decodeN bs.length (Utf.at_ bs 0) (Utf.at_ bs 1) (Utf.at_ bs 2) (Utf.at_ bs 3):=rfl
 have hres:firstT (Utf.at_ bs 0)<240->decodeN bs.length (Utf.at_ bs 0) (Utf.at_ bs 1) (Utf.at_ bs 2) (Utf.at_ bs 3)=slowN bs.length (Utf.at_ bs 0) (Utf.at_ bs 1) (Utf.at_ bs 2) (Utf.at_ bs 3) (firstT (Utf.at_ bs 0)%8) (accLo (firstT (Utf.at_ bs 0) / 16)) (accHi (firstT (Utf.at_ bs 0) / 16)):=
  λh=>(Lib.slow_eq _ _ _ _ _ hn l1 l2 l3 h).symm
 rcases Utf.first_cases _ h128 with hX|hX|hX|hX|hX|hX|hX|hX
 ·
  rw[hd,Lib.bad_eq _ _ _ _ _ l0 hX]
  exact slow_bad b off c _ _ w hT c0 l0 hn hX
 all_goals
  rw[hd,hres (by omega),hX]
  simp only[accLo,accHi,Nat.reduceMul,Nat.reduceAdd,Nat.reduceEqDiff,if_true,if_false,Nat.reduceMod,Nat.reduceDiv]
 ·exact slow_2 b off c _ _ _ _ _ w hT c0 l0 c1 l1 hn hX
 ·exact slow_19 b off c _ _ _ _ _ w hT c0 l0 c1 l1 c2 l2 hn hX
 ·exact slow_3 b off c _ _ _ _ _ w hT c0 l0 c1 l1 c2 l2 hn hX
 ·exact slow_35 b off c _ _ _ _ _ w hT c0 l0 c1 l1 c2 l2 hn hX
 ·exact slow_52 b off c _ _ _ _ _ w hT c0 l0 c1 l1 c2 l2 c3 l3 hn hX
 ·exact slow_4 b off c _ _ _ _ _ w hT c0 l0 c1 l1 c2 l2 c3 l3 hn hX
 ·exact slow_68 b off c _ _ _ _ _ w hT c0 l0 c1 l1 c2 l2 c3 l3 hn hX
theorem Utf.dec_ascii(bs:List UInt8)(h:Utf.at_ bs 0<128):Utf.dec bs=(Utf.at_ bs 0,1):=by
 unfold Utf.dec decodeN
 rw[if_pos h]
theorem decode_any(A:Option Addr)(c:Nat)(bs:List UInt8)(w:World)(hT:U8T w)(hs:Sl w w.heap.size A (u8s bs))(hn:1<=bs.length)(hc:bs.length<=c)(hm:c<=maxLen):
  Calls prog 227 #[.slice A bs.length c] w λe w'=>e=.returned (.tuple #[.int .i32 (Utf.dec bs).1,.int .i64 (Utf.dec bs).2])/\Below w.heap.size w w':=by
 obtain⟨b,off,rfl,hbl,_⟩:=hs (by intro e;have:=congrArg List.length e;simp at this;simp[this]at hn)
 unfold maxLen at hm
 have c0:=u8_cell hs 0 hn
 rw[qe]at c0
 have l0:=Utf.at_lt bs 0
 have HS:=hid (slow_any b off c bs w hT hs hn)
 have HD:=hid (Utf.dec_ascii bs)
 have hn0:(0:Int)<(bs.length:Int):=by omega
 obtain⟨d,hd⟩:∃d,Utf.dec bs=d:=⟨_,rfl⟩
 obtain⟨x,hx⟩:∃x,Utf.at_ bs 0=x:=⟨_,rfl⟩
 obtain⟨n,hnn⟩:∃n,bs.length=n:=⟨_,rfl⟩
 rw[hd,hx,hnn]at HS
 rw[hd,hx]at HD
 rw[hx]at c0 l0
 rw[hd,hnn]
 rw[hnn]at hn hc hn0
 clear hd hx hnn hs hT
 by_cases h:x<128
 ·
  have h2:=HD.out h
  subst h2
  go_enter func227,ntmps227
  go_wp2
  refine wp_loop_rounds 1 ?_
  rw[rounds_succ]
  go_wp2
  go_ret2
  exact⟨rfl,zx _ _⟩
 ·
  go_enter func227,ntmps227
  go_wp2
  refine wp_loop_rounds 1 ?_
  rw[rounds_succ]
  go_wp2_with fail
  with_reducible refine(HS.out (by omega)).mono ?_
  rintro e w1 ⟨rfl,hb⟩
  go_wp2
  go_ret2
  exact⟨rfl,hb⟩
def NErr(w:World)(v:Value):Option Nat->Prop
 |none=>v=.nilIface
 |some p=>SpotIs w v p 2
theorem Sl.cut{w:World}{B b off:Nat}{vs:List Value}(h:Sl w B (some ⟨b,off,none⟩) vs)(k:Nat):Sl w B (some ⟨b,off+k,none⟩) (vs.drop k):=λhn=>by
 have hk:k<vs.length:=by
  rcases qm k vs.length with h1|h1
  ·exact h1
  ·exact absurd (xp h1) hn
 obtain⟨b',off',e,hb,hcell⟩:=h (λe=>by simp[e]at hk)
 injection e with e;injection e with e1 e2;subst e1 e2
 refine⟨b,off+k,rfl,hb,λi hi=>?_⟩
 rw[qc]at hi
 rw[show off+k+i=off+(k+i)by omega,hcell _ (by omega),jk]
theorem Sl.cut8{w:World}{B b off:Nat}{bs:List UInt8}(h:Sl w B (some ⟨b,off,none⟩) (u8s bs))(k:Nat):Sl w B (some ⟨b,off+k,none⟩) (u8s (bs.drop k)):=by
 rw[u8s_drop];exact h.cut k
theorem decode_int{A:Option Addr}{n c:Nat}{bs:List UInt8}{w:World}{B:Nat}(hT:U8T w)(hs:Sl w B A (u8s bs))(hB:B<=w.heap.size)(hb:bs.length=n)(hn:1<=n)(hc:n<=c)(hm:c<=maxLen):
  Calls prog 227 #[.slice A n c] w λe w'=>e=.returned (.tuple #[.int .i32 (Utf.dec bs).1,.int .i64 (Utf.dec bs).2])/\Below w.heap.size w w':=by
 subst hb
 exact decode_any A c bs w hT (hs.more hB) hn hc hm
theorem Utf.step2{bs:List UInt8}{p:Nat}(hp:p<bs.length)(hb:Utf.dec (bs.drop p)≠(65533,1))(h:(Utf.all bs).2=(Utf.all (bs.drop p)).2.map (· +p)):
  (Utf.all bs).2=(Utf.all (bs.drop (p+(Utf.dec (bs.drop p)).2))).2.map (· +(p+(Utf.dec (bs.drop p)).2)):=by
 rw[h,Utf.all_step _ (by simp;omega) hb,jd,Option.map_map]
 congr 1
 funext x
 simp[Function.comp]
 omega
theorem check_any(A:Option Addr)(c:Nat)(bs:List UInt8)(w:World)(hT:U8T w)(hs:Sl w w.heap.size A (u8s bs))(hc:bs.length<=c)(hm:c<=maxLen):
  Calls prog 165 #[.slice A bs.length c] w λe w'=>Below w.heap.size w w'/\∃v,e=.returned v/\NErr w' v (Utf.all bs).2:=by
 have HM:=hid hm
 unfold maxLen at hm
 have HN:=hid (λ(w:World) (a c:Int) (t:TypeId)=>SpotIs.new w a c t)
 go_enter func165,ntmps165
 go_wp2
 go_loopw [3] (λi wr=>∃p:Nat,p<=bs.length/\i=.int .i64 p/\Below w.heap.size w wr/\Hid ((Utf.all bs).2=(Utf.all (bs.drop p)).2.map (· +p))) (λi _=>bs.length-(intOf i).toNat)
 case atStart=>exact⟨0,qw _,rfl,zx _ _,hid (by simp)⟩
 case round=>
  obtain⟨p,hp,rfl,hb,HA⟩:=hrel
  by_cases hlt:p<bs.length
  ·
   obtain⟨b,off,rfl,hbl,_⟩:=hs (by intro h;have:=congrArg List.length h;simp at this;simp[this]at hlt)
   have hck:¬c=p:=by omega
   have hsl2:=Sl.cut8 (hs.below hb) p
   have HS2:=hid hsl2
   have HT2:=hid (hT.below hb)
   have HW:=hid (Utf.dec_width (bs.drop p) (by simp;omega))
   have HST:=hid (λh=>Utf.step2 hlt h HA.out)
   have HBD:=hid (λh=>Utf.all_bad (bs.drop p) (by simp;omega) h)
   have hle:=Utf.dec_le (bs.drop p)
   go_wp2_with fail
   with_reducible refine(decode_int HT2.out HS2.out hb.size (by simp) (by omega) (by omega) (by have:=HM.out;omega)).mono ?_
   rintro e w1 ⟨rfl,hb1⟩
   have hb2:=hb.trans (hb1.mono hb.size)
   obtain⟨x,y,hd⟩:∃x y,Utf.dec (bs.drop p)=(x,y):=⟨_,_,rfl⟩
   have hwd:=HW.out
   rw[hd]at HST HBD hle hwd
   rw[hd]
   simp only at hwd hle
   obtain⟨hw1,hw2,hw3⟩:=hwd
   rw[qc]at hw2
   clear hd hb1 HW
   by_cases hbad:x=65533/\y=1
   ·
    obtain⟨rfl,rfl⟩:=hbad
    go_wp2
    go_ret
    refine⟨hb2.alloc hb2.size _,_,rfl,?_⟩
    rw[HA.out,HBD.out (by trivial)]
    simp only[Option.map_some,NErr,qz]
    exact HN.out _ _ _ _
   ·
    have HR:=hid (HST.out (λh=>hbad ⟨(Prod.mk.inj h).1,(Prod.mk.inj h).2⟩))
    by_cases hx:x=65533
    ·
     have hy:¬y=1:=λh=>hbad ⟨hx,h⟩
     subst hx
     clear hbad
     go_wp2
     go_roundw
     case rel=>exact⟨p+y,by omega,by go_num,hb2,HR⟩
     case measure=>simp[intOf];omega
    ·
     clear hbad
     go_wp2
     go_roundw
     case rel=>exact⟨p+y,by omega,by go_num,hb2,HR⟩
     case measure=>simp[intOf];omega
  ·
   have:p=bs.length:=by omega
   subst this
   go_wp2
   go_ret
   refine⟨hb,_,rfl,?_⟩
   rw[HA.out,List.drop_length,Utf.all_nil]
   rfl
theorem check_new(A:Option Addr)(c:Nat)(bs:List UInt8)(w:World)(hT:U8T w)(hs:Sl w w.heap.size A (u8s bs))(hc:bs.length<=c)(hm:c<=maxLen):
  Calls prog 165 #[.slice A bs.length c] w λe w'=>Below w.heap.size w w'/\∃v,e=.returned v/\NErr w' v (Utf.all bs).2/\∀t b o q,v=.iface t (.pointer (some ⟨b,o,q⟩))->w.heap.size<=b:=by
 have HM:=hid hm
 unfold maxLen at hm
 have HN:=hid (λ(w:World) (a c:Int) (t:TypeId)=>SpotIs.new w a c t)
 go_enter func165,ntmps165
 go_wp2
 go_loopw [3] (λi wr=>∃p:Nat,p<=bs.length/\i=.int .i64 p/\Below w.heap.size w wr/\Hid ((Utf.all bs).2=(Utf.all (bs.drop p)).2.map (· +p))) (λi _=>bs.length-(intOf i).toNat)
 case atStart=>exact⟨0,qw _,rfl,zx _ _,hid (by simp)⟩
 case round=>
  obtain⟨p,hp,rfl,hb,HA⟩:=hrel
  by_cases hlt:p<bs.length
  ·
   obtain⟨b,off,rfl,hbl,_⟩:=hs (by intro h;have:=congrArg List.length h;simp at this;simp[this]at hlt)
   have hck:¬c=p:=by omega
   have hsl2:=Sl.cut8 (hs.below hb) p
   have HS2:=hid hsl2
   have HT2:=hid (hT.below hb)
   have HW:=hid (Utf.dec_width (bs.drop p) (by simp;omega))
   have HST:=hid (λh=>Utf.step2 hlt h HA.out)
   have HBD:=hid (λh=>Utf.all_bad (bs.drop p) (by simp;omega) h)
   have hle:=Utf.dec_le (bs.drop p)
   go_wp2_with fail
   with_reducible refine(decode_int HT2.out HS2.out hb.size (by simp) (by omega) (by omega) (by have:=HM.out;omega)).mono ?_
   rintro e w1 ⟨rfl,hb1⟩
   have hb2:=hb.trans (hb1.mono hb.size)
   obtain⟨x,y,hd⟩:∃x y,Utf.dec (bs.drop p)=(x,y):=⟨_,_,rfl⟩
   have hwd:=HW.out
   rw[hd]at HST HBD hle hwd
   rw[hd]
   simp only at hwd hle
   obtain⟨hw1,hw2,hw3⟩:=hwd
   rw[qc]at hw2
   clear hd hb1 HW
   by_cases hbad:x=65533/\y=1
   ·
    obtain⟨rfl,rfl⟩:=hbad
    go_wp2
    go_ret
    refine⟨hb2.alloc hb2.size _,_,rfl,?_,λt b o q e=>by injection e with e1 e2;injection e2 with e2;injection e2 with e2;injection e2 with e2 e3;rw[<-e2];exact hb2.size⟩
    rw[HA.out,HBD.out (by trivial)]
    simp only[Option.map_some,NErr,qz]
    exact HN.out _ _ _ _
   ·
    have HR:=hid (HST.out (λh=>hbad ⟨(Prod.mk.inj h).1,(Prod.mk.inj h).2⟩))
    by_cases hx:x=65533
    ·
     have hy:¬y=1:=λh=>hbad ⟨hx,h⟩
     subst hx
     clear hbad
     go_wp2
     go_roundw
     case rel=>exact⟨p+y,by omega,by go_num,hb2,HR⟩
     case measure=>simp[intOf];omega
    ·
     clear hbad
     go_wp2
     go_roundw
     case rel=>exact⟨p+y,by omega,by go_num,hb2,HR⟩
     case measure=>simp[intOf];omega
  ·
   have:p=bs.length:=by omega
   subst this
   go_wp2
   go_ret
   refine⟨hb,_,rfl,?_,λt b o q e=>by cases e⟩
   rw[HA.out,List.drop_length,Utf.all_nil]
   rfl
end Go.Proofs.YteoijlfipmaoeaaGreatDoor

import Derived.Test.YteoijlfipmaoeaaGreatDoorPJ1
import Derived.Lib.DecodeNEq
import Derived.Laws.BitsLemmas
import Derived.Laws.BitsAllLaws
import Derived.Laws.ShiftsVarLaws
set_option linter.unusedVariables false
set_option linter.unusedSimpArgs false
set_option maxRecDepth 100000
set_option maxHeartbeats 4000000
namespace Go.Proofs.YteoijlfipmaoeaaGreatDoor
open Go.RowKit Go.Lib
open Go.Proofs.Tryz
structure U8T(w:World):Prop where
 first:∀c,c<256->w.cell? ⟨1,c,none⟩=some (.int .u8 (firstT c))
 lo:∀i,i<16->w.cell? ⟨2,2 * i,none⟩=some (.int .u8 (accLo i))
 hi:∀i,i<16->w.cell? ⟨2,2 * i+1,none⟩=some (.int .u8 (accHi i))
theorem U8T.below{w w':World}(h:U8T w)(hb:Below w.heap.size w w'):U8T w':=
 ⟨λc hc=>(hb.cell (p:=⟨1,c,none⟩) (zn _ _ (h.first c hc))).trans (h.first c hc),
  λi hi=>(hb.cell (p:=⟨2,2 * i,none⟩) (zn _ _ (h.lo i hi))).trans (h.lo i hi),
  λi hi=>(hb.cell (p:=⟨2,2 * i+1,none⟩) (zn _ _ (h.hi i hi))).trans (h.hi i hi)⟩
def Utf.at_(l:List UInt8)(k:Nat):Nat:=(l.getD k 0).toNat
theorem Utf.at_lt(l:List UInt8)(k:Nat):Utf.at_ l k<256:=(l.getD k 0).toNat_lt
theorem Utf.at_get(l:List UInt8)(k:Nat)(h:k<l.length):(l[k]).toNat=Utf.at_ l k:=by simp[Utf.at_,h]
def Utf.dec(l:List UInt8):Nat×Nat:=decodeN l.length (Utf.at_ l 0) (Utf.at_ l 1) (Utf.at_ l 2) (Utf.at_ l 3)
theorem Utf.mask241:wrap32 517543559168 / 2147483648= -1:=by unfold wrap32;omega
theorem Utf.drop_byte:∀x:Fin 256,bits .or .i32 (bits .andNot .i32 ((x.val:Nat):Int) (-1)) (bits .and .i32 65533 (-1))=65533:=by decide
theorem Utf.first_cases(b:Nat)(h:128<=b):firstT b=241\/firstT b=2\/firstT b=19\/firstT b=3\/firstT b=35\/firstT b=52\/firstT b=4\/firstT b=68:=by
 unfold firstT
 repeat' split
 all_goals first|omega|simp
theorem u8_cell{w:World}{B:Nat}{b off:Nat}{bs:List UInt8}(hs:Sl w B (some ⟨b,off,none⟩) (u8s bs))(k:Nat)(h:k<bs.length):w.cell? ⟨b,off+k,none⟩=some (.int .u8 (Utf.at_ bs k)):=by
 obtain⟨b',off',e,_,hc⟩:=hs (by intro e;have:=congrArg List.length e;simp at this;simp[this]at h)
 injection e with e;injection e with e1 e2;subst e1 e2
 rw[hc k (by simpa using h),u8s_get bs k h,Utf.at_get]
theorem slow_bad(b off c n x0:Nat)(w:World)(hT:U8T w)(h0:w.cell? ⟨b,off,none⟩=some (.int .u8 x0))(hx:x0<256)(hn:1<=n)(hX:firstT x0=241):
  Calls prog 247 #[.slice (some ⟨b,off,none⟩) n c] w λe w'=>e=.returned (.tuple #[.int .i32 65533,.int .i64 1])/\Below w.heap.size w w':=by
 have hc0:=hT.first x0 (by omega)
 rw[hX]at hc0
 clear hT hX
 have hz0':¬((n:Int)<1):=by omega
 go_enter func247,ntmps247
 go_wp2
 rw[Utf.mask241,Utf.drop_byte ⟨x0,hx⟩]
 go_ret2
 exact⟨rfl,zx _ _⟩
theorem slow_2(b off c n x0 x1 x2 x3:Nat)(w:World)(hT:U8T w)(h0:w.cell? ⟨b,off,none⟩=some (.int .u8 x0))(l0:x0<256)(h1:1<n->w.cell? ⟨b,off+1,none⟩=some (.int .u8 x1))(l1:x1<256)(hn:1<=n)(hX:firstT x0=2):
  Calls prog 247 #[.slice (some ⟨b,off,none⟩) n c] w λe w'=>e=.returned (.tuple #[.int .i32 (slowN n x0 x1 x2 x3 2 128 191).1,.int .i64 (slowN n x0 x1 x2 x3 2 128 191).2])/\Below w.heap.size w w':=by
 have hc0:=hT.first x0 (by omega)
 have ha0:=hT.lo 0 (by omega)
 have ha1:=hT.hi 0 (by omega)
 rw[hX]at hc0
 simp only[accLo,accHi,Nat.reduceMul,Nat.reduceAdd,Nat.reduceEqDiff,if_true,if_false]at ha0 ha1
 clear hT hX
 have hz0':¬((n:Int)<1):=by omega
 have hbl:b<w.heap.size:=zn _ _ h0
 by_cases hs:n<2
 ·
  have hnz:(n:Int)<2:=by omega
  clear h1
  go_enter func247,ntmps247
  go_wp2
  go_ret2
  refine⟨?_,(zx _ _).alloc (zq _) _⟩
  unfold slowN
  rw[if_pos hs]
  rfl
 ·
  have hnz:¬((n:Int)<2):=by omega
  replace h1:=h1 (by omega)
  have hz1:(1:Int)<(n:Int):=by omega
  go_enter func247,ntmps247
  go_wp2
  all_goals
   go_ret2
   refine⟨?_,(zx _ _).alloc (zq _) _⟩
   unfold slowN
   repeat' split
   all_goals first
    |(exfalso;omega)
    |rfl
    |(simp only[xc,xa,xt,Int.natCast_ofNat];rfl)
theorem slow_19(b off c n x0 x1 x2 x3:Nat)(w:World)(hT:U8T w)(h0:w.cell? ⟨b,off,none⟩=some (.int .u8 x0))(l0:x0<256)(h1:1<n->w.cell? ⟨b,off+1,none⟩=some (.int .u8 x1))(l1:x1<256)(h2:2<n->w.cell? ⟨b,off+2,none⟩=some (.int .u8 x2))(l2:x2<256)(hn:1<=n)(hX:firstT x0=19):
  Calls prog 247 #[.slice (some ⟨b,off,none⟩) n c] w λe w'=>e=.returned (.tuple #[.int .i32 (slowN n x0 x1 x2 x3 3 160 191).1,.int .i64 (slowN n x0 x1 x2 x3 3 160 191).2])/\Below w.heap.size w w':=by
 have hc0:=hT.first x0 (by omega)
 have ha0:=hT.lo 1 (by omega)
 have ha1:=hT.hi 1 (by omega)
 rw[hX]at hc0
 simp only[accLo,accHi,Nat.reduceMul,Nat.reduceAdd,Nat.reduceEqDiff,if_true,if_false]at ha0 ha1
 clear hT hX
 have hz0':¬((n:Int)<1):=by omega
 have hbl:b<w.heap.size:=zn _ _ h0
 by_cases hs:n<3
 ·
  have hnz:(n:Int)<3:=by omega
  clear h1 h2
  go_enter func247,ntmps247
  go_wp2
  go_ret2
  refine⟨?_,(zx _ _).alloc (zq _) _⟩
  unfold slowN
  rw[if_pos hs]
  rfl
 ·
  have hnz:¬((n:Int)<3):=by omega
  replace h1:=h1 (by omega)
  have hz1:(1:Int)<(n:Int):=by omega
  replace h2:=h2 (by omega)
  have hz2:(2:Int)<(n:Int):=by omega
  go_enter func247,ntmps247
  go_wp2
  all_goals
   go_ret2
   refine⟨?_,(zx _ _).alloc (zq _) _⟩
   unfold slowN
   repeat' split
   all_goals first
    |(exfalso;omega)
    |rfl
    |(simp only[xc,xa,xt,Int.natCast_ofNat];rfl)
theorem slow_3(b off c n x0 x1 x2 x3:Nat)(w:World)(hT:U8T w)(h0:w.cell? ⟨b,off,none⟩=some (.int .u8 x0))(l0:x0<256)(h1:1<n->w.cell? ⟨b,off+1,none⟩=some (.int .u8 x1))(l1:x1<256)(h2:2<n->w.cell? ⟨b,off+2,none⟩=some (.int .u8 x2))(l2:x2<256)(hn:1<=n)(hX:firstT x0=3):
  Calls prog 247 #[.slice (some ⟨b,off,none⟩) n c] w λe w'=>e=.returned (.tuple #[.int .i32 (slowN n x0 x1 x2 x3 3 128 191).1,.int .i64 (slowN n x0 x1 x2 x3 3 128 191).2])/\Below w.heap.size w w':=by
 have hc0:=hT.first x0 (by omega)
 have ha0:=hT.lo 0 (by omega)
 have ha1:=hT.hi 0 (by omega)
 rw[hX]at hc0
 simp only[accLo,accHi,Nat.reduceMul,Nat.reduceAdd,Nat.reduceEqDiff,if_true,if_false]at ha0 ha1
 clear hT hX
 have hz0':¬((n:Int)<1):=by omega
 have hbl:b<w.heap.size:=zn _ _ h0
 by_cases hs:n<3
 ·
  have hnz:(n:Int)<3:=by omega
  clear h1 h2
  go_enter func247,ntmps247
  go_wp2
  go_ret2
  refine⟨?_,(zx _ _).alloc (zq _) _⟩
  unfold slowN
  rw[if_pos hs]
  rfl
 ·
  have hnz:¬((n:Int)<3):=by omega
  replace h1:=h1 (by omega)
  have hz1:(1:Int)<(n:Int):=by omega
  replace h2:=h2 (by omega)
  have hz2:(2:Int)<(n:Int):=by omega
  go_enter func247,ntmps247
  go_wp2
  all_goals
   go_ret2
   refine⟨?_,(zx _ _).alloc (zq _) _⟩
   unfold slowN
   repeat' split
   all_goals first
    |(exfalso;omega)
    |rfl
    |(simp only[xc,xa,xt,Int.natCast_ofNat];rfl)
theorem slow_35(b off c n x0 x1 x2 x3:Nat)(w:World)(hT:U8T w)(h0:w.cell? ⟨b,off,none⟩=some (.int .u8 x0))(l0:x0<256)(h1:1<n->w.cell? ⟨b,off+1,none⟩=some (.int .u8 x1))(l1:x1<256)(h2:2<n->w.cell? ⟨b,off+2,none⟩=some (.int .u8 x2))(l2:x2<256)(hn:1<=n)(hX:firstT x0=35):
  Calls prog 247 #[.slice (some ⟨b,off,none⟩) n c] w λe w'=>e=.returned (.tuple #[.int .i32 (slowN n x0 x1 x2 x3 3 128 159).1,.int .i64 (slowN n x0 x1 x2 x3 3 128 159).2])/\Below w.heap.size w w':=by
 have hc0:=hT.first x0 (by omega)
 have ha0:=hT.lo 2 (by omega)
 have ha1:=hT.hi 2 (by omega)
 rw[hX]at hc0
 simp only[accLo,accHi,Nat.reduceMul,Nat.reduceAdd,Nat.reduceEqDiff,if_true,if_false]at ha0 ha1
 clear hT hX
 have hz0':¬((n:Int)<1):=by omega
 have hbl:b<w.heap.size:=zn _ _ h0
 by_cases hs:n<3
 ·
  have hnz:(n:Int)<3:=by omega
  clear h1 h2
  go_enter func247,ntmps247
  go_wp2
  go_ret2
  refine⟨?_,(zx _ _).alloc (zq _) _⟩
  unfold slowN
  rw[if_pos hs]
  rfl
 ·
  have hnz:¬((n:Int)<3):=by omega
  replace h1:=h1 (by omega)
  have hz1:(1:Int)<(n:Int):=by omega
  replace h2:=h2 (by omega)
  have hz2:(2:Int)<(n:Int):=by omega
  go_enter func247,ntmps247
  go_wp2
  all_goals
   go_ret2
   refine⟨?_,(zx _ _).alloc (zq _) _⟩
   unfold slowN
   repeat' split
   all_goals first
    |(exfalso;omega)
    |rfl
    |(simp only[xc,xa,xt,Int.natCast_ofNat];rfl)
theorem slow_52(b off c n x0 x1 x2 x3:Nat)(w:World)(hT:U8T w)(h0:w.cell? ⟨b,off,none⟩=some (.int .u8 x0))(l0:x0<256)(h1:1<n->w.cell? ⟨b,off+1,none⟩=some (.int .u8 x1))(l1:x1<256)(h2:2<n->w.cell? ⟨b,off+2,none⟩=some (.int .u8 x2))(l2:x2<256)(h3:3<n->w.cell? ⟨b,off+3,none⟩=some (.int .u8 x3))(l3:x3<256)(hn:1<=n)(hX:firstT x0=52):
  Calls prog 247 #[.slice (some ⟨b,off,none⟩) n c] w λe w'=>e=.returned (.tuple #[.int .i32 (slowN n x0 x1 x2 x3 4 144 191).1,.int .i64 (slowN n x0 x1 x2 x3 4 144 191).2])/\Below w.heap.size w w':=by
 have hc0:=hT.first x0 (by omega)
 have ha0:=hT.lo 3 (by omega)
 have ha1:=hT.hi 3 (by omega)
 rw[hX]at hc0
 simp only[accLo,accHi,Nat.reduceMul,Nat.reduceAdd,Nat.reduceEqDiff,if_true,if_false]at ha0 ha1
 clear hT hX
 have hz0':¬((n:Int)<1):=by omega
 have hbl:b<w.heap.size:=zn _ _ h0
 by_cases hs:n<4
 ·
  have hnz:(n:Int)<4:=by omega
  clear h1 h2 h3
  go_enter func247,ntmps247
  go_wp2
  go_ret2
  refine⟨?_,(zx _ _).alloc (zq _) _⟩
  unfold slowN
  rw[if_pos hs]
  rfl
 ·
  have hnz:¬((n:Int)<4):=by omega
  replace h1:=h1 (by omega)
  have hz1:(1:Int)<(n:Int):=by omega
  replace h2:=h2 (by omega)
  have hz2:(2:Int)<(n:Int):=by omega
  replace h3:=h3 (by omega)
  have hz3:(3:Int)<(n:Int):=by omega
  go_enter func247,ntmps247
  go_wp2
  all_goals
   go_ret2
   refine⟨?_,(zx _ _).alloc (zq _) _⟩
   unfold slowN
   repeat' split
   all_goals first
    |(exfalso;omega)
    |rfl
    |(simp only[xc,xa,xt,Int.natCast_ofNat];rfl)
theorem slow_4(b off c n x0 x1 x2 x3:Nat)(w:World)(hT:U8T w)(h0:w.cell? ⟨b,off,none⟩=some (.int .u8 x0))(l0:x0<256)(h1:1<n->w.cell? ⟨b,off+1,none⟩=some (.int .u8 x1))(l1:x1<256)(h2:2<n->w.cell? ⟨b,off+2,none⟩=some (.int .u8 x2))(l2:x2<256)(h3:3<n->w.cell? ⟨b,off+3,none⟩=some (.int .u8 x3))(l3:x3<256)(hn:1<=n)(hX:firstT x0=4):
  Calls prog 247 #[.slice (some ⟨b,off,none⟩) n c] w λe w'=>e=.returned (.tuple #[.int .i32 (slowN n x0 x1 x2 x3 4 128 191).1,.int .i64 (slowN n x0 x1 x2 x3 4 128 191).2])/\Below w.heap.size w w':=by
 have hc0:=hT.first x0 (by omega)
 have ha0:=hT.lo 0 (by omega)
 have ha1:=hT.hi 0 (by omega)
 rw[hX]at hc0
 simp only[accLo,accHi,Nat.reduceMul,Nat.reduceAdd,Nat.reduceEqDiff,if_true,if_false]at ha0 ha1
 clear hT hX
 have hz0':¬((n:Int)<1):=by omega
 have hbl:b<w.heap.size:=zn _ _ h0
 by_cases hs:n<4
 ·
  have hnz:(n:Int)<4:=by omega
  clear h1 h2 h3
  go_enter func247,ntmps247
  go_wp2
  go_ret2
  refine⟨?_,(zx _ _).alloc (zq _) _⟩
  unfold slowN
  rw[if_pos hs]
  rfl
 ·
  have hnz:¬((n:Int)<4):=by omega
  replace h1:=h1 (by omega)
  have hz1:(1:Int)<(n:Int):=by omega
  replace h2:=h2 (by omega)
  have hz2:(2:Int)<(n:Int):=by omega
  replace h3:=h3 (by omega)
  have hz3:(3:Int)<(n:Int):=by omega
  go_enter func247,ntmps247
  go_wp2
  all_goals
   go_ret2
   refine⟨?_,(zx _ _).alloc (zq _) _⟩
   unfold slowN
   repeat' split
   all_goals first
    |(exfalso;omega)
    |rfl
    |(simp only[xc,xa,xt,Int.natCast_ofNat];rfl)
theorem slow_68(b off c n x0 x1 x2 x3:Nat)(w:World)(hT:U8T w)(h0:w.cell? ⟨b,off,none⟩=some (.int .u8 x0))(l0:x0<256)(h1:1<n->w.cell? ⟨b,off+1,none⟩=some (.int .u8 x1))(l1:x1<256)(h2:2<n->w.cell? ⟨b,off+2,none⟩=some (.int .u8 x2))(l2:x2<256)(h3:3<n->w.cell? ⟨b,off+3,none⟩=some (.int .u8 x3))(l3:x3<256)(hn:1<=n)(hX:firstT x0=68):
  Calls prog 247 #[.slice (some ⟨b,off,none⟩) n c] w λe w'=>e=.returned (.tuple #[.int .i32 (slowN n x0 x1 x2 x3 4 128 143).1,.int .i64 (slowN n x0 x1 x2 x3 4 128 143).2])/\Below w.heap.size w w':=by
 have hc0:=hT.first x0 (by omega)
 have ha0:=hT.lo 4 (by omega)
 have ha1:=hT.hi 4 (by omega)
 rw[hX]at hc0
 simp only[accLo,accHi,Nat.reduceMul,Nat.reduceAdd,Nat.reduceEqDiff,if_true,if_false]at ha0 ha1
 clear hT hX
 have hz0':¬((n:Int)<1):=by omega
 have hbl:b<w.heap.size:=zn _ _ h0
 by_cases hs:n<4
 ·
  have hnz:(n:Int)<4:=by omega
  clear h1 h2 h3
  go_enter func247,ntmps247
  go_wp2
  go_ret2
  refine⟨?_,(zx _ _).alloc (zq _) _⟩
  unfold slowN
  rw[if_pos hs]
  rfl
 ·
  have hnz:¬((n:Int)<4):=by omega
  replace h1:=h1 (by omega)
  have hz1:(1:Int)<(n:Int):=by omega
  replace h2:=h2 (by omega)
  have hz2:(2:Int)<(n:Int):=by omega
  replace h3:=h3 (by omega)
  have hz3:(3:Int)<(n:Int):=by omega
  go_enter func247,ntmps247
  go_wp2
  all_goals
   go_ret2
   refine⟨?_,(zx _ _).alloc (zq _) _⟩
   unfold slowN
   repeat' split
   all_goals first
    |(exfalso;omega)
    |rfl
    |(simp only[xc,xa,xt,Int.natCast_ofNat];rfl)
end Go.Proofs.YteoijlfipmaoeaaGreatDoor

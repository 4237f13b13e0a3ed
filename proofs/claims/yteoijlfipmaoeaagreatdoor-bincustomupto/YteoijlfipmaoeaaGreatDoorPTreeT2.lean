import Derived.Test.YteoijlfipmaoeaaGreatDoorPJ14
set_option linter.unusedVariables false
set_option linter.unusedSimpArgs false
set_option maxRecDepth 100000
set_option maxHeartbeats 8000000
namespace Go.Proofs.YteoijlfipmaoeaaGreatDoor
open Lib (hid)
open Go.RowKit Trx
open Go.Proofs.Tryz
theorem smallName_any(x:ByteArray)(w:World)(h:StrOk x):Calls prog 157 #[.string x] w λe w'=>e=.returned (.bool (decide (x.size<=64)))/\w=w':=by
 have hm:=h.m
 unfold maxLen at hm
 clear h
 by_cases h1:x.size<=64
 ·
  have t1:decide ((x.size:Int)<=64)=true:=leT h1
  rw[decide_eq_true h1]
  clear h1
  go_enter func157,ntmps157
  go_wp2_with fail
  go_ret
  exact⟨rfl,rfl⟩
 ·
  have t1:decide ((x.size:Int)<=64)=false:=leF h1
  rw[decide_eq_false h1]
  clear h1
  go_enter func157,ntmps157
  go_wp2_with fail
  go_ret
  exact⟨rfl,rfl⟩
def smTy(x:Ty):Bool:=decide (x.p.zs.length<=64)&&decide (x.r.zs.length<=64)
theorem smallType_any(x:Ty)(w:World)(hN:Nam w)(hx:x.ok w w.heap.size):Calls prog 59 #[.agg #[.slice x.p.A x.p.zs.length x.p.c,.slice x.r.A x.r.zs.length x.r.c]] w λe w'=>e=.returned (.bool (smTy x))/\Below w.heap.size w w':=by
 unfold smTy
 have m1:=zy hx.p.le hx.p.c
 have m2:=zy hx.r.le hx.r.c
 unfold maxLen at m1 m2
 clear hx hN
 by_cases h1:x.p.zs.length<=64
 ·
  have t1:decide ((x.p.zs.length:Int)<=64)=true:=leT h1
  rw[decide_eq_true h1]
  clear h1
  by_cases h2:x.r.zs.length<=64
  ·
   have t2:decide ((x.r.zs.length:Int)<=64)=true:=leT h2
   rw[decide_eq_true h2]
   clear h2
   go_enter func59,ntmps59
   go_wp2_with fail
   go_ret
   exact⟨by simp,((zx _ _).alloc (zq _) _)⟩
  ·
   have t2:decide ((x.r.zs.length:Int)<=64)=false:=leF h2
   rw[decide_eq_false h2]
   clear h2
   go_enter func59,ntmps59
   go_wp2_with fail
   go_ret
   exact⟨by simp,((zx _ _).alloc (zq _) _)⟩
 ·
  have t1:decide ((x.p.zs.length:Int)<=64)=false:=leF h1
  rw[decide_eq_false h1]
  clear h1
  go_enter func59,ntmps59
  go_wp2_with fail
  go_ret
  exact⟨by simp,((zx _ _).alloc (zq _) _)⟩
def smIm(x:Im):Bool:=decide (x.md.size<=64)&&decide (x.nm.size<=64)
theorem smallImport_any(x:Im)(w:World)(hN:Nam w)(hx:x.ok):Calls prog 61 #[.agg #[.string x.md,.string x.nm,.int .i64 x.kd,.int .i64 x.ty,.bool x.mu,.int .i64 x.lm.mn,.int .i64 x.lm.mx,.bool x.lm.hs]] w λe w'=>e=.returned (.bool (smIm x))/\Below w.heap.size w w':=by
 unfold smIm
 have HA:=hid (λw=>smallName_any x.md w hx.md)
 have HB:=hid (λw=>smallName_any x.nm w hx.nm)
 clear hx hN
 cases hq:decide (x.md.size<=64)
 ·
  rw[hq]at HA
  clear hq
  go_enter func61,ntmps61
  go_wp2_with(go_at_call 157;((with_reducible refine(HA.out _).mono ?_);rintro e w1 ⟨rfl,rfl⟩))
  go_ret
  exact⟨by simp,((zx _ _).alloc (zq _) _)⟩
 ·
  rw[hq]at HA
  clear hq
  go_enter func61,ntmps61
  go_wp2_with(first|(go_at_call 157;((with_reducible refine(HA.out _).mono ?_);rintro e w1 ⟨rfl,rfl⟩))|(go_at_call 157;((with_reducible refine(HB.out _).mono ?_);rintro e w1 ⟨rfl,rfl⟩)))
  all_goals
   go_ret
   exact⟨by simp,((zx _ _).alloc (zq _) _)⟩
def smFn(x:Fn):Bool:=decide (x.lo.zs.length<=64)&&scode x.bo.f
theorem smallFunc_any(x:Fn)(w:World)(hN:Nam w)(hx:x.ok w w.heap.size):Calls prog 63 #[.agg #[.int .i64 x.ty,.slice x.lo.A x.lo.zs.length x.lo.c,.slice x.bo.A (len x.bo.f) x.bo.c]] w λe w'=>e=.returned (.bool (smFn x))/\Below w.heap.size w w':=by
 unfold smFn
 have HA:=hid (λw' (hb:Below w.heap.size w w')=>smallCode_any x.bo.f x.bo.A x.bo.c w' (hN.below hb) ((hx.bo.keep hb.size (Below.kp hb)).rd) (zy hx.bo.le hx.bo.c))
 have m1:=zy hx.lo.le hx.lo.c
 unfold maxLen at m1
 clear hx hN
 by_cases h1:x.lo.zs.length<=64
 ·
  have t1:decide ((x.lo.zs.length:Int)<=64)=true:=leT h1
  rw[decide_eq_true h1]
  clear h1
  go_enter func63,ntmps63
  go_wp2_with(go_at_call 158;refine(HA.out _ ((zx _ _).alloc (zq _) _)).mono ?_;rintro e w1 ⟨rfl,hb1⟩;have HW1:=hid (bel_alloc hb1);clear hb1)
  go_ret
  exact⟨by simp,HW1.out⟩
 ·
  have t1:decide ((x.lo.zs.length:Int)<=64)=false:=leF h1
  rw[decide_eq_false h1]
  clear h1
  go_enter func63,ntmps63
  go_wp2_with fail
  go_ret
  exact⟨by simp,((zx _ _).alloc (zq _) _)⟩
def smGl(x:Gl):Bool:=sIns x.i.n
theorem smallGlobal_any(x:Gl)(w:World)(hN:Nam w)(hx:x.ok w w.heap.size):Calls prog 65 #[.agg #[.int .i64 x.ty,.bool x.mu,.int .i64 x.i.n.op,.int .i64 x.i.n.a,.int .i64 x.i.n.b,.int .u64 x.i.n.v,.int .i64 x.i.n.t,.slice x.i.p.AL x.i.n.L.length x.i.p.cL,.slice x.i.p.Ab (len x.i.n.body) x.i.p.cb,.slice x.i.p.Ae (len x.i.n.els) x.i.p.ce,.bool x.i.n.he]] w λe w'=>e=.returned (.bool (smGl x))/\Below w.heap.size w w':=by
 unfold smGl
 have HA:=hid (λw' (hb:Below w.heap.size w w')=>smallIns_any x.i w' (hN.below hb) (hx.i.keep hb.size (Below.kp hb)))
 unfold inA at HA
 clear hx hN
 go_enter func65,ntmps65
 go_wp2_with(go_at_call 159;refine(HA.out _ ((zx _ _).alloc (zq _) _)).mono ?_;rintro e w1 ⟨rfl,hb1⟩;have HW1:=hid (bel_alloc hb1);clear hb1)
 go_ret
 exact⟨rfl,HW1.out⟩
def smEx(x:Ex):Bool:=decide (x.nm.size<=64)
theorem smallExport_any(x:Ex)(w:World)(hN:Nam w)(hx:x.ok):Calls prog 67 #[.agg #[.string x.nm,.int .i64 x.kd,.int .i64 x.ix]] w λe w'=>e=.returned (.bool (smEx x))/\Below w.heap.size w w':=by
 unfold smEx
 have HA:=hid (λw=>smallName_any x.nm w hx.nm)
 clear hx hN
 go_enter func67,ntmps67
 go_wp2_with(go_at_call 157;(with_reducible refine(HA.out _).mono ?_);rintro e w1 ⟨rfl,rfl⟩)
 go_ret
 exact⟨rfl,((zx _ _).alloc (zq _) _)⟩
def smEl(x:El):Bool:=decide (x.fs.zs.length<=64)&&sIns x.i.n
theorem smallElem_any(x:El)(w:World)(hN:Nam w)(hx:x.ok w w.heap.size):Calls prog 69 #[.agg #[.int .i64 x.i.n.op,.int .i64 x.i.n.a,.int .i64 x.i.n.b,.int .u64 x.i.n.v,.int .i64 x.i.n.t,.slice x.i.p.AL x.i.n.L.length x.i.p.cL,.slice x.i.p.Ab (len x.i.n.body) x.i.p.cb,.slice x.i.p.Ae (len x.i.n.els) x.i.p.ce,.bool x.i.n.he,.slice x.fs.A x.fs.zs.length x.fs.c]] w λe w'=>e=.returned (.bool (smEl x))/\Below w.heap.size w w':=by
 unfold smEl
 have HA:=hid (λw' (hb:Below w.heap.size w w')=>smallIns_any x.i w' (hN.below hb) (hx.i.keep hb.size (Below.kp hb)))
 unfold inA at HA
 have m1:=zy hx.fs.le hx.fs.c
 unfold maxLen at m1
 clear hx hN
 by_cases h1:x.fs.zs.length<=64
 ·
  have t1:decide ((x.fs.zs.length:Int)<=64)=true:=leT h1
  rw[decide_eq_true h1]
  clear h1
  go_enter func69,ntmps69
  go_wp2_with(go_at_call 159;refine(HA.out _ ((zx _ _).alloc (zq _) _)).mono ?_;rintro e w1 ⟨rfl,hb1⟩;have HW1:=hid (bel_alloc hb1);clear hb1)
  go_ret
  exact⟨by simp,HW1.out⟩
 ·
  have t1:decide ((x.fs.zs.length:Int)<=64)=false:=leF h1
  rw[decide_eq_false h1]
  clear h1
  go_enter func69,ntmps69
  go_wp2_with fail
  go_ret
  exact⟨by simp,((zx _ _).alloc (zq _) _)⟩
def smDa(x:Da):Bool:=decide (x.bs.bs.length<=4096)&&sIns x.i.n
theorem smallData_any(x:Da)(w:World)(hN:Nam w)(hx:x.ok w w.heap.size):Calls prog 71 #[.agg #[.int .i64 x.i.n.op,.int .i64 x.i.n.a,.int .i64 x.i.n.b,.int .u64 x.i.n.v,.int .i64 x.i.n.t,.slice x.i.p.AL x.i.n.L.length x.i.p.cL,.slice x.i.p.Ab (len x.i.n.body) x.i.p.cb,.slice x.i.p.Ae (len x.i.n.els) x.i.p.ce,.bool x.i.n.he,.slice x.bs.A x.bs.bs.length x.bs.c]] w λe w'=>e=.returned (.bool (smDa x))/\Below w.heap.size w w':=by
 unfold smDa
 have HA:=hid (λw' (hb:Below w.heap.size w w')=>smallIns_any x.i w' (hN.below hb) (hx.i.keep hb.size (Below.kp hb)))
 unfold inA at HA
 have m1:=zy hx.bs.le hx.bs.c
 unfold maxLen at m1
 clear hx hN
 by_cases h1:x.bs.bs.length<=4096
 ·
  have t1:decide ((x.bs.bs.length:Int)<=4096)=true:=leT h1
  rw[decide_eq_true h1]
  clear h1
  go_enter func71,ntmps71
  go_wp2_with(go_at_call 159;refine(HA.out _ ((zx _ _).alloc (zq _) _)).mono ?_;rintro e w1 ⟨rfl,hb1⟩;have HW1:=hid (bel_alloc hb1);clear hb1)
  go_ret
  exact⟨by simp,HW1.out⟩
 ·
  have t1:decide ((x.bs.bs.length:Int)<=4096)=false:=leF h1
  rw[decide_eq_false h1]
  clear h1
  go_enter func71,ntmps71
  go_wp2_with fail
  go_ret
  exact⟨by simp,((zx _ _).alloc (zq _) _)⟩
def smCu(x:Cu):Bool:=decide (x.nm.size<=64)&&decide (x.bs.bs.length<=4096)
theorem smallCustom_any(x:Cu)(w:World)(hN:Nam w)(hx:x.ok w w.heap.size):Calls prog 73 #[.agg #[.string x.nm,.slice x.bs.A x.bs.bs.length x.bs.c]] w λe w'=>e=.returned (.bool (smCu x))/\Below w.heap.size w w':=by
 unfold smCu
 have HA:=hid (λw=>smallName_any x.nm w hx.nm)
 have m1:=zy hx.bs.le hx.bs.c
 unfold maxLen at m1
 clear hx hN
 cases hq:decide (x.nm.size<=64)
 ·
  rw[hq]at HA
  clear hq
  go_enter func73,ntmps73
  go_wp2_with(go_at_call 157;((with_reducible refine(HA.out _).mono ?_);rintro e w1 ⟨rfl,rfl⟩))
  go_ret
  exact⟨by simp,((zx _ _).alloc (zq _) _)⟩
 ·
  rw[hq]at HA
  clear hq
  by_cases h1:x.bs.bs.length<=4096
  ·
   have t1:decide ((x.bs.bs.length:Int)<=4096)=true:=leT h1
   rw[decide_eq_true h1]
   clear h1
   go_enter func73,ntmps73
   go_wp2_with(go_at_call 157;((with_reducible refine(HA.out _).mono ?_);rintro e w1 ⟨rfl,rfl⟩))
   go_ret
   exact⟨by simp,((zx _ _).alloc (zq _) _)⟩
  ·
   have t1:decide ((x.bs.bs.length:Int)<=4096)=false:=leF h1
   rw[decide_eq_false h1]
   clear h1
   go_enter func73,ntmps73
   go_wp2_with(go_at_call 157;((with_reducible refine(HA.out _).mono ?_);rintro e w1 ⟨rfl,rfl⟩))
   go_ret
   exact⟨by simp,((zx _ _).alloc (zq _) _)⟩
inductive AIn:{β:Type}->Nat->Nat->Nat->Nat->(β->List Value)->Prop
 |Ty:AIn 58 59 2 48 Ty.cells
 |Im:AIn 60 61 8 80 Im.cells
 |Fn:AIn 62 63 3 56 Fn.cells
 |Gl:AIn 64 65 11 136 Gl.cells
 |Ex:AIn 66 67 3 32 Ex.cells
 |El:AIn 68 69 10 144 El.cells
 |Da:AIn 70 71 10 144 Da.cells
 |Cu:AIn 72 73 2 40 Cu.cells
theorem AIn.len{β:Type}{f kf k y:Nat}{cells:β->List Value}(h:AIn f kf k y cells)(x:β):(cells x).length=k:=by cases h<;>rfl
theorem all_any{β:Type}{f kf k y:Nat}{cells:β->List Value}(hI:AIn f kf k y cells){q:World->Nat->β->Prop}(s:SL β)(sm:β->Bool)(w:World)(hs:s.ok cells q k y w w.heap.size)
  (H:∀x w',Below w.heap.size w w'->q w w.heap.size x->Calls prog kf #[.agg (cells x).toArray] w' λe w''=>e=.returned (.bool (sm x))/\Below w'.heap.size w' w''):
  Calls prog f #[.slice s.A s.l.length s.c,.func (.func kf) #[] #[]] w λe w'=>e=.returned (.bool (s.l.all sm))/\Below w.heap.size w w':=by
 have hm:=zy hs.le hs.c
 unfold maxLen at hm
 have HS:=hid hs
 have HH:=hid H
 have HL:=hid hI.len
 clear hs H
 cases hI
 all_goals
  first|go_enter func58,ntmps58|go_enter func60,ntmps60|go_enter func62,ntmps62|go_enter func64,ntmps64|go_enter func66,ntmps66|go_enter func68,ntmps68|go_enter func70,ntmps70|go_enter func72,ntmps72
  go_wp2_with fail
  go_loopw [9] (λi wr=>∃j:Nat,j<=s.l.length/\i=.int .i64 j/\(s.l.take j).all sm=true/\Below w.heap.size w wr) (λi _=>s.l.length-(intOf i).toNat)
  case atStart=>exact⟨0,by omega,rfl,by simp,zx _ _⟩
  case round=>
   obtain⟨j,hj,rfl,hall,hbel⟩:=hrel
   have HA:=hid hall
   clear hall
   by_cases hlt:j<s.l.length
   ·
    obtain⟨b,o,x,hA,hx,hb,hok,hcell⟩:=HS.out.at_ hlt
    have u:=row_of hbel hb hcell (HL.out x)
    have hc:=λo'=>HH.out x (wr.alloc o') (hbel.alloc hbel.size o') hok
    have hb':=zj hb hbel.size
    simp only[allC,Ty.cells,Im.cells,Fn.cells,Gl.cells,Ex.cells,El.cells,Da.cells,Cu.cells,In.cells,insC,zi,qx,qz,Nat.reduceAdd,qe,and_true]at u hc
    have HC:=hid hc
    have HG:=hid hx
    have HB:=hid hbel
    have hsz:=hbel.size
    rw[hA]
    clear hok hcell hbel hx hA hc
    repeat(obtain⟨q0,u⟩:=u)
    cases hq:sm x
    ·
     rw[hq]at HC
     have HQ:=hid (all_false sm s.l j x HG.out hq)
     clear hq
     go_wp2_with((with_reducible refine(HC.out _).mono ?_);rintro e w' ⟨rfl,hb1⟩;have HB1:=hid ((HB.out.alloc hsz _).trans (hb1.mono (by simp;omega)));clear hb1)
     go_ret
     exact⟨by rw[HQ.out];rfl,HB1.out⟩
    ·
     rw[hq]at HC
     have HQ:=hid ((all_snoc sm s.l j x HG.out HA.out).trans hq)
     clear hq
     go_wp2_with((with_reducible refine(HC.out _).mono ?_);rintro e w' ⟨rfl,hb1⟩;have HB1:=hid ((HB.out.alloc hsz _).trans (hb1.mono (by simp;omega)));clear hb1)
     go_roundw
     case rel=>exact⟨j+1,by omega,by go_num,HQ.out,HB1.out⟩
     case measure=>simp[intOf];omega
   ·
    have HT:=hid (zo (l:=s.l) (i:=j) (by omega))
    have HB:=hid hbel
    clear hbel
    go_wp2_with fail
    go_ret
    exact⟨by rw[<-HA.out,HT.out];rfl,HB.out⟩
abbrev allTy_any(s:SL Ty)(w:World)(hN:Nam w)(hs:s.ok Ty.cells Ty.ok 2 48 w w.heap.size):=all_any .Ty s smTy w hs λx w' hb hx=>smallType_any x w' (hN.below hb) (hx.keep hb.size (Below.kp hb))
abbrev allIm_any(s:SL Im)(w:World)(hN:Nam w)(hs:s.ok Im.cells (λ_ _=>Im.ok) 8 80 w w.heap.size):=all_any .Im s smIm w hs λx w' hb hx=>smallImport_any x w' (hN.below hb) hx
abbrev allFn_any(s:SL Fn)(w:World)(hN:Nam w)(hs:s.ok Fn.cells Fn.ok 3 56 w w.heap.size):=all_any .Fn s smFn w hs λx w' hb hx=>smallFunc_any x w' (hN.below hb) (hx.keep hb.size (Below.kp hb))
abbrev allGl_any(s:SL Gl)(w:World)(hN:Nam w)(hs:s.ok Gl.cells Gl.ok 11 136 w w.heap.size):=all_any .Gl s smGl w hs λx w' hb hx=>smallGlobal_any x w' (hN.below hb) (hx.keep hb.size (Below.kp hb))
abbrev allEx_any(s:SL Ex)(w:World)(hN:Nam w)(hs:s.ok Ex.cells (λ_ _=>Ex.ok) 3 32 w w.heap.size):=all_any .Ex s smEx w hs λx w' hb hx=>smallExport_any x w' (hN.below hb) hx
abbrev allEl_any(s:SL El)(w:World)(hN:Nam w)(hs:s.ok El.cells El.ok 10 144 w w.heap.size):=all_any .El s smEl w hs λx w' hb hx=>smallElem_any x w' (hN.below hb) (hx.keep hb.size (Below.kp hb))
abbrev allDa_any(s:SL Da)(w:World)(hN:Nam w)(hs:s.ok Da.cells Da.ok 10 144 w w.heap.size):=all_any .Da s smDa w hs λx w' hb hx=>smallData_any x w' (hN.below hb) (hx.keep hb.size (Below.kp hb))
abbrev allCu_any(s:SL Cu)(w:World)(hN:Nam w)(hs:s.ok Cu.cells Cu.ok 2 40 w w.heap.size):=all_any .Cu s smCu w hs λx w' hb hx=>smallCustom_any x w' (hN.below hb) (hx.keep hb.size (Below.kp hb))
end Go.Proofs.YteoijlfipmaoeaaGreatDoor

import Derived.Test.YteoijlfipmaoeaaGreatDoorPJ5
set_option linter.unusedVariables false
set_option linter.unusedSimpArgs false
set_option maxRecDepth 100000
set_option maxHeartbeats 8000000
namespace Go.Proofs.YteoijlfipmaoeaaGreatDoor
open Lib (hid)
open Go.RowKit Trx
open Go.Proofs.Tryz
def uA(k op a:Int):Int:=if k=3 then(if op=14\/op=15 then a else 0)else if k=4\/k=6\/k=7\/k=8 then 0 else a
def uB(k b:Int):Int:=if k=7\/k=8 then 0 else b
def uV(k v:Int):Int:=if k=10 then 0 else v
def uT(k t:Int):Int:=if k=2 then 0 else t
def uL(k op:Int)(l:Nat):Nat:=if k=3/\op=14 then 0 else l
def uY(k:Int)(l:Nat):Nat:=if k=2 then 0 else l
def uE(k op:Int)(he:Bool)(l:Nat):Nat:=if k=2/\op=4/\he=true then 0 else l
def uH(k op:Int)(he:Bool):Bool:=if k=2/\op=4 then false else he
def insV(op a b v t:Int)(AL Ab Ae:Option Addr)(lL cL lb cb le ce:Nat)(he:Bool):Value:=
 .agg #[.int .i64 op,.int .i64 a,.int .i64 b,.int .u64 v,.int .i64 t,.slice AL lL cL,.slice Ab lb cb,.slice Ae le ce,.bool he]
def opA(y:Int)(nm:ByteArray)(k:Int)(At:Option Addr)(lt ct:Nat)(g z:Int)(s:Bool):Value:=
 .agg #[.int .i64 y,.string nm,.int .i64 k,.slice At lt ct,.int .i64 g,.int .i64 z,.bool s]
theorem unc_1(a b v t y g z:Int)(op:Int)(he:Bool)(AL Ab Ae At:Option Addr)(lL cL lb cb le ce lt ct:Nat)(nm:ByteArray)(s:Bool)(w:World)(h:(op==4)=false):
  Calls prog 258 #[.agg #[.int .i64 op,.int .i64 a,.int .i64 b,.int .u64 v,.int .i64 t,.slice AL lL cL,.slice Ab lb cb,.slice Ae le ce,.bool he],.agg #[.int .i64 y,.string nm,.int .i64 2,.slice At lt ct,.int .i64 g,.int .i64 z,.bool s]] w
   λe w'=>e=.returned (.agg #[.int .i64 op,.int .i64 a,.int .i64 b,.int .u64 v,.int .i64 0,.slice AL lL cL,.slice none 0 0,.slice Ae le ce,.bool he])/\Below w.heap.size w w':=by
 go_enter func258,ntmps258
 go_wp2_with fail
 refine bodyPost_ret (v:=.agg #[.int .i64 op,.int .i64 a,.int .i64 b,.int .u64 v,.int .i64 0,.slice AL lL cL,.slice none 0 0,.slice Ae le ce,.bool he]) (by simp[results,results258,go_sem]) rfl ⟨rfl,?_⟩
 repeat'(first|exact zx _ _|refine jt ?_ ?_ _|refine jp ?_ ?_ _)
 all_goals(simp<;>omega)
theorem unc_2(a b v t y g z:Int)(AL Ab Ae At:Option Addr)(lL cL lb cb le ce lt ct:Nat)(nm:ByteArray)(s:Bool)(w:World):
  Calls prog 258 #[.agg #[.int .i64 4,.int .i64 a,.int .i64 b,.int .u64 v,.int .i64 t,.slice AL lL cL,.slice Ab lb cb,.slice Ae le ce,.bool true],.agg #[.int .i64 y,.string nm,.int .i64 2,.slice At lt ct,.int .i64 g,.int .i64 z,.bool s]] w
   λe w'=>e=.returned (.agg #[.int .i64 4,.int .i64 a,.int .i64 b,.int .u64 v,.int .i64 0,.slice AL lL cL,.slice none 0 0,.slice none 0 0,.bool false])/\Below w.heap.size w w':=by
 go_enter func258,ntmps258
 go_wp2_with fail
 refine bodyPost_ret (v:=.agg #[.int .i64 4,.int .i64 a,.int .i64 b,.int .u64 v,.int .i64 0,.slice AL lL cL,.slice none 0 0,.slice none 0 0,.bool false]) (by simp[results,results258,go_sem]) rfl ⟨rfl,?_⟩
 repeat'(first|exact zx _ _|refine jt ?_ ?_ _|refine jp ?_ ?_ _)
 all_goals(simp<;>omega)
theorem unc_3(a b v t y g z:Int)(AL Ab Ae At:Option Addr)(lL cL lb cb le ce lt ct:Nat)(nm:ByteArray)(s:Bool)(w:World):
  Calls prog 258 #[.agg #[.int .i64 4,.int .i64 a,.int .i64 b,.int .u64 v,.int .i64 t,.slice AL lL cL,.slice Ab lb cb,.slice Ae le ce,.bool false],.agg #[.int .i64 y,.string nm,.int .i64 2,.slice At lt ct,.int .i64 g,.int .i64 z,.bool s]] w
   λe w'=>e=.returned (.agg #[.int .i64 4,.int .i64 a,.int .i64 b,.int .u64 v,.int .i64 0,.slice AL lL cL,.slice none 0 0,.slice Ae le ce,.bool false])/\Below w.heap.size w w':=by
 go_enter func258,ntmps258
 go_wp2_with fail
 refine bodyPost_ret (v:=.agg #[.int .i64 4,.int .i64 a,.int .i64 b,.int .u64 v,.int .i64 0,.slice AL lL cL,.slice none 0 0,.slice Ae le ce,.bool false]) (by simp[results,results258,go_sem]) rfl ⟨rfl,?_⟩
 repeat'(first|exact zx _ _|refine jt ?_ ?_ _|refine jp ?_ ?_ _)
 all_goals(simp<;>omega)
theorem unc_4(a b v t y g z:Int)(he:Bool)(AL Ab Ae At:Option Addr)(lL cL lb cb le ce lt ct:Nat)(nm:ByteArray)(s:Bool)(w:World):
  Calls prog 258 #[.agg #[.int .i64 14,.int .i64 a,.int .i64 b,.int .u64 v,.int .i64 t,.slice AL lL cL,.slice Ab lb cb,.slice Ae le ce,.bool he],.agg #[.int .i64 y,.string nm,.int .i64 3,.slice At lt ct,.int .i64 g,.int .i64 z,.bool s]] w
   λe w'=>e=.returned (.agg #[.int .i64 14,.int .i64 a,.int .i64 b,.int .u64 v,.int .i64 t,.slice none 0 0,.slice Ab lb cb,.slice Ae le ce,.bool he])/\Below w.heap.size w w':=by
 go_enter func258,ntmps258
 go_wp2_with fail
 refine bodyPost_ret (v:=.agg #[.int .i64 14,.int .i64 a,.int .i64 b,.int .u64 v,.int .i64 t,.slice none 0 0,.slice Ab lb cb,.slice Ae le ce,.bool he]) (by simp[results,results258,go_sem]) rfl ⟨rfl,?_⟩
 repeat'(first|exact zx _ _|refine jt ?_ ?_ _|refine jp ?_ ?_ _)
 all_goals(simp<;>omega)
theorem unc_5(a b v t y g z:Int)(he:Bool)(AL Ab Ae At:Option Addr)(lL cL lb cb le ce lt ct:Nat)(nm:ByteArray)(s:Bool)(w:World):
  Calls prog 258 #[.agg #[.int .i64 15,.int .i64 a,.int .i64 b,.int .u64 v,.int .i64 t,.slice AL lL cL,.slice Ab lb cb,.slice Ae le ce,.bool he],.agg #[.int .i64 y,.string nm,.int .i64 3,.slice At lt ct,.int .i64 g,.int .i64 z,.bool s]] w
   λe w'=>e=.returned (.agg #[.int .i64 15,.int .i64 a,.int .i64 b,.int .u64 v,.int .i64 t,.slice AL lL cL,.slice Ab lb cb,.slice Ae le ce,.bool he])/\Below w.heap.size w w':=by
 go_enter func258,ntmps258
 go_wp2_with fail
 refine bodyPost_ret (v:=.agg #[.int .i64 15,.int .i64 a,.int .i64 b,.int .u64 v,.int .i64 t,.slice AL lL cL,.slice Ab lb cb,.slice Ae le ce,.bool he]) (by simp[results,results258,go_sem]) rfl ⟨rfl,?_⟩
 repeat'(first|exact zx _ _|refine jt ?_ ?_ _|refine jp ?_ ?_ _)
 all_goals(simp<;>omega)
theorem unc_6(a b v t y g z:Int)(op:Int)(he:Bool)(AL Ab Ae At:Option Addr)(lL cL lb cb le ce lt ct:Nat)(nm:ByteArray)(s:Bool)(w:World)(t14:(op==14)=false)(t15:(op==15)=false):
  Calls prog 258 #[.agg #[.int .i64 op,.int .i64 a,.int .i64 b,.int .u64 v,.int .i64 t,.slice AL lL cL,.slice Ab lb cb,.slice Ae le ce,.bool he],.agg #[.int .i64 y,.string nm,.int .i64 3,.slice At lt ct,.int .i64 g,.int .i64 z,.bool s]] w
   λe w'=>e=.returned (.agg #[.int .i64 op,.int .i64 0,.int .i64 b,.int .u64 v,.int .i64 t,.slice AL lL cL,.slice Ab lb cb,.slice Ae le ce,.bool he])/\Below w.heap.size w w':=by
 go_enter func258,ntmps258
 go_wp2_with fail
 refine bodyPost_ret (v:=.agg #[.int .i64 op,.int .i64 0,.int .i64 b,.int .u64 v,.int .i64 t,.slice AL lL cL,.slice Ab lb cb,.slice Ae le ce,.bool he]) (by simp[results,results258,go_sem]) rfl ⟨rfl,?_⟩
 repeat'(first|exact zx _ _|refine jt ?_ ?_ _|refine jp ?_ ?_ _)
 all_goals(simp<;>omega)
theorem unc_7(a b v t y g z:Int)(op:Int)(he:Bool)(AL Ab Ae At:Option Addr)(lL cL lb cb le ce lt ct:Nat)(nm:ByteArray)(s:Bool)(w:World):
  Calls prog 258 #[.agg #[.int .i64 op,.int .i64 a,.int .i64 b,.int .u64 v,.int .i64 t,.slice AL lL cL,.slice Ab lb cb,.slice Ae le ce,.bool he],.agg #[.int .i64 y,.string nm,.int .i64 4,.slice At lt ct,.int .i64 g,.int .i64 z,.bool s]] w
   λe w'=>e=.returned (.agg #[.int .i64 op,.int .i64 0,.int .i64 b,.int .u64 v,.int .i64 t,.slice AL lL cL,.slice Ab lb cb,.slice Ae le ce,.bool he])/\Below w.heap.size w w':=by
 go_enter func258,ntmps258
 go_wp2_with fail
 refine bodyPost_ret (v:=.agg #[.int .i64 op,.int .i64 0,.int .i64 b,.int .u64 v,.int .i64 t,.slice AL lL cL,.slice Ab lb cb,.slice Ae le ce,.bool he]) (by simp[results,results258,go_sem]) rfl ⟨rfl,?_⟩
 repeat'(first|exact zx _ _|refine jt ?_ ?_ _|refine jp ?_ ?_ _)
 all_goals(simp<;>omega)
theorem unc_8(a b v t y g z:Int)(op:Int)(he:Bool)(AL Ab Ae At:Option Addr)(lL cL lb cb le ce lt ct:Nat)(nm:ByteArray)(s:Bool)(w:World):
  Calls prog 258 #[.agg #[.int .i64 op,.int .i64 a,.int .i64 b,.int .u64 v,.int .i64 t,.slice AL lL cL,.slice Ab lb cb,.slice Ae le ce,.bool he],.agg #[.int .i64 y,.string nm,.int .i64 6,.slice At lt ct,.int .i64 g,.int .i64 z,.bool s]] w
   λe w'=>e=.returned (.agg #[.int .i64 op,.int .i64 0,.int .i64 b,.int .u64 v,.int .i64 t,.slice AL lL cL,.slice Ab lb cb,.slice Ae le ce,.bool he])/\Below w.heap.size w w':=by
 go_enter func258,ntmps258
 go_wp2_with fail
 refine bodyPost_ret (v:=.agg #[.int .i64 op,.int .i64 0,.int .i64 b,.int .u64 v,.int .i64 t,.slice AL lL cL,.slice Ab lb cb,.slice Ae le ce,.bool he]) (by simp[results,results258,go_sem]) rfl ⟨rfl,?_⟩
 repeat'(first|exact zx _ _|refine jt ?_ ?_ _|refine jp ?_ ?_ _)
 all_goals(simp<;>omega)
theorem unc_9(a b v t y g z:Int)(op:Int)(he:Bool)(AL Ab Ae At:Option Addr)(lL cL lb cb le ce lt ct:Nat)(nm:ByteArray)(s:Bool)(w:World):
  Calls prog 258 #[.agg #[.int .i64 op,.int .i64 a,.int .i64 b,.int .u64 v,.int .i64 t,.slice AL lL cL,.slice Ab lb cb,.slice Ae le ce,.bool he],.agg #[.int .i64 y,.string nm,.int .i64 7,.slice At lt ct,.int .i64 g,.int .i64 z,.bool s]] w
   λe w'=>e=.returned (.agg #[.int .i64 op,.int .i64 0,.int .i64 0,.int .u64 v,.int .i64 t,.slice AL lL cL,.slice Ab lb cb,.slice Ae le ce,.bool he])/\Below w.heap.size w w':=by
 go_enter func258,ntmps258
 go_wp2_with fail
 refine bodyPost_ret (v:=.agg #[.int .i64 op,.int .i64 0,.int .i64 0,.int .u64 v,.int .i64 t,.slice AL lL cL,.slice Ab lb cb,.slice Ae le ce,.bool he]) (by simp[results,results258,go_sem]) rfl ⟨rfl,?_⟩
 repeat'(first|exact zx _ _|refine jt ?_ ?_ _|refine jp ?_ ?_ _)
 all_goals(simp<;>omega)
theorem unc_10(a b v t y g z:Int)(op:Int)(he:Bool)(AL Ab Ae At:Option Addr)(lL cL lb cb le ce lt ct:Nat)(nm:ByteArray)(s:Bool)(w:World):
  Calls prog 258 #[.agg #[.int .i64 op,.int .i64 a,.int .i64 b,.int .u64 v,.int .i64 t,.slice AL lL cL,.slice Ab lb cb,.slice Ae le ce,.bool he],.agg #[.int .i64 y,.string nm,.int .i64 8,.slice At lt ct,.int .i64 g,.int .i64 z,.bool s]] w
   λe w'=>e=.returned (.agg #[.int .i64 op,.int .i64 0,.int .i64 0,.int .u64 v,.int .i64 t,.slice AL lL cL,.slice Ab lb cb,.slice Ae le ce,.bool he])/\Below w.heap.size w w':=by
 go_enter func258,ntmps258
 go_wp2_with fail
 refine bodyPost_ret (v:=.agg #[.int .i64 op,.int .i64 0,.int .i64 0,.int .u64 v,.int .i64 t,.slice AL lL cL,.slice Ab lb cb,.slice Ae le ce,.bool he]) (by simp[results,results258,go_sem]) rfl ⟨rfl,?_⟩
 repeat'(first|exact zx _ _|refine jt ?_ ?_ _|refine jp ?_ ?_ _)
 all_goals(simp<;>omega)
theorem unc_11(a b v t y g z:Int)(op:Int)(he:Bool)(AL Ab Ae At:Option Addr)(lL cL lb cb le ce lt ct:Nat)(nm:ByteArray)(s:Bool)(w:World):
  Calls prog 258 #[.agg #[.int .i64 op,.int .i64 a,.int .i64 b,.int .u64 v,.int .i64 t,.slice AL lL cL,.slice Ab lb cb,.slice Ae le ce,.bool he],.agg #[.int .i64 y,.string nm,.int .i64 10,.slice At lt ct,.int .i64 g,.int .i64 z,.bool s]] w
   λe w'=>e=.returned (.agg #[.int .i64 op,.int .i64 a,.int .i64 b,.int .u64 0,.int .i64 t,.slice AL lL cL,.slice Ab lb cb,.slice Ae le ce,.bool he])/\Below w.heap.size w w':=by
 go_enter func258,ntmps258
 go_wp2_with fail
 refine bodyPost_ret (v:=.agg #[.int .i64 op,.int .i64 a,.int .i64 b,.int .u64 0,.int .i64 t,.slice AL lL cL,.slice Ab lb cb,.slice Ae le ce,.bool he]) (by simp[results,results258,go_sem]) rfl ⟨rfl,?_⟩
 repeat'(first|exact zx _ _|refine jt ?_ ?_ _|refine jp ?_ ?_ _)
 all_goals(simp<;>omega)
theorem unc_12(a b v t y g z:Int)(op:Int)(k:Int)(he:Bool)(AL Ab Ae At:Option Addr)(lL cL lb cb le ce lt ct:Nat)(nm:ByteArray)(s:Bool)(w:World)(t2:(k==2)=false)(t3:(k==3)=false)(t4:(k==4)=false)(t6:(k==6)=false)(t7:(k==7)=false)(t8:(k==8)=false)(t10:(k==10)=false):
  Calls prog 258 #[.agg #[.int .i64 op,.int .i64 a,.int .i64 b,.int .u64 v,.int .i64 t,.slice AL lL cL,.slice Ab lb cb,.slice Ae le ce,.bool he],.agg #[.int .i64 y,.string nm,.int .i64 k,.slice At lt ct,.int .i64 g,.int .i64 z,.bool s]] w
   λe w'=>e=.returned (.agg #[.int .i64 op,.int .i64 a,.int .i64 b,.int .u64 v,.int .i64 t,.slice AL lL cL,.slice Ab lb cb,.slice Ae le ce,.bool he])/\Below w.heap.size w w':=by
 go_enter func258,ntmps258
 go_wp2_with fail
 refine bodyPost_ret (v:=.agg #[.int .i64 op,.int .i64 a,.int .i64 b,.int .u64 v,.int .i64 t,.slice AL lL cL,.slice Ab lb cb,.slice Ae le ce,.bool he]) (by simp[results,results258,go_sem]) rfl ⟨rfl,?_⟩
 repeat'(first|exact zx _ _|refine jt ?_ ?_ _|refine jp ?_ ?_ _)
 all_goals(simp<;>omega)
theorem unc_any(op a b v t:Int)(AL Ab Ae:Option Addr)(lL cL lb cb le ce:Nat)(he:Bool)(y:Int)(nm:ByteArray)(k:Int)(At:Option Addr)(lt ct:Nat)(g z:Int)(s:Bool)(w:World):
  Calls prog 258 #[insV op a b v t AL Ab Ae lL cL lb cb le ce he,opA y nm k At lt ct g z s] w
   λe w'=>(∃AL' Ab' Ae' cL' cb' ce',e=.returned (insV op (uA k op a) (uB k b) (uV k v) (uT k t) AL' Ab' Ae' (uL k op lL) cL' (uY k lb) cb' (uE k op he le) ce' (uH k op he)))/\Below w.heap.size w w':=by
 by_cases k2:k=2
 ·
  subst k2
  by_cases o4:op=4
  ·
   subst o4
   cases he
   ·exact(unc_3 a b v t y g z AL Ab Ae At lL cL lb cb le ce lt ct nm s w).mono λ_ _ ⟨h,hb⟩=>⟨⟨AL,none,Ae,cL,0,ce,h⟩,hb⟩
   ·exact(unc_2 a b v t y g z AL Ab Ae At lL cL lb cb le ce lt ct nm s w).mono λ_ _ ⟨h,hb⟩=>⟨⟨AL,none,none,cL,0,0,h⟩,hb⟩
  ·
   refine(unc_1 a b v t y g z op he AL Ab Ae At lL cL lb cb le ce lt ct nm s w (by simpa using o4)).mono λ_ _ ⟨h,hb⟩=>⟨⟨AL,none,Ae,cL,0,ce,?_⟩,hb⟩
   rw[h];simp[insV,uA,uB,uV,uT,uL,uY,uE,uH,o4]
 by_cases k3:k=3
 ·
  subst k3
  by_cases o14:op=14
  ·
   subst o14
   exact(unc_4 a b v t y g z he AL Ab Ae At lL cL lb cb le ce lt ct nm s w).mono λ_ _ ⟨h,hb⟩=>⟨⟨none,Ab,Ae,0,cb,ce,h⟩,hb⟩
  by_cases o15:op=15
  ·
   subst o15
   exact(unc_5 a b v t y g z he AL Ab Ae At lL cL lb cb le ce lt ct nm s w).mono λ_ _ ⟨h,hb⟩=>⟨⟨AL,Ab,Ae,cL,cb,ce,h⟩,hb⟩
  refine(unc_6 a b v t y g z op he AL Ab Ae At lL cL lb cb le ce lt ct nm s w (by simpa using o14) (by simpa using o15)).mono λ_ _ ⟨h,hb⟩=>⟨⟨AL,Ab,Ae,cL,cb,ce,?_⟩,hb⟩
  rw[h];simp[insV,uA,uB,uV,uT,uL,uY,uE,uH,o14,o15]
 by_cases k4:k=4
 ·
  subst k4
  refine(unc_7 a b v t y g z op he AL Ab Ae At lL cL lb cb le ce lt ct nm s w).mono λ_ _ ⟨h,hb⟩=>⟨⟨AL,Ab,Ae,cL,cb,ce,?_⟩,hb⟩
  rw[h];simp[insV,uA,uB,uV,uT,uL,uY,uE,uH]
 by_cases k6:k=6
 ·
  subst k6
  refine(unc_8 a b v t y g z op he AL Ab Ae At lL cL lb cb le ce lt ct nm s w).mono λ_ _ ⟨h,hb⟩=>⟨⟨AL,Ab,Ae,cL,cb,ce,?_⟩,hb⟩
  rw[h];simp[insV,uA,uB,uV,uT,uL,uY,uE,uH]
 by_cases k7:k=7
 ·
  subst k7
  refine(unc_9 a b v t y g z op he AL Ab Ae At lL cL lb cb le ce lt ct nm s w).mono λ_ _ ⟨h,hb⟩=>⟨⟨AL,Ab,Ae,cL,cb,ce,?_⟩,hb⟩
  rw[h];simp[insV,uA,uB,uV,uT,uL,uY,uE,uH]
 by_cases k8:k=8
 ·
  subst k8
  refine(unc_10 a b v t y g z op he AL Ab Ae At lL cL lb cb le ce lt ct nm s w).mono λ_ _ ⟨h,hb⟩=>⟨⟨AL,Ab,Ae,cL,cb,ce,?_⟩,hb⟩
  rw[h];simp[insV,uA,uB,uV,uT,uL,uY,uE,uH]
 by_cases k10:k=10
 ·
  subst k10
  refine(unc_11 a b v t y g z op he AL Ab Ae At lL cL lb cb le ce lt ct nm s w).mono λ_ _ ⟨h,hb⟩=>⟨⟨AL,Ab,Ae,cL,cb,ce,?_⟩,hb⟩
  rw[h];simp[insV,uA,uB,uV,uT,uL,uY,uE,uH]
 refine(unc_12 a b v t y g z op k he AL Ab Ae At lL cL lb cb le ce lt ct nm s w (by simpa using k2) (by simpa using k3) (by simpa using k4) (by simpa using k6) (by simpa using k7) (by simpa using k8) (by simpa using k10)).mono λ_ _ ⟨h,hb⟩=>⟨⟨AL,Ab,Ae,cL,cb,ce,?_⟩,hb⟩
 rw[h];simp[insV,uA,uB,uV,uT,uL,uY,uE,uH,k2,k3,k4,k6,k7,k8,k10]
theorem keep9{w w':World}{b:Nat}{a0 a1 a2 a3 a4 a5 a6 a7 a8:Value}(hb:Below w.heap.size w w')(k0:w.cell? ⟨b,0,none⟩=some a0)(k1:w.cell? ⟨b,1,none⟩=some a1)(k2:w.cell? ⟨b,2,none⟩=some a2)(k3:w.cell? ⟨b,3,none⟩=some a3)
  (k4:w.cell? ⟨b,4,none⟩=some a4) (k5:w.cell? ⟨b,5,none⟩=some a5) (k6:w.cell? ⟨b,6,none⟩=some a6) (k7:w.cell? ⟨b,7,none⟩=some a7) (k8:w.cell? ⟨b,8,none⟩=some a8):
  b<w'.heap.size/\w'.cell? ⟨b,0,none⟩=some a0/\w'.cell? ⟨b,1,none⟩=some a1/\w'.cell? ⟨b,2,none⟩=some a2/\w'.cell? ⟨b,3,none⟩=some a3/\w'.cell? ⟨b,4,none⟩=some a4/\w'.cell? ⟨b,5,none⟩=some a5/\
  w'.cell? ⟨b,6,none⟩=some a6/\w'.cell? ⟨b,7,none⟩=some a7/\w'.cell? ⟨b,8,none⟩=some a8:=
 ⟨zj (zn _ _ k0) hb.size,cell_later k0 hb,cell_later k1 hb,cell_later k2 hb,cell_later k3 hb,cell_later k4 hb,cell_later k5 hb,cell_later k6 hb,cell_later k7 hb,cell_later k8 hb⟩
theorem nineC{w0 w:World}{a0 a1 a2 a3 a4 a5 a6 a7 a8:Value}{t:TypeId}{o:Obj}(h:Below ((w0.alloc (.cells #[a0,a1,a2,a3,a4,a5,a6,a7,a8] t)).alloc o).heap.size ((w0.alloc (.cells #[a0,a1,a2,a3,a4,a5,a6,a7,a8] t)).alloc o) w):
  (w0.heap.size<w.heap.size)/\(w.cell? ⟨w0.heap.size,7,none⟩=some a7)/\Below w0.heap.size w0 w:=by
 have h1:Below (w0.alloc (.cells #[a0,a1,a2,a3,a4,a5,a6,a7,a8] t)).heap.size (w0.alloc (.cells #[a0,a1,a2,a3,a4,a5,a6,a7,a8] t)) w:=((zx _ _).alloc (zq _) o).trans (h.mono (by simp))
 obtain⟨h2,-,-,-,-,-,-,-,k7,-,-,h3⟩:=nineB h1
 exact⟨h2,k7,h3⟩
def cfB(k op g v t a b:Int)(L:List Int)(mb me:Bool):Bool:=
 if k=2 then isRes t&&mb&&me else if k=10 then(g==2 || decide (v<=4294967295))else if op=14 then decide (0<L.length)&&L.all num32 else num32 a&&num32 b
theorem countedFit_any(op a b v t:Int)(AL Ab Ae:Option Addr)(L:List Int)(cL lb cb le ce:Nat)(he:Bool)(y:Int)(nm:ByteArray)(k:Int)(At:Option Addr)(lt ct:Nat)(g z:Int)(s mb me:Bool)(w:World)
  (ha:inI a) (hb:inI b) (hL:∀z∈L,inI z) (sL:Sl w w.heap.size AL (n64s L)) (mL:L.length<=maxLen)
  (HB:∀w',Below w.heap.size w w'->Calls prog 228 #[.slice Ab lb cb] w' λe w''=>e=.returned (.bool mb)/\Below w'.heap.size w' w'')
  (HE:∀w',Below w.heap.size w w'->Calls prog 228 #[.slice Ae le ce] w' λe w''=>e=.returned (.bool me)/\Below w'.heap.size w' w''):
  Calls prog 259 #[insV op a b v t AL Ab Ae L.length cL lb cb le ce he,opA y nm k At lt ct g z s] w λe w'=>e=.returned (.bool (cfB k op g v t a b L mb me))/\Below w.heap.size w w':=by
 have HB:=hid HB
 have HE:=hid HE
 have HL:=hid (λw' (h:Below w.heap.size w w')=>allInt_any L AL cL w' hL ((sL.below h).more h.size) mL)
 have HR:=hid (λw=>isResult_any t w)
 have HA:=hid (λw=>isNumber_any a w ha)
 have HBn:=hid (λw=>isNumber_any b w hb)
 unfold insV opA
 clear hL sL ha hb
 unfold maxLen at mL
 by_cases k2:k=2
 ·
  subst k2
  rw[show cfB 2 op g v t a b L mb me=(isRes t&&mb&&me)from rfl]
  cases hr:isRes t
  ·
   rw[hr]at HR
   clear hr
   go_enter func259,ntmps259
   go_wp2_with(go_at_call 274;refine(HR.out _).mono ?_;rintro e w' ⟨rfl,rfl⟩)
   go_ret
   exact⟨by simp,((zx _ _).alloc (zq _) _).alloc (by simp) _⟩
  ·
   rw[hr]at HR
   clear hr
   cases mb
   ·
    go_enter func259,ntmps259
    go_wp2_with(first
     |(go_at_call 274;refine(HR.out _).mono ?_;rintro e w' ⟨rfl,rfl⟩)
     |(go_at_call 228;((with_reducible refine(HB.out _ (((zx _ _).alloc (zq _) _).alloc (by simp) _)).mono ?_);rintro e w1 ⟨rfl,hb1⟩;obtain⟨hl,k7,hw⟩:=nineC hb1;clear hb1)))
    go_ret
    exact⟨by simp,hw⟩
   ·
    go_enter func259,ntmps259
    go_wp2_with(first
     |(go_at_call 274;refine(HR.out _).mono ?_;rintro e w' ⟨rfl,rfl⟩)
     |(go_at_call 228;((with_reducible refine(HB.out _ (((zx _ _).alloc (zq _) _).alloc (by simp) _)).mono ?_);rintro e w1 ⟨rfl,hb1⟩;obtain⟨hl,k7,hw⟩:=nineC hb1;clear hb1))
     |(go_at_call 228;((with_reducible refine(HE.out _ hw).mono ?_);rintro e w2 ⟨rfl,hb2⟩;have hw2:=hw.trans (hb2.mono hw.size);clear hb2)))
    go_ret
    exact⟨by simp,hw2⟩
 have k2':(k==2)=false:=by simpa using k2
 by_cases k10:k=10
 ·
  subst k10
  rw[show cfB 10 op g v t a b L mb me=(g==2 || decide (v<=4294967295))from rfl]
  clear k2 k2'
  cases hg:g==2
  all_goals
   go_enter func259,ntmps259
   go_wp2_with fail
   go_ret
   exact⟨by simp,((zx _ _).alloc (zq _) _).alloc (by simp) _⟩
 have k10':(k==10)=false:=by simpa using k10
 by_cases o14:op=14
 ·
  subst o14
  rw[show cfB k 14 g v t a b L mb me=(decide (0<L.length)&&L.all num32)by simp[cfB,k2,k10]]
  clear k2 k10
  by_cases hl:0<L.length
  ·
   have tl:decide (0<L.length)=true:=by simpa using hl
   rw[tl]
   go_enter func259,ntmps259
   go_wp2_with(go_at_call 275;refine(HL.out _ (((zx _ _).alloc (zq _) _).alloc (by simp) _)).mono ?_;rintro e w' ⟨rfl,rfl⟩)
   go_ret
   exact⟨by simp,((zx _ _).alloc (zq _) _).alloc (by simp) _⟩
  ·
   have tl:decide (0<L.length)=false:=by simpa using hl
   rw[tl]
   go_enter func259,ntmps259
   go_wp2_with fail
   go_ret
   exact⟨by simp,((zx _ _).alloc (zq _) _).alloc (by simp) _⟩
 have o14':(op==14)=false:=by simpa using o14
 rw[show cfB k op g v t a b L mb me=(num32 a&&num32 b)by simp[cfB,k2,k10,o14]]
 clear k2 k10 o14
 cases hn:num32 a
 all_goals
  rw[hn]at HA
  clear hn
  go_enter func259,ntmps259
  go_wp2_with(first
   |(go_at_call 276;((with_reducible refine(HA.out _).mono ?_);rintro e w' ⟨rfl,rfl⟩))
   |(go_at_call 276;((with_reducible refine(HBn.out _).mono ?_);rintro e w' ⟨rfl,rfl⟩)))
  go_ret
  exact⟨by simp,((zx _ _).alloc (zq _) _).alloc (by simp) _⟩
theorem all_nil_num(L:List Int)(h:L.length=0):L.all num32=true:=by
 rw[zc h];rfl
theorem num32_iff(n:Int):num32 n=true↔0<=n/\n<=4294967295:=by simp[num32]
theorem nm_jump(op:Int)(h:Opx.kd op=3)(hn:Opx.nm op≠[]):op=12\/op=13\/op=14\/op=15:=by
 have h1:5<=op/\op<=15:=by
  unfold Opx.kd at h
  repeat(split at h)
  all_goals first|omega|(simp at h;done)|skip
 have:op=5\/op=6\/op=7\/op=8\/op=9\/op=10\/op=11\/op=12\/op=13\/op=14\/op=15:=by omega
 rcases this with rfl|rfl|rfl|rfl|rfl|rfl|rfl|rfl|rfl|rfl|rfl
 all_goals first|(exact absurd (by decide) hn)|simp
theorem kd_cases(op:Int):Opx.kd op=1\/Opx.kd op=2\/Opx.kd op=3\/Opx.kd op=4\/Opx.kd op=5\/Opx.kd op=6\/Opx.kd op=7\/Opx.kd op=8\/Opx.kd op=9\/Opx.kd op=10\/Opx.kd op=11:=by
 unfold Opx.kd
 repeat(first|split|omega)
theorem kd_ops(op:Int):(Opx.kd op=3\/(op≠12/\op≠13/\op≠14))/\(Opx.kd op=2\/op≠4)/\(Opx.kd op=10\/op≠65)/\(Opx.kd op=10->op=65\/op=66):=by
 unfold Opx.kd
 repeat(first|split|omega)
theorem gv65:Opx.gv 65=1:=by decide +kernel
theorem gv66:Opx.gv 66=2:=by decide +kernel
theorem may_eq(op a b v t:Int)(L:List Int)(lb le:Nat)(nb ne he mb me:Bool)(hn:Opx.nm op≠[])(hv:0<=v)(h1:nb=decide (lb=0))(h2:ne=decide (le=0))(h3:lb=0->mb=true)(h4:le=0->me=true):
  (bareB (uA (Opx.kd op) op a) (uB (Opx.kd op) b) (uV (Opx.kd op) v) (uT (Opx.kd op) t) (uL (Opx.kd op) op L.length) (uY (Opx.kd op) lb) (uE (Opx.kd op) op he le) (uH (Opx.kd op) op he)&&cfB (Opx.kd op) op (Opx.gv op) v t a b L mb me)
   = (fit op a b v t L nb ne he&&mb&&me):=by
 have hk:knd op=Opx.kd op:=by
  unfold knd
  rw[if_neg]
  simpa[List.isEmpty_iff]using hn
 have ho:=kd_ops op
 have hj:=nm_jump op
 unfold fit
 simp only[hk]
 subst h1 h2
 have hnil:=all_nil_num L
 rcases kd_cases op with h|h|h|h|h|h|h|h|h|h|h
 all_goals
  rw[h]at ho hj⊢
 all_goals
  rw[Bool.eq_iff_iff]
  simp[bareB,uA,uB,uV,uT,uL,uY,uE,uH,cfB,num32_iff,isRes,-List.length_eq_zero_iff,hn]at ho hj⊢
  have hlen:L.length=0↔L=[]:=List.length_eq_zero_iff
  have hpos:0<L.length↔¬L=[]:=by rw[<-hlen];omega
  have hM:L=[]->∀(x:Int),x∈L->0<=x/\x<=4294967295:=by intro e;subst e;simp
  have hg5:op=65->Opx.gv op=1:=by intro e;subst e;exact gv65
  have hg6:op=66->Opx.gv op=2:=by intro e;subst e;exact gv66
  simp only[hlen,hpos]
  clear hlen hpos hnil hk
  generalize hq:(∀(x:Int),x∈L->0<=x/\x<=4294967295)=M at hM⊢
  clear hq
  generalize(L=[])=E at hM⊢
  grind
end Go.Proofs.YteoijlfipmaoeaaGreatDoor

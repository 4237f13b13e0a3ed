import Derived.Test.YteoijlfipmaoeaaGreatDoorPJ2
import Derived.Laws.OwnMore
import Derived.Deep.OwnRows
set_option linter.unusedVariables false
set_option linter.unusedSimpArgs false
set_option maxRecDepth 100000
set_option maxHeartbeats 8000000
namespace Go.Proofs.YteoijlfipmaoeaaGreatDoor
open Lib (hid)
open Go.RowKit
open Go.Proofs.Tryz
theorem nmB_list(b:Int):(Opx.nmB b).data.toList=Opx.nm b:=by simp[Opx.nmB]
theorem nm_short(b:Int):(Opx.nm b).length<=20:=by
 unfold Opx.nm
 split
 ·
  rw[jm]
  rcases qm b.toNat Opx.tab.length with h|h
  ·
   rw[zb h]
   have:=List.all_eq_true.1 Opx.short _ (jf h)
   simpa using this
  ·rw[qt h];simp
 ·simp
theorem nmB_size(b:Int):(Opx.nmB b).size<=20:=by
 rw[Lib.size_eq,nmB_list];exact nm_short b
theorem ty_cases(n:List UInt8):Opx.ty n=1\/Opx.ty n=2:=by unfold Opx.ty;split<;>simp
theorem typeOf_nm(b:Int)(w:World):Calls prog 295 #[.string (Opx.nmB b)] w λe w'=>e=.returned (.int .i64 (Opx.ty (Opx.nm b)))/\w=w':=by
 have:=typeOf_any (Opx.nmB b) w
 rwa[nmB_list]at this
theorem argType_any(b:Int)(w:World):
  Calls prog 297 #[.int .i64 b,.string (Opx.nmB b)] w λe w'=>e=.returned (.int .i64 (Opx.argTy b))/\w=w':=by
 have HT:=hid (λw=>typeOf_nm b w)
 have hc:=ty_cases (Opx.nm b)
 by_cases c:b<167
 ·
  have e:Opx.argTy b=Opx.ty (Opx.nm b):=by simp[Opx.argTy,c]
  rw[e]
  have t:decide (b<167)=true:=by simpa using c
  clear e hc c
  go_enter func297,ntmps297
  go_wp2_with(go_at_call 295;refine(HT.out _).mono ?_;rintro e w' ⟨rfl,rfl⟩)
  go_ret
  exact⟨rfl,rfl⟩
 ·
  have e:Opx.argTy b=3-Opx.ty (Opx.nm b):=by simp[Opx.argTy,c]
  rw[e]
  have t:decide (b<167)=false:=by simpa using c
  obtain⟨y,hy⟩:∃y,y=Opx.ty (Opx.nm b):=⟨_,rfl⟩
  rw[<-hy]at hc HT⊢
  clear e c hy
  rcases hc with rfl|rfl
  all_goals
   go_enter func297,ntmps297
   go_wp2_with(go_at_call 295;refine(HT.out _).mono ?_;rintro e w' ⟨rfl,rfl⟩)
   go_ret
   exact⟨rfl,rfl⟩
theorem gives_any(b:Int)(w:World):
  Calls prog 289 #[.int .i64 b,.int .i64 (Opx.kd b),.string (Opx.nmB b)] w λe w'=>e=.returned (.int .i64 (Opx.gv b))/\w=w':=by
 have HT:=hid (λw=>typeOf_nm b w)
 by_cases c:Opx.kd b=7\/Opx.kd b=10
 ·
  have e:Opx.gv b=Opx.ty (Opx.nm b):=by simp[Opx.gv,c]
  rw[e]
  clear e
  rcases c with c|c
  all_goals
   rw[c]
   clear c
   go_enter func289,ntmps289
   go_wp2_with(go_at_call 295;refine(HT.out _).mono ?_;rintro e w' ⟨rfl,rfl⟩)
   go_ret
   exact⟨rfl,rfl⟩
 by_cases c9:Opx.kd b=9
 ·
  have e:Opx.gv b=1:=by simp[Opx.gv,c9]
  rw[e,c9]
  clear e c9 c HT
  go_enter func289,ntmps289
  go_wp2
  go_ret
  exact⟨rfl,rfl⟩
 by_cases c11:Opx.kd b=11
 ·
  by_cases c90:b<=90
  ·
   have e:Opx.gv b=1:=by simp[Opx.gv,c11,c90]
   rw[e,c11]
   have t:decide (b<=90)=true:=by simpa using c90
   clear e c9 c HT c11 c90
   go_enter func289,ntmps289
   go_wp2
   go_ret
   exact⟨rfl,rfl⟩
  ·
   have e:Opx.gv b=Opx.ty (Opx.nm b):=by simp[Opx.gv,c11,c90]
   rw[e,c11]
   have t:decide (b<=90)=false:=by simpa using c90
   clear e c9 c c11 c90
   go_enter func289,ntmps289
   go_wp2_with(go_at_call 295;refine(HT.out _).mono ?_;rintro e w' ⟨rfl,rfl⟩)
   go_ret
   exact⟨rfl,rfl⟩
 have e:Opx.gv b=0:=by simp[Opx.gv,c,c9,c11]
 rw[e]
 obtain⟨k,hk⟩:∃k,k=Opx.kd b:=⟨_,rfl⟩
 rw[<-hk]at c c9 c11⊢
 have t1:(k==7)=false:=by simp;omega
 have t2:(k==10)=false:=by simp;omega
 have t3:(k==9)=false:=by simp;omega
 have t4:(k==11)=false:=by simp;omega
 clear e hk c c9 c11 HT
 go_enter func289,ntmps289
 go_wp2
 go_ret
 exact⟨rfl,rfl⟩
theorem access_any(b:Int)(w:World)(hN:Nam w):
  Calls prog 290 #[.string (Opx.nmB b)] w λe w'=>e=.returned (.int .i64 (Opx.acc (Opx.nm b)))/\∃n,w'=w.drewN n:=by
 obtain⟨m,hm⟩:=hN.some_
 have hsz:=nmB_size b
 have HC:=hid (Tryz.strings_Cut (Opx.nmB b) ⟨#[46]⟩ m w (by omega) hm)
 rw[nmB_list]at HC
 obtain⟨wh,hwh⟩:∃wh,wh=(Lib.cut (Opx.nm b) [46]).2.1:=⟨_,rfl⟩
 have hl:wh.length<=20:=by
  have:=nm_short b
  rw[hwh]
  unfold Lib.cut
  split<;>simp<;>omega
 have hs2:(⟨wh.toArray⟩:ByteArray).size<4294967281:=by rw[Lib.size_eq];simp;omega
 have HB:∀(sub:List UInt8) (n:Nat),Calls prog 299 #[.string ⟨wh.toArray⟩,.string ⟨sub.toArray⟩] (w.drewN n) λe w'=>e=.returned (.bool (Lib.contains wh sub))/\w'=w.drewN n:=λsub n=>by
  have:=Tryz.strings_Contains ⟨wh.toArray⟩ ⟨sub.toArray⟩ m (w.drewN n) hs2 hm
  simpa using this
 have H8:=hid (λn=>HB [56] n)
 have H16:=hid (λn=>HB [49,54] n)
 have H32:=hid (λn=>HB [51,50] n)
 have HT:=hid (λw=>typeOf_nm b w)
 have HY:Hid (Opx.ty (Opx.nm b)=1\/Opx.ty (Opx.nm b)=2):=hid (ty_cases (Opx.nm b))
 have HA:Hid (Opx.acc (Opx.nm b)=if Lib.contains wh [56]then 1 else if Lib.contains wh [49,54]then 2 else if Lib.contains wh [51,50]then 4 else if Opx.ty (Opx.nm b)=1 then 4 else 8):=hid (by simp[Opx.acc,hwh])
 clear HB hs2 hl hsz hm hN
 obtain⟨x1,hx1⟩:∃x,x=(Lib.cut (Opx.nm b) [46]).1:=⟨_,rfl⟩
 obtain⟨x3,hx3⟩:∃x,x=(Lib.cut (Opx.nm b) [46]).2.2:=⟨_,rfl⟩
 rw[<-hwh,<-hx1,<-hx3]at HC
 clear hwh hx1 hx3
 by_cases c8:Lib.contains wh [56]=true
 ·
  have e:Opx.acc (Opx.nm b)=1:=by rw[HA.out];simp[c8]
  rw[e]
  rw[c8]at H8
  clear e HA HY H16 H32 HT c8
  go_enter func290,ntmps290
  go_wp2_with(first
   |(go_at_call 298;refine HC.out.mono ?_;rintro e w' ⟨rfl,n,rfl⟩)
   |(go_at_call 299;refine(H8.out _).mono ?_;rintro e w' ⟨rfl,rfl⟩))
  go_ret
  exact⟨rfl,_,rfl⟩
 have c8':Lib.contains wh [56]=false:=by simpa using c8
 rw[c8']at H8
 by_cases c16:Lib.contains wh [49,54]=true
 ·
  have e:Opx.acc (Opx.nm b)=2:=by rw[HA.out];simp[c8',c16]
  rw[e]
  rw[c16]at H16
  clear e HA HY H32 c8 c8' c16
  go_enter func290,ntmps290
  go_wp2_with(first
   |(go_at_call 298;refine HC.out.mono ?_;rintro e w' ⟨rfl,n,rfl⟩)
   |(go_at_call 299;(first|with_reducible refine(H8.out _).mono ?_|with_reducible refine(H16.out _).mono ?_);rintro e w' ⟨rfl,rfl⟩)
   |(go_at_call 295;refine(HT.out _).mono ?_;rintro e w' ⟨rfl,rfl⟩))
  go_ret
  exact⟨rfl,_,rfl⟩
 have c16':Lib.contains wh [49,54]=false:=by simpa using c16
 rw[c16']at H16
 by_cases c32:Lib.contains wh [51,50]=true
 ·
  have e:Opx.acc (Opx.nm b)=4:=by rw[HA.out];simp[c8',c16',c32]
  rw[e]
  rw[c32]at H32
  clear e HA HY c8 c8' c16 c16' c32
  go_enter func290,ntmps290
  go_wp2_with(first
   |(go_at_call 298;refine HC.out.mono ?_;rintro e w' ⟨rfl,n,rfl⟩)
   |(go_at_call 299;(first|with_reducible refine(H8.out _).mono ?_|with_reducible refine(H16.out _).mono ?_|with_reducible refine(H32.out _).mono ?_);rintro e w' ⟨rfl,rfl⟩)
   |(go_at_call 295;refine(HT.out _).mono ?_;rintro e w' ⟨rfl,rfl⟩))
  go_ret
  exact⟨rfl,_,rfl⟩
 have c32':Lib.contains wh [51,50]=false:=by simpa using c32
 rw[c32']at H32
 rcases HY.out with y|y
 ·
  have e:Opx.acc (Opx.nm b)=4:=by rw[HA.out];simp[c8',c16',c32',y]
  rw[e]
  rw[y]at HT
  clear e HA HY c8 c8' c16 c16' c32 c32' y
  go_enter func290,ntmps290
  go_wp2_with(first
   |(go_at_call 298;refine HC.out.mono ?_;rintro e w' ⟨rfl,n,rfl⟩)
   |(go_at_call 299;(first|with_reducible refine(H8.out _).mono ?_|with_reducible refine(H16.out _).mono ?_|with_reducible refine(H32.out _).mono ?_);rintro e w' ⟨rfl,rfl⟩)
   |(go_at_call 295;refine(HT.out _).mono ?_;rintro e w' ⟨rfl,rfl⟩))
  go_ret
  exact⟨rfl,_,rfl⟩
 ·
  have e:Opx.acc (Opx.nm b)=8:=by rw[HA.out];simp[c8',c16',c32',y]
  rw[e]
  rw[y]at HT
  clear e HA HY c8 c8' c16 c16' c32 c32' y
  go_enter func290,ntmps290
  go_wp2_with(first
   |(go_at_call 298;refine HC.out.mono ?_;rintro e w' ⟨rfl,n,rfl⟩)
   |(go_at_call 299;(first|with_reducible refine(H8.out _).mono ?_|with_reducible refine(H16.out _).mono ?_|with_reducible refine(H32.out _).mono ?_);rintro e w' ⟨rfl,rfl⟩)
   |(go_at_call 295;refine(HT.out _).mono ?_;rintro e w' ⟨rfl,rfl⟩))
  go_ret
  exact⟨rfl,_,rfl⟩
def i64s(zs:List Int):List Value:=zs.map (Value.int .i64)
@[simp] theorem i64s_length(zs:List Int):(i64s zs).length=zs.length:=by simp[i64s]
theorem Mul_lit(n:Nat)(w:World)(hn:n<3):Calls prog 254 #[.int .u64 1,.int .u64 (n:Int)] w λe w'=>e=.returned (.tuple #[.int .u64 0,.int .u64 (n:Int)])/\w'=w:=by
 have:=Tryz.bits_Mul 1 n (by decide) (by omega) w
 have e1:1 * n / 18446744073709551616=0:=by omega
 have e2:1 * n%18446744073709551616=n:=by omega
 rw[e1,e2]at this
 exact this
theorem mk1(w:World):(Instr.makeSlice 52 (.int .i64 1) (.int .i64 1)).run prog w=.ok (.slice (some ⟨w.heap.size,0,none⟩) 1 1) (w.alloc (.cells #[.int .i64 0] 3)):=by kernel_rfl
theorem mk2(w:World):(Instr.makeSlice 52 (.int .i64 2) (.int .i64 2)).run prog w=.ok (.slice (some ⟨w.heap.size,0,none⟩) 2 2) (w.alloc (.cells #[.int .i64 0,.int .i64 0] 3)):=by kernel_rfl
theorem int_one:(prog.info? 3).map (·.size)=some 1:=by kernel_rfl
theorem cp1(w:World)(g:Nat)(t:Int)(hg:g<w.heap.size)(hc:w.cell? ⟨g,0,none⟩=some (.int .i64 t)):
  (Builtin.copy_ #[52,52] 3 #[.slice (some ⟨w.heap.size,0,none⟩) 1 1,.slice (some ⟨g,0,none⟩) 1 1]).run prog (w.alloc (.cells #[.int .i64 0] 3))=.ok (.int .i64 1) (w.alloc (.cells #[.int .i64 t] 3)):=by
 have h:=run_copy_cells (P:=prog) (w.alloc (.cells #[.int .i64 0] 3)) 52 52 3 3 w.heap.size 0 1 1 ⟨g,0,none⟩ 1 1 [.int .i64 t] underlying52 int_one rfl
  (by intro j v hj;match j,hj with|0,hj=>simp at hj;subst hj;rw[show(⟨g,0,none⟩:Addr).add 0=⟨g,0,none⟩by rfl,jq _ _ _ hg,hc]|j+1,hj=>simp at hj)
  (by intro j hj;simp at hj;subst hj;rw[zv _ _ _ _ rfl];rfl)
  (by intro j hj;rw[zw _ _ _ _ rfl]) (by intro v hv;simp at hv;subst hv;rfl)
 rw[h]
 simp only[World.setCells]
 rw[World.setCell_alloc_at _ _ _ _ _ rfl]
 rfl
theorem cp2(w:World)(g:Nat)(t:Int)(hg:g<w.heap.size)(hc:w.cell? ⟨g,0,none⟩=some (.int .i64 t)):
  (Builtin.copy_ #[52,52] 3 #[.slice (some ⟨w.heap.size,0,none⟩) 2 2,.slice (some ⟨g,0,none⟩) 1 1]).run prog (w.alloc (.cells #[.int .i64 0,.int .i64 0] 3))=.ok (.int .i64 1) (w.alloc (.cells #[.int .i64 t,.int .i64 0] 3)):=by
 have h:=run_copy_cells (P:=prog) (w.alloc (.cells #[.int .i64 0,.int .i64 0] 3)) 52 52 3 3 w.heap.size 0 2 2 ⟨g,0,none⟩ 1 1 [.int .i64 t] underlying52 int_one rfl
  (by intro j v hj;match j,hj with|0,hj=>simp at hj;subst hj;rw[show(⟨g,0,none⟩:Addr).add 0=⟨g,0,none⟩by rfl,jq _ _ _ hg,hc]|j+1,hj=>simp at hj)
  (by intro j hj;simp at hj;subst hj;rw[zv _ _ _ _ rfl];rfl)
  (by intro j hj;rw[zw _ _ _ _ rfl]) (by intro v hv;simp at hv;subst hv;rfl)
 rw[h]
 simp only[World.setCells]
 rw[World.setCell_alloc_at _ _ _ _ _ rfl]
 rfl
theorem cp3(w:World)(t:Int):
  (Builtin.copy_ #[52,52] 3 #[.slice (some ⟨w.heap.size,1,none⟩) 1 1,.slice (some ⟨w.heap.size,0,none⟩) 1 2]).run prog (w.alloc (.cells #[.int .i64 t,.int .i64 0] 3))=.ok (.int .i64 1) (w.alloc (.cells #[.int .i64 t,.int .i64 t] 3)):=by
 have h:=run_copy_cells (P:=prog) (w.alloc (.cells #[.int .i64 t,.int .i64 0] 3)) 52 52 3 3 w.heap.size 1 1 1 ⟨w.heap.size,0,none⟩ 1 2 [.int .i64 t] underlying52 int_one rfl
  (by intro j v hj;match j,hj with|0,hj=>simp at hj;subst hj;rw[show(⟨w.heap.size,0,none⟩:Addr).add 0=⟨w.heap.size,0,none⟩by rfl,zv _ _ _ _ rfl];rfl|j+1,hj=>simp at hj)
  (by intro j hj;simp at hj;subst hj;rw[zv _ _ _ _ rfl];rfl)
  (by intro j hj;rw[zw _ _ _ _ rfl]) (by intro v hv;simp at hv;subst hv;rfl)
 rw[h]
 simp only[World.setCells]
 rw[World.setCell_alloc_at _ _ _ _ _ rfl]
 rfl
theorem Repeat_one(t:Int)(g:Nat)(w:World)(hg:g<w.heap.size)(hc:w.cell? ⟨g,0,none⟩=some (.int .i64 t)):
  Calls prog 240 #[.slice (some ⟨g,0,none⟩) 1 1,.int .i64 1] w λe w'=>∃v,e=.returned v/\Own w.heap.size w w' 3 v (i64s [t]):=by
 have HM:=hid (λw=>Mul_lit 1 w (by decide))
 have hmk:=mk1
 have hcp:=cp1 w g t hg hc
 have HO:=hid (Own.lit w #[.int .i64 t] 3 (by unfold maxLen;simp))
 clear hc hg
 go_enter func240,ntmps240
 go_wp2_with(go_at_call 254;refine(HM.out _).mono ?_;rintro e w' ⟨rfl,hw⟩;subst hw)
 refine wp_loop_rounds 1 ?_
 rw[rounds_succ]
 go_wp2
 go_ret
 exact⟨_,rfl,HO.out⟩
theorem Repeat_two(t:Int)(g:Nat)(w:World)(hg:g<w.heap.size)(hc:w.cell? ⟨g,0,none⟩=some (.int .i64 t)):
  Calls prog 240 #[.slice (some ⟨g,0,none⟩) 1 1,.int .i64 2] w λe w'=>∃v,e=.returned v/\Own w.heap.size w w' 3 v (i64s [t,t]):=by
 have HM:=hid (λw=>Mul_lit 2 w (by decide))
 have hmk:=mk2
 have hcp:=cp2 w g t hg hc
 have hcq:(Builtin.copy_ #[52,52] 3 #[.slice (some ⟨w.heap.size,1,none⟩) 1 1,.slice (some ⟨w.heap.size,0,none⟩) 1 2]).run prog (w.alloc (.cells #[.int .i64 t,.int .i64 0] 3)).drew=.ok (.int .i64 1) (w.alloc (.cells #[.int .i64 t,.int .i64 t] 3)).drew:=cp3 w.drew t
 have HO:=hid (Own.lit w #[.int .i64 t,.int .i64 t] 3 (by unfold maxLen;simp))
 clear hc hg
 go_enter func240,ntmps240
 go_wp2_with(go_at_call 254;refine(HM.out _).mono ?_;rintro e w' ⟨rfl,hw⟩;subst hw)
 refine wp_loop_rounds 2 ?_
 rw[rounds_succ]
 go_wp2
 go_region
 go_wp2
 rw[rounds_succ]
 go_wp2
 go_ret
 exact⟨_,rfl,HO.out.drewN 1⟩
def IsOp(b:Int):Prop:=∃j:Nat,b=j/\j<174/\Opx.nm b≠[]
theorem isOp_many(b:Int)(h:IsOp b)(hk:Opx.kd b=11):Num.many b=1\/Num.many b=2:=by
 obtain⟨j,rfl,hj,hn⟩:=h
 have:=List.all_eq_true.1 Opx.num_many j (by simpa using hj)
 simp[hk,hn]at this
 exact this
theorem takes_any(b:Int)(w:World)(h:IsOp b):
  Calls prog 288 #[.int .i64 b,.int .i64 (Opx.kd b),.string (Opx.nmB b)] w λe w'=>∃v,e=.returned v/\Own w.heap.size w w' 3 v (i64s (Opx.tk b)):=by
 have h0:0<=b/\b<174:=by obtain⟨j,rfl,hj,_⟩:=h;omega
 by_cases c7:Opx.kd b=7
 ·
  have e:Opx.tk b=[1]:=by simp[Opx.tk,c7]
  rw[e,c7]
  have HO:=hid (Own.lit w #[.int .i64 1] 3 (by unfold maxLen;simp))
  clear e c7 h h0
  go_enter func288,ntmps288
  go_wp2
  go_ret
  exact⟨_,rfl,HO.out⟩
 by_cases c8:Opx.kd b=8
 ·
  have e:Opx.tk b=[1,Opx.ty (Opx.nm b)]:=by simp[Opx.tk,c8]
  rw[e,c8]
  have HT:=hid (typeOf_nm b w)
  have HO:=hid (Own.lit w #[.int .i64 1,.int .i64 (Opx.ty (Opx.nm b))] 3 (by unfold maxLen;simp))
  clear e c7 c8 h h0
  go_enter func288,ntmps288
  go_wp2_with(go_at_call 295;refine HT.out.mono ?_;rintro e w' ⟨rfl,rfl⟩)
  go_ret
  exact⟨_,rfl,HO.out⟩
 by_cases c11:Opx.kd b=11
 ·
  have hm:=isOp_many b h c11
  have HA:=hid (Args_any b w (by omega) (by omega))
  have HG:=hid (argType_any b w)
  rw[c11]
  obtain⟨t,ht⟩:∃t,t=Opx.argTy b:=⟨_,rfl⟩
  rw[<-ht]at HG
  have hcell:(w.alloc (.cells #[.int .i64 t] 3)).cell? ⟨w.heap.size,0,none⟩=some (.int .i64 t):=by rw[zv _ _ _ _ rfl];rfl
  have hlt:w.heap.size<(w.alloc (.cells #[.int .i64 t] 3)).heap.size:=by simp
  have HB:Hid (∀(v:Value) (w':World) (zs:List Value),Own (w.alloc (.cells #[.int .i64 t] 3)).heap.size (w.alloc (.cells #[.int .i64 t] 3)) w' 3 v zs->Own w.heap.size w w' 3 v zs):=hid (λv w' zs ho=>by
   refine⟨?_,?_,zy (xh hlt) ho.le⟩
   ·
    refine⟨ho.row.1,?_⟩
    rcases ho.row.2 with hx|⟨g,cap,cur,h1,h2,h3⟩
    ·exact .inl hx
    ·exact .inr ⟨g,cap,cur,h1,by omega,h3⟩
   ·exact((zx w.heap.size w).alloc (zq _) _).trans (ho.below.mono (xh hlt)))
  rcases hm with hm|hm
  ·
   have e:Opx.tk b=[t]:=by
    have:Opx.many b=1:=hm
    simp[Opx.tk,c11,this,ht]
   rw[e]
   have HR:=hid (Repeat_one t w.heap.size _ hlt hcell)
   simp only[argsR,hm]at HA
   clear e c7 c8 h h0 c11 hm ht hcell hlt
   go_enter func288,ntmps288
   go_wp2_with(first
    |(go_at_call 296;refine HA.out.mono ?_;rintro e w' ⟨rfl,rfl⟩)
    |(go_at_call 297;refine HG.out.mono ?_;rintro e w' ⟨rfl,rfl⟩)
    |(go_at_call 240;refine HR.out.mono ?_;rintro e w' ⟨v,rfl,ho⟩))
   go_ret
   exact⟨_,rfl,HB.out _ _ _ ho⟩
  ·
   have e:Opx.tk b=[t,t]:=by
    have:Opx.many b=2:=hm
    simp[Opx.tk,c11,this,ht]
   rw[e]
   have HR:=hid (Repeat_two t w.heap.size _ hlt hcell)
   simp only[argsR,hm]at HA
   clear e c7 c8 h h0 c11 hm ht hcell hlt
   go_enter func288,ntmps288
   go_wp2_with(first
    |(go_at_call 296;refine HA.out.mono ?_;rintro e w' ⟨rfl,rfl⟩)
    |(go_at_call 297;refine HG.out.mono ?_;rintro e w' ⟨rfl,rfl⟩)
    |(go_at_call 240;refine HR.out.mono ?_;rintro e w' ⟨v,rfl,ho⟩))
   go_ret
   exact⟨_,rfl,HB.out _ _ _ ho⟩
 obtain⟨k,hk⟩:∃k,k=Opx.kd b:=⟨_,rfl⟩
 rw[<-hk]at c7 c8 c11⊢
 have t1:(k==7)=false:=by simp;omega
 have t2:(k==8)=false:=by simp;omega
 have t3:(k==11)=false:=by simp;omega
 by_cases c:b=4\/b=13\/b=14\/b=17\/b=27\/b=64
 ·
  have e:Opx.tk b=[1]:=by simp[Opx.tk,<-hk,c7,c8,c11,c]
  rw[e]
  have HO:=hid (Own.lit w #[.int .i64 1] 3 (by unfold maxLen;simp))
  clear e c7 c8 c11 h h0 hk
  rcases c with rfl|rfl|rfl|rfl|rfl|rfl
  all_goals
   go_enter func288,ntmps288
   go_wp2
   go_ret
   exact⟨_,rfl,HO.out⟩
 have e:Opx.tk b=[]:=by simp[Opx.tk,<-hk,c7,c8,c11,c]
 rw[e]
 have HO:=hid (Own.nil_ (B:=w.heap.size) w w 3 (zx _ _) (zq _))
 have s1:(b==4)=false:=by simp;omega
 have s2:(b==13)=false:=by simp;omega
 have s3:(b==14)=false:=by simp;omega
 have s4:(b==17)=false:=by simp;omega
 have s5:(b==27)=false:=by simp;omega
 have s6:(b==64)=false:=by simp;omega
 clear e c7 c8 c11 h h0 hk c
 go_enter func288,ntmps288
 go_wp2
 go_ret
 exact⟨_,rfl,HO.out⟩
section
variable{n B:Nat}{w00 w0 w w':World}{e:TypeId}{v:Value}{xs:List Value}
structure Kep(n:Nat)(w00 w:World)(e:TypeId)(v:Value)(xs:List Value):Prop where
 row:w.ownsRow (n+1) e 1 v xs.length xs
 below:Below n w00 w
 le:n+1<=w.heap.size
theorem row_other{m:Nat}(h:w.ownsRow (n+1) e 1 v m xs)(hk:∀g,n+1<=g->g<w.heap.size->w'.heap[g]? =w.heap[g]?):w'.ownsRow (n+1) e 1 v m xs:=by
 refine⟨h.1,?_⟩
 rcases h.2 with hx|⟨g,cap,cur,h1,h2,h3,h4⟩
 ·exact .inl hx
 ·
  refine .inr ⟨g,cap,cur,h1,h2,?_,h4⟩
  have hlt:g<w.heap.size:=by
   rcases qm g w.heap.size with h5|h5
   ·exact h5
   ·rw[qi h5]at h3;cases h3
  rw[hk g h2 hlt];exact h3
theorem Kep.setCell(h:Kep n w00 w e v xs)(i:Nat)(u:Value):Kep n w00 (w.setCell ⟨n,i,none⟩ u) e v xs:=
 ⟨row_other h.row λg h1 _=>qa _ _ _ _ (by simp;omega),h.below.setCell (zq _) u,by have:=h.le;simpa[World.setCell]using this⟩
theorem Kep.alloc(h:Kep n w00 w e v xs)(o:Obj):Kep n w00 (w.alloc o) e v xs:=
 ⟨row_other h.row λg _ h2=>Below.heap_alloc _ _ _ h2,h.below.alloc (by have:=h.le;omega) o,by have:=h.le;simp;omega⟩
theorem Kep.drewN(h:Kep n w00 w e v xs)(k:Nat):Kep n w00 (w.drewN k) e v xs:=⟨h.row,⟨h.below.os,h.below.tape,h.below.output,h.below.size,h.below.block⟩,h.le⟩
theorem Kep.two(h:Kep n w00 w e v xs)(o:Obj)(q i j:Nat)(a b:Value):Kep n w00 ((((w.alloc o).drewN q).setCell ⟨w.heap.size,i,none⟩ a).setCell ⟨w.heap.size,j,none⟩ b) e v xs:=by
 have hl:=h.le
 refine⟨row_other h.row λg _ h2=>?_,(((h.alloc o).drewN q).below.setCell (by simp;omega) a).setCell (by simp;omega) b,by simp[World.setCell];omega⟩
 rw[qa _ _ _ _ (by simp;omega),qa _ _ _ _ (by simp;omega)]
 exact Below.heap_alloc _ _ _ h2
theorem Kep.own(h:Kep n w00 w e v xs):Own n w00 w e v xs:=by
 refine⟨⟨h.row.1,?_⟩,h.below,by have:=h.le;omega⟩
 rcases h.row.2 with hx|⟨g,cap,cur,h1,h2,h3⟩
 ·exact .inl hx
 ·exact .inr ⟨g,cap,cur,h1,by omega,h3⟩
theorem seven{a0 a1 a2 a3 a4 a5 a6:Value}{t:TypeId}(h:Below (w0.alloc (.cells #[a0,a1,a2,a3,a4,a5,a6] t)).heap.size (w0.alloc (.cells #[a0,a1,a2,a3,a4,a5,a6] t)) w):
  (w0.heap.size<w.heap.size)/\(w.cell? ⟨w0.heap.size,0,none⟩=some a0)/\(w.cell? ⟨w0.heap.size,1,none⟩=some a1)/\(w.cell? ⟨w0.heap.size,2,none⟩=some a2)/\(w.cell? ⟨w0.heap.size,3,none⟩=some a3)/\
  (w.cell? ⟨w0.heap.size,4,none⟩=some a4)/\(w.cell? ⟨w0.heap.size,5,none⟩=some a5)/\(w.cell? ⟨w0.heap.size,6,none⟩=some a6)/\(∀i,w.frozen? ⟨w0.heap.size,i,none⟩=false):=by
 have hc:∀i,w.cell? ⟨w0.heap.size,i,none⟩=(#[a0,a1,a2,a3,a4,a5,a6]:Array Value)[i]?:=λi=>(h.cell (p:=⟨w0.heap.size,i,none⟩) (by simp)).trans (zv _ _ _ _ rfl)
 exact⟨by have:=h.size;simp at this;omega,hc 0,hc 1,hc 2,hc 3,hc 4,hc 5,hc 6,λi=>(h.frozen (p:=⟨w0.heap.size,i,none⟩) (by simp)).trans (zw _ _ _ _ rfl)⟩
theorem Own.kep{o:Obj}(h:Own (w0.alloc o).heap.size (w0.alloc o) w e v xs):Kep w0.heap.size w0 w e v xs:=
 ⟨by simpa using h.row,((zx _ _).alloc (zq _) o).trans (h.below.mono (by simp)),by have:=h.le;simpa using this⟩
theorem Nam.below(h:Nam w)(hb:Below w.heap.size w w'):Nam w':=by
 obtain⟨m,hm⟩:=h.some_
 exact⟨λj hj=>(hb.cell (p:=⟨_,j,none⟩) (zn _ _ (h.names j hj))).trans (h.names j hj),
  λj hj=>(hb.cell (p:=⟨_,j,none⟩) (zn _ _ (h.numbers j hj))).trans (h.numbers j hj),
  m,(hb.cell (p:=⟨_,0,none⟩) (zn _ _ hm)).trans hm⟩
theorem Nam.alloc(h:Nam w)(o:Obj):Nam (w.alloc o):=h.below ((zx _ _).alloc (zq _) o)
end
def opV(b:Int)(v:Value):Value:=.agg #[.int .i64 b,.string (Opx.nmB b),.int .i64 (Opx.kd b),v,.int .i64 (Opx.gv b),.int .i64 (Opx.by_ b),.bool (Opx.sn b)]
def noV:Value:=.agg #[.int .i64 0,.string ⟨#[]⟩,.int .i64 0,.slice none 0 0,.int .i64 0,.int .i64 0,.bool false]
theorem whole_any(b:Int)(w:World)(h:IsOp b)(hN:Nam w):
  Calls prog 273 #[.int .i64 b] w λe w'=>∃v,e=.returned (opV b v)/\Own w.heap.size w w' 3 v (i64s (Opx.tk b)):=by
 have h0:0<=b/\b<174:=by obtain⟨j,rfl,hj,_⟩:=h;omega
 have HN:=hid (λo=>nameOf_any b (w.alloc o) (hN.alloc o) (by omega) (by omega))
 have HK:=hid (λw=>kindOf_any b w)
 have HT:=hid (λo=>takes_any b (w.alloc o) h)
 have HG:=hid (λw=>gives_any b w)
 by_cases c:Opx.kd b=7\/Opx.kd b=8
 ·
  have e1:Opx.by_ b=Opx.acc (Opx.nm b):=by simp[Opx.by_,c]
  have e2:Opx.sn b=Lib.hasSuffix (Opx.nm b) [95,115]:=by simp[Opx.sn,c]
  unfold opV
  rw[e1,e2]
  have hsz:=nmB_size b
  have HS:=hid (λw=>Tryz.strings_HasSuffix (Opx.nmB b) ⟨#[95,115]⟩ w (by omega))
  simp only[nmB_list]at HS
  have HA:Hid (∀w2 o,Below w.heap.size w w2->w.heap.size<=w2.heap.size->Calls prog 290 #[.string (Opx.nmB b)] (w2.alloc o) λe w'=>e=.returned (.int .i64 (Opx.acc (Opx.nm b)))/\∃n,w'=(w2.alloc o).drewN n):=
   hid (λw2 o hb hl=>access_any b (w2.alloc o) (hN.below (hb.alloc hl o)))
  obtain⟨k,hk⟩:∃k,k=Opx.kd b:=⟨_,rfl⟩
  rw[<-hk]at c HK HT HG⊢
  clear e1 e2 h0 h hN hsz hk
  rcases c with rfl|rfl
  all_goals
   go_enter func273,ntmps273
   go_wp2_with(first
    |(go_at_call 272;refine(HN.out _).mono ?_;rintro e w' ⟨rfl,rfl⟩)
    |(go_at_call 287;refine(HK.out _).mono ?_;rintro e w' ⟨rfl,rfl⟩)
    |(go_at_call 288;refine(HT.out _).mono ?_;rintro e w' ⟨v,rfl,ho⟩;obtain⟨A,c,rfl,-,-,-⟩:=ho.form;obtain⟨hlt,k0,k1,k2,k3,k4,k5,k6,kf⟩:=seven ho.below;have hk:=hid ho.kep;simp only[i64s_length]at hk⊢;clear ho)
    |(go_at_call 289;refine(HG.out _).mono ?_;rintro e w' ⟨rfl,rfl⟩)
    |(go_at_call 290;refine(HA.out _ _ hk.out.below (xh hlt)).mono ?_;rintro e w' ⟨rfl,q,rfl⟩)
    |(go_at_call 291;refine(HS.out _).mono ?_;rintro e w' ⟨rfl,rfl⟩))
   refine bodyPost_ret (v:=.agg #[.int .i64 b,.string (Opx.nmB b),.int .i64 _,.slice A (Opx.tk b).length c,.int .i64 (Opx.gv b),.int .i64 (Opx.acc (Opx.nm b)),.bool (Lib.hasSuffix (Opx.nm b) [95,115])]) (by simp[results,results273,go_sem,k0,k1,k2,k3,k4,k5,k6,hlt];rfl) rfl ?_
   exact⟨_,rfl,((((((((hk.out.two _ q _ _ _ _).setCell 0 _).setCell 1 _).setCell 2 _).setCell 3 _).setCell 4 _).setCell 5 _).setCell 6 _).own⟩
 ·
  have e1:Opx.by_ b=0:=by simp[Opx.by_,c]
  have e2:Opx.sn b=false:=by simp[Opx.sn,c]
  unfold opV
  rw[e1,e2]
  have t1:(Opx.kd b==7)=false:=by simp;omega
  have t2:(Opx.kd b==8)=false:=by simp;omega
  clear e1 e2 c h0 h hN
  go_enter func273,ntmps273
  go_wp2_with(first
   |(go_at_call 272;refine(HN.out _).mono ?_;rintro e w' ⟨rfl,rfl⟩)
   |(go_at_call 287;refine(HK.out _).mono ?_;rintro e w' ⟨rfl,rfl⟩)
   |(go_at_call 288;refine(HT.out _).mono ?_;rintro e w' ⟨v,rfl,ho⟩;obtain⟨A,c,rfl,-,-,-⟩:=ho.form;obtain⟨hlt,k0,k1,k2,k3,k4,k5,k6,kf⟩:=seven ho.below;have hk:=hid ho.kep;simp only[i64s_length]at hk⊢;clear ho)
   |(go_at_call 289;refine(HG.out _).mono ?_;rintro e w' ⟨rfl,rfl⟩))
  refine bodyPost_ret (v:=.agg #[.int .i64 b,.string (Opx.nmB b),.int .i64 (Opx.kd b),.slice A (Opx.tk b).length c,.int .i64 (Opx.gv b),.int .i64 0,.bool false]) (by simp[results,results273,go_sem,k0,k1,k2,k3,k4,k5,k6,hlt]) rfl ?_
  exact⟨_,rfl,((((((((hk.out.setCell 0 _).setCell 1 _).setCell 2 _).setCell 3 _).setCell 4 _).setCell 5 _).setCell 6 _).alloc _).own⟩
theorem nmB_empty(b:Int):(Opx.nmB b).toList.isEmpty=(Opx.nm b).isEmpty:=by
 rw[Lib.toList_data,nmB_list]
theorem Look_flt(b:Int)(w:World)(h:Opx.flt b=true):
  Calls prog 256 #[.int .i64 b] w λe w'=>e=.returned (.tuple #[noV,.iface 40 (.int .i64 3)])/\Below w.heap.size w w':=by
 have HF:=hid (λw=>isFloat_any b w)
 rw[h]at HF
 unfold noV
 go_enter func256,ntmps256
 go_wp2_with(go_at_call 271;refine(HF.out _).mono ?_;rintro e w' ⟨rfl,rfl⟩)
 refine bodyPost_ret (v:=.tuple #[noV,.iface 40 (.int .i64 3)]) (by simp[results,results256,go_sem,noV]) rfl ?_
 exact⟨rfl,(zx _ _).alloc (zq _) _⟩
theorem Look_none(b:Int)(w:World)(hN:Nam w)(h0: -9223372036854775808<=b)(h1:b<=9223372036854775807)(h:Opx.flt b=false)(hn:Opx.nm b=[]):
  Calls prog 256 #[.int .i64 b] w λe w'=>e=.returned (.tuple #[noV,.iface 40 (.int .i64 5)])/\Below w.heap.size w w':=by
 have HF:=hid (λw=>isFloat_any b w)
 rw[h]at HF
 have HN:=hid (λo=>nameOf_any b (w.alloc o) (hN.alloc o) h0 h1)
 have e:Opx.nmB b=⟨#[]⟩:=by simp[Opx.nmB,hn]
 rw[e]at HN
 unfold noV
 clear e hn h hN
 go_enter func256,ntmps256
 go_wp2_with(first
  |(go_at_call 271;refine(HF.out _).mono ?_;rintro e w' ⟨rfl,rfl⟩)
  |(go_at_call 272;refine(HN.out _).mono ?_;rintro e w' ⟨rfl,rfl⟩))
 refine bodyPost_ret (v:=.tuple #[noV,.iface 40 (.int .i64 5)]) (by simp[results,results256,go_sem,noV]) rfl ?_
 exact⟨rfl,(zx _ _).alloc (zq _) _⟩
theorem isOp_of(b:Int)(hn:Opx.nm b≠[]):IsOp b:=by
 have h0:0<=b:=by
  rcases Int.lt_or_le b 0 with h|h
  ·exact absurd (by simp[Opx.nm];omega) hn
  ·exact h
 obtain⟨j,rfl⟩:=xg h0
 refine⟨j,rfl,?_,hn⟩
 rcases qm j 174 with h|h
 ·exact h
 ·
  refine absurd ?_ hn
  simp only[Opx.nm,xn]
  rw[if_pos h0,jm,qt (by rw[show Opx.tab.length=174 by rfl];exact h)]
  rfl
theorem Look_op(b:Int)(w:World)(hN:Nam w)(hn:Opx.nm b≠[])(h:Opx.flt b=false):
  Calls prog 256 #[.int .i64 b] w λe w'=>∃A c,e=.returned (.tuple #[opV b (.slice A (Opx.tk b).length c),.nilIface])/\Own w.heap.size w w' 3 (.slice A (Opx.tk b).length c) (i64s (Opx.tk b)):=by
 have hop:=isOp_of b hn
 have h0:0<=b/\b<174:=by obtain⟨j,rfl,hj,_⟩:=hop;omega
 have HF:=hid (λw=>isFloat_any b w)
 rw[h]at HF
 have HN:=hid (λo=>nameOf_any b (w.alloc o) (hN.alloc o) (by omega) (by omega))
 have HW:=hid (λo=>whole_any b (w.alloc o) hop (hN.alloc o))
 have t:(Opx.nmB b).toList.isEmpty=false:=by rw[nmB_empty];cases hq:Opx.nm b<;>simp_all
 unfold opV at HW⊢
 clear hop h hn hN h0
 go_enter func256,ntmps256
 go_wp2_with(first
  |(go_at_call 271;refine(HF.out _).mono ?_;rintro e w' ⟨rfl,rfl⟩)
  |(go_at_call 272;refine(HN.out _).mono ?_;rintro e w' ⟨rfl,rfl⟩)
  |(go_at_call 273;refine(HW.out _).mono ?_;rintro e w' ⟨v,rfl,ho⟩;obtain⟨A,c,rfl,-,-,-⟩:=ho.form;obtain⟨hlt,k0,k1,k2,k3,k4,k5,k6,kf⟩:=seven ho.below;have hk:=hid ho.kep;simp only[i64s_length]at hk⊢;clear ho))
 refine bodyPost_ret (v:=.tuple #[.agg #[.int .i64 b,.string (Opx.nmB b),.int .i64 (Opx.kd b),.slice A (Opx.tk b).length c,.int .i64 (Opx.gv b),.int .i64 (Opx.by_ b),.bool (Opx.sn b)],.nilIface]) (by simp[results,results256,go_sem,k0,k1,k2,k3,k4,k5,k6,hlt]) rfl ?_
 exact⟨_,_,rfl,(((((((hk.out.setCell 0 _).setCell 1 _).setCell 2 _).setCell 3 _).setCell 4 _).setCell 5 _).setCell 6 _).own⟩
end Go.Proofs.YteoijlfipmaoeaaGreatDoor
namespace Go.Proofs.YteoijlfipmaoeaaGreatDoor
open Lib (hid)
open Go.RowKit Trx
open Go.Proofs.Tryz
theorem wr4'(n a b:Nat):wrap64 (wrap64 (n:Int)+wrap64 (wrap64 (1+wrap64 (a:Int))+wrap64 (b:Int)))=wrap64 ((n+1+a+b:Nat):Int):=by
 unfold wrap64;omega
theorem kd_two(b:Int):(Opx.kd b==2)=(decide (2<=b)&&decide (b<=4)):=by
 unfold Opx.kd
 rw[Bool.eq_iff_iff]
 simp
 (repeat' split)<;>omega
theorem nm_blk(b:Int)(h:isBlk b=true):Opx.nm b≠[]/\Opx.flt b=false:=by
 simp[isBlk]at h
 have:b=2\/b=3\/b=4:=by omega
 rcases this with rfl|rfl|rfl<;>decide
theorem isBlock_any(b:Int)(w:World)(hN:Nam w)(hb:inI b):
  Calls prog 244 #[.int .i64 b] w λe w'=>e=.returned (.bool (isBlk b))/\Below w.heap.size w w':=by
 unfold inI at hb
 by_cases hf:Opx.flt b=true
 ·
  have hnb:isBlk b=false:=by
   cases e:isBlk b with
   |false=>rfl
   |true=>rw[(nm_blk b e).2]at hf;cases hf
  rw[hnb]
  have HL:=hid (Look_flt b w hf)
  unfold noV at HL
  clear hnb hf hN
  go_enter func244,ntmps244
  go_wp2_with(go_at_call 256;refine HL.out.mono ?_;rintro e w' ⟨rfl,hb1⟩;have HB:=hid hb1;clear hb1)
  go_ret
  exact⟨rfl,HB.out.alloc HB.out.size _⟩
 ·
  have hf':Opx.flt b=false:=by simpa using hf
  by_cases hn:Opx.nm b=[]
  ·
   have hnb:isBlk b=false:=by
    cases e:isBlk b with
    |false=>rfl
    |true=>exact absurd hn (nm_blk b e).1
   rw[hnb]
   have HL:=hid (Look_none b w hN (by omega) (by omega) hf' hn)
   unfold noV at HL
   clear hnb hf hf' hn hN
   go_enter func244,ntmps244
   go_wp2_with(go_at_call 256;refine HL.out.mono ?_;rintro e w' ⟨rfl,hb1⟩;have HB:=hid hb1;clear hb1)
   go_ret
   exact⟨rfl,HB.out.alloc HB.out.size _⟩
  ·
   have HL:=hid (Look_op b w hN hn hf')
   unfold opV at HL
   unfold isBlk
   rw[<-kd_two b]
   clear hf hf' hn hN
   go_enter func244,ntmps244
   go_wp2_with(go_at_call 256;refine HL.out.mono ?_;rintro e w' ⟨A,c,rfl,ho⟩;have HB:=hid ho.below;have hl:=ho.le;clear ho)
   go_ret
   exact⟨rfl,HB.out.alloc hl _⟩
theorem nineB{w0 w:World}{a0 a1 a2 a3 a4 a5 a6 a7 a8:Value}{t:TypeId}(h:Below (w0.alloc (.cells #[a0,a1,a2,a3,a4,a5,a6,a7,a8] t)).heap.size (w0.alloc (.cells #[a0,a1,a2,a3,a4,a5,a6,a7,a8] t)) w):
  (w0.heap.size<w.heap.size)/\(w.cell? ⟨w0.heap.size,0,none⟩=some a0)/\(w.cell? ⟨w0.heap.size,1,none⟩=some a1)/\(w.cell? ⟨w0.heap.size,2,none⟩=some a2)/\(w.cell? ⟨w0.heap.size,3,none⟩=some a3)/\
  (w.cell? ⟨w0.heap.size,4,none⟩=some a4)/\(w.cell? ⟨w0.heap.size,5,none⟩=some a5)/\(w.cell? ⟨w0.heap.size,6,none⟩=some a6)/\(w.cell? ⟨w0.heap.size,7,none⟩=some a7)/\(w.cell? ⟨w0.heap.size,8,none⟩=some a8)/\
  (∀i,w.frozen? ⟨w0.heap.size,i,none⟩=false)/\Below w0.heap.size w0 w:=by
 have hc:∀i,w.cell? ⟨w0.heap.size,i,none⟩=(#[a0,a1,a2,a3,a4,a5,a6,a7,a8]:Array Value)[i]?:=λi=>(h.cell (p:=⟨w0.heap.size,i,none⟩) (by simp)).trans (zv _ _ _ _ rfl)
 exact⟨by have:=h.size;simp at this;omega,hc 0,hc 1,hc 2,hc 3,hc 4,hc 5,hc 6,hc 7,hc 8,λi=>(h.frozen (p:=⟨w0.heap.size,i,none⟩) (by simp)).trans (zw _ _ _ _ rfl),
  ((zx _ _).alloc (zq _) _).trans (h.mono (by simp))⟩
theorem cell_later{w w':World}{b o:Nat}{v:Value}(h:w.cell? ⟨b,o,none⟩=some v)(hb:Below w.heap.size w w'):w'.cell? ⟨b,o,none⟩=some v:=
 (hb.cell (p:=⟨b,o,none⟩) (zn _ _ h)).trans h
theorem Count_any(k:Nat):∀(f:Fo) (A:Option Addr) (c:Nat) (w:World),cnt f<=k->Nam w->RdS w w.heap.size A f->len f<=maxLen->
  Calls prog 225 #[.slice A (len f) c] w λe w'=>e=.returned (.tuple #[.int .i64 (wrap64 (cnt f)),.int .i64 (dp f)])/\Below w.heap.size w w':=by
 induction k using Nat.strongRecOn with
 |ind k ih=>
  intro f A c w hk hN hr hm
  unfold maxLen at hm
  have HR:=hid hr
  have HN:=hid hN
  have HIH:=hid ih
  clear ih hr hN
  go_enter func225,ntmps225
  go_wp2_with fail
  go_loopw [4,5,14] (λn d i wr=>∃j:Nat,j<=len f/\i=.int .i64 j/\n=.int .i64 (wrap64 (cnt (ofN ((nds f).take j))))/\d=.int .i64 (dp (ofN ((nds f).take j)))/\Below w.heap.size w wr) (λ_ _ i _=>len f-(intOf i).toNat)
  case atStart=>exact⟨0,by omega,rfl,by simp[ofN,cnt,wr0],by simp[ofN,dp],zx _ _⟩
  case round=>
   obtain⟨j,hj,rfl,rfl,rfl,hbel⟩:=hrel
   by_cases hlt:j<len f
   ·
    obtain⟨b,o,n,p,rfl,hn,hat0⟩:=HR.out.at_ hlt
    have hat:=hat0.below hbel
    obtain⟨q0,q1,q2,q3,q4,q5,q6,q7,q8⟩:=hat.nine
    have hb0:=hat.lt
    have hb:=zj hb0 hbel.size
    have hmem:n∈nds f:=zu hn
    obtain⟨hc1,hc2⟩:=cnt_mem hmem
    have hok:=hat.ok
    have HN1:=hid (HN.out.below hbel)
    have HB:=hid (λw' (hb:Below w.heap.size w w')=>HIH.out _ (zj hc1 hk) n.body p.Ab p.cb w' (zq _) (HN.out.below hb) ((hat0.ok.body.below hb).more hb.size) (zy hok.num.hb hok.num.cb))
    have HE:=hid (λw' (hb:Below w.heap.size w w')=>HIH.out _ (zj hc2 hk) n.els p.Ae p.ce w' (zq _) (HN.out.below hb) ((hat0.ok.els.below hb).more hb.size) (zy hok.num.he hok.num.ce))
    have HI:=hid (λw' (hb:Below w.heap.size w w')=>isBlock_any n.op w' (HN.out.below hb) hok.num.op)
    have hts:(nds f).take (j+1)=(nds f).take j++[n]:=by
     rw[qs,hn];rfl
    have HC:=hid (cnt_snoc ((nds f).take j) n)
    have HD1:=hid (dp_snoc_blk ((nds f).take j) n)
    have HD2:=hid (dp_snoc_not ((nds f).take j) n)
    rw[<-hts]at HC HD1 HD2
    have HBel:=hid hbel
    have hsz:=hbel.size
    clear hmem hc1 hc2 hok hat hat0 hts hn HIH hbel HR HN HN1
    cases hq:isBlk n.op
    all_goals
     rw[hq]at HI
     have HQ:=hid hq
     clear hq
     go_wp2_with(first
      |(go_at_call 225;((with_reducible refine(HB.out _ (HBel.out.alloc hsz _)).mono ?_);rintro e w1 ⟨rfl,hb1⟩;obtain⟨hlt1,k0,-,-,-,-,-,-,k7,-,-,hw1⟩:=nineB hb1;have HB1:=hid (HBel.out.trans (hw1.mono hsz));clear hb1 hw1))
      |(go_at_call 225;((with_reducible refine(HE.out _ HB1.out).mono ?_);rintro e w2 ⟨rfl,hb2⟩;have k0':=cell_later k0 hb2;have hlt2:=zj hlt1 hb2.size;have HB2:=hid (HB1.out.trans (hb2.mono HB1.out.size));clear hb2))
      |(go_at_call 244;((with_reducible refine(HI.out _ HB2.out).mono ?_);rintro e w3 ⟨rfl,hb3⟩;have HB3:=hid (HB2.out.trans (hb3.mono HB2.out.size));clear hb3)))
     go_roundw
     case rel=>exact⟨j+1,by omega,by go_num,by rw[HC.out,wr4'],by
      first
      |(rw[HD2.out HQ.out])
      |(rw[HD1.out HQ.out];unfold up1;congr 1;rw[Int.add_comm 1 (dp n.body),Int.add_comm 1 (dp n.els)];omega),HB3.out⟩
     case measure=>simp[intOf];omega
   ·
    have hj':j=(nds f).length:=by unfold len at *;omega
    have HT:=hid (zo (l:=nds f) (i:=j) (by omega))
    clear hj'
    go_wp2_with fail
    go_ret2
    exact⟨by rw[HT.out,ofN_nds];rfl,hbel⟩
theorem isNumber_any(n:Int)(w:World)(h:inI n):Calls prog 276 #[.int .i64 n] w λe w'=>e=.returned (.bool (num32 n))/\w=w':=by
 unfold inI at h
 unfold num32
 by_cases h0:0<=n
 ·
  have t0:decide (0<=n)=true:=by simpa using h0
  rw[t0]
  go_enter func276,ntmps276
  go_wp2_with fail
  go_ret
  exact⟨by simp,rfl⟩
 ·
  have t0:decide (0<=n)=false:=by simpa using h0
  rw[t0]
  go_enter func276,ntmps276
  go_wp2_with fail
  go_ret
  exact⟨by simp,rfl⟩
def isRes(t:Int):Bool:=t==0 || t==1 || t==2
theorem isResult_any(t:Int)(w:World):Calls prog 274 #[.int .i64 t] w λe w'=>e=.returned (.bool (isRes t))/\w=w':=by
 unfold isRes
 cases t0:t==0<;>cases t1:t==1
 all_goals
  go_enter func274,ntmps274
  go_wp2_with fail
  go_ret
  exact⟨by simp,rfl⟩
def bareB(a b v t:Int)(lL lb le:Nat)(he:Bool):Bool:=a==0&&b==0&&v==0&&t==0&&!he&&decide (lL=0)&&decide (lb=0)&&decide (le=0)
theorem isBare_any(op a b v t:Int)(AL Ab Ae:Option Addr)(lL cL lb cb le ce:Nat)(he:Bool)(w:World):
  Calls prog 257 #[.agg #[.int .i64 op,.int .i64 a,.int .i64 b,.int .u64 v,.int .i64 t,.slice AL lL cL,.slice Ab lb cb,.slice Ae le ce,.bool he]] w
   λe w'=>e=.returned (.bool (bareB a b v t lL lb le he))/\Below w.heap.size w w':=by
 unfold bareB
 cases he
 all_goals
  go_enter func257,ntmps257
  go_wp2_with fail
  all_goals
   go_ret
   exact⟨by first|(simp[*];done)|(simp[*];rw[Bool.eq_iff_iff];simp<;>omega),(zx _ _).alloc (zq _) _⟩
theorem all_snoc{α:Type}(P:α->Bool)(l:List α)(j:Nat)(a:α)(h:l[j]? =some a)(hj:(l.take j).all P=true):(l.take (j+1)).all P=P a:=by
 rw[qs,h,List.all_append,hj];simp
theorem all_false{α:Type}(P:α->Bool)(l:List α)(j:Nat)(a:α)(h:l[j]? =some a)(ha:P a=false):l.all P=false:=by
 rw[List.all_eq_false]
 exact⟨a,zu h,by simp[ha]⟩
theorem allInt_any(zs:List Int)(A:Option Addr)(c:Nat)(w:World)(hz:∀z∈zs,inI z)(hs:Sl w w.heap.size A (n64s zs))(hm:zs.length<=maxLen):
  Calls prog 275 #[.slice A zs.length c,.func (.func 276) #[] #[]] w λe w'=>e=.returned (.bool (zs.all num32))/\w=w':=by
 unfold maxLen at hm
 have HS:=hid hs
 have HZ:=hid hz
 clear hs hz
 go_enter func275,ntmps275
 go_wp2_with fail
 go_loop [9] (λi=>∃j:Nat,j<=zs.length/\i=.int .i64 j/\(zs.take j).all num32=true) (λi=>zs.length-(intOf i).toNat)
 case atStart=>exact⟨0,by omega,rfl,by simp⟩
 case round=>
  obtain⟨j,hj,rfl,hall⟩:=hrel
  have HA:=hid hall
  clear hall
  by_cases hlt:j<zs.length
  ·
   obtain⟨b,o,rfl,hb,hc⟩:=HS.out (by intro e;have:=congrArg List.length e;rw[n64s_length,zh]at this;omega)
   have hcj:=hc j (by simpa using hlt)
   have hg:zs[j]? =some zs[j]:=zb hlt
   rw[show(n64s zs)[j]? =some (.int .i64 zs[j])by simp[n64s,hg]]at hcj
   have hin:=HZ.out _ (jf hlt)
   obtain⟨z,hz⟩:∃z,z=zs[j]:=⟨_,rfl⟩
   rw[<-hz]at hcj hin hg
   have HG:=hid hg
   clear hz hc hg
   cases hq:num32 z
   ·
    have HN:=hid (isNumber_any z w hin)
    rw[hq]at HN
    have HQ:=hid (all_false num32 zs j z HG.out hq)
    clear hq
    go_wp2_with(go_at_call 276;refine HN.out.mono ?_;rintro e w' ⟨rfl,rfl⟩)
    go_ret
    exact⟨by rw[HQ.out];rfl,rfl⟩
   ·
    have HN:=hid (isNumber_any z w hin)
    rw[hq]at HN
    have HQ:=hid ((all_snoc num32 zs j z HG.out HA.out).trans hq)
    clear hq
    go_wp2_with(go_at_call 276;refine HN.out.mono ?_;rintro e w' ⟨rfl,rfl⟩)
    go_round
    case rel=>exact⟨j+1,by omega,by go_num,HQ.out⟩
    case measure=>simp[intOf];omega
  ·
   have HT:=hid (zo (l:=zs) (i:=j) (by omega))
   go_wp2_with fail
   go_ret
   exact⟨by rw[<-HA.out,HT.out];rfl,rfl⟩
end Go.Proofs.YteoijlfipmaoeaaGreatDoor
namespace Go.Proofs.YteoijlfipmaoeaaGreatDoor
open Lib (hid)
open Go.RowKit
open Go.Proofs.Tryz
theorem Mul_any(n:Nat)(w:World)(hn:n<=64):Calls prog 254 #[.int .u64 1,.int .u64 (n:Int)] w λe w'=>e=.returned (.tuple #[.int .u64 0,.int .u64 (n:Int)])/\w=w':=by
 have:=Tryz.bits_Mul 1 n (by decide) (by omega) w
 have e1:1 * n / 18446744073709551616=0:=by omega
 have e2:1 * n%18446744073709551616=n:=by omega
 rw[e1,e2]at this
 exact this.mono λe w' h=>⟨h.1,h.2.symm⟩
def repA(t:Int)(n i:Nat):Array Value:=(List.replicate i (Value.int .i64 t)++List.replicate (n-i) (Value.int .i64 0)).toArray
theorem repA_size(t:Int)(n i:Nat)(h:i<=n):(repA t n i).size=n:=by simp[repA];omega
theorem repA_set(t:Int)(n i:Nat)(h:i<n):(repA t n i).setIfInBounds i (.int .i64 t)=repA t n (i+1):=by
 obtain⟨m,hm⟩:∃m,n-i=m+1:=⟨n-i-1,by omega⟩
 have h2:n-(i+1)=m:=by omega
 unfold repA
 rw[hm,h2,List.setIfInBounds_toArray,List.set_append_right _ _ (by simp),jn,Nat.sub_self,xe,List.set_cons_zero,List.replicate_succ',zt]
 rfl
theorem repA_cells(t:Int)(n:Nat)(e:TypeId):∀(m i b:Nat) (w:World),i+m<=n->b=w.heap.size->(w.alloc (.cells (repA t n i) e)).setCells b i (List.replicate m (.int .i64 t))=w.alloc (.cells (repA t n (i+m)) e)
 |0,i,b,w,_,_=>rfl
 |m+1,i,b,w,h,hb=>by
  rw[xe,World.setCells,World.setCell_alloc_at _ _ _ _ _ hb,repA_set t n i (by omega),repA_cells t n e m (i+1) b w (by omega) hb]
  rw[show i+1+m=i+(m+1)by omega]
theorem repA_cell(t:Int)(n i b:Nat)(w:World)(e:TypeId)(hb:b=w.heap.size)(j:Nat)(hj:j<n)(hi:i<=n):(w.alloc (.cells (repA t n i) e)).cell? ⟨b,j,none⟩=some (if j<i then .int .i64 t else .int .i64 0):=by
 rw[zv _ _ _ _ hb]
 unfold repA
 rw[List.getElem?_toArray,List.getElem?_append]
 split
 ·
  rename_i h
  rw[jn]at h
  rw[List.getElem?_replicate,if_pos h,if_pos h]
 ·
  rename_i h
  rw[jn]at h
  rw[List.getElem?_replicate,jn,if_pos (by omega),if_neg h]
theorem mkN(n:Nat)(w:World)(hn:n<=64):(Instr.makeSlice 52 (.int .i64 (n:Int)) (.int .i64 (n:Int))).run prog w=.ok (.slice (some ⟨w.heap.size,0,none⟩) n n) (w.alloc (.cells (repA 0 n 0) 3)):=by
 have h:=run_make_row' (P:=prog) 52 3 (.int .i64 0) 8 underlying52 (by kernel_rfl) rfl .i64 .i64 n (by omega) (by omega) w
 rw[h]
 have e:madeCells #[.int .i64 0] n=repA 0 n 0:=by
  apply Array.ext'
  rw[toList_madeCells_one]
  simp[repA]
 rw[e]
theorem repA_zero(t:Int)(n:Nat):repA t n 0=repA 0 n 0:=by unfold repA;simp
theorem cpG(t:Int)(n g:Nat)(w:World)(hn:0<n)(hg:g<w.heap.size)(hc:w.cell? ⟨g,0,none⟩=some (.int .i64 t)):
  (Builtin.copy_ #[52,52] 3 #[.slice (some ⟨w.heap.size,0,none⟩) n n,.slice (some ⟨g,0,none⟩) 1 1]).run prog (w.alloc (.cells (repA 0 n 0) 3))=.ok (.int .i64 1) (w.alloc (.cells (repA t n 1) 3)):=by
 rw[<-repA_zero t n]
 have h:=run_copy_cells (P:=prog) (w.alloc (.cells (repA t n 0) 3)) 52 52 3 3 w.heap.size 0 n n ⟨g,0,none⟩ 1 1 (List.replicate 1 (.int .i64 t)) underlying52 int_one (by show 1=min 1 n;omega)
  (by intro j v hj;match j,hj with|0,hj=>simp at hj;subst hj;rw[show(⟨g,0,none⟩:Addr).add 0=⟨g,0,none⟩by rfl,jq _ _ _ hg,hc]|j+1,hj=>simp at hj)
  (by intro j hj;rw[repA_cell t n 0 _ w _ rfl (0+j) (by simp at hj;omega) (by omega)];rfl)
  (by intro j hj;rw[zw _ _ _ _ rfl]) (by intro v hv;simp at hv;subst hv;rfl)
 rw[h,repA_cells t n _ 1 0 _ w (by omega) rfl]
 rfl
theorem cpH(t:Int)(n i m b:Nat)(w:World)(hb:b=w.heap.size)(hm:m=min i (n-i))(hi:i<=n)(hn:n<=64):
  (Builtin.copy_ #[52,52] 3 #[.slice (some ⟨b,i,none⟩) (n-i) (n-i),.slice (some ⟨b,0,none⟩) i n]).run prog (w.alloc (.cells (repA t n i) 3))=.ok (.int .i64 (m:Int)) (w.alloc (.cells (repA t n (i+m)) 3)):=by
 have h:=run_copy_cells (P:=prog) (w.alloc (.cells (repA t n i) 3)) 52 52 3 3 b i (n-i) (n-i) ⟨b,0,none⟩ i n (List.replicate m (.int .i64 t)) underlying52 int_one (by rw[jn];exact hm)
  (by
   intro j v hj
   rw[List.getElem?_replicate]at hj
   split at hj
   ·
    injection hj with hj
    subst hj
    have e:(⟨b,0,none⟩:Addr).add j=⟨b,0+j,none⟩:=by simp[Addr.add];exact λh=>h.symm
    rw[e,qz,repA_cell t n i b w _ hb j (by omega) hi,if_pos (by omega)]
   ·cases hj)
  (by intro j hj;rw[jn]at hj;rw[repA_cell t n i b w _ hb (i+j) (by omega) hi];rfl)
  (by intro j hj;rw[zw _ _ _ _ hb]) (by intro v hv;rw[List.mem_replicate]at hv;rw[hv.2];rfl)
 rw[h,repA_cells t n _ m i b w (by omega) hb,jn]
 rfl
theorem Repeat_any(t:Int)(n:Nat)(hn:n<=64)(g:Nat)(w:World)(hg:g<w.heap.size)(hc:w.cell? ⟨g,0,none⟩=some (.int .i64 t)):
  Calls prog 240 #[.slice (some ⟨g,0,none⟩) 1 1,.int .i64 (n:Int)] w λe w'=>∃v,e=.returned v/\Own w.heap.size w w' 3 v (i64s (List.replicate n t)):=by
 have HM:=hid (λw=>Mul_any n w hn)
 have hmk:=mkN n w hn
 obtain⟨W0,hW0⟩:∃W0,W0=w.alloc (.cells (repA 0 n 0) 3):=⟨_,rfl⟩
 rw[<-hW0]at hmk
 have t1:¬((n:Int)<0):=by omega
 have t4:¬((n:Int)>9223372036854775807):=by omega
 by_cases h0:n=0
 ·
  subst h0
  replace hmk:(Instr.makeSlice 52 (.int .i64 0) (.int .i64 0)).run prog w=.ok (.slice (some ⟨w.heap.size,0,none⟩) 0 0) W0:=hmk
  have hcp:=run_copy_none (P:=prog) W0 52 52 3 3 (some ⟨w.heap.size,0,none⟩) (some ⟨g,0,none⟩) 0 0 1 1 underlying52 int_one (by rfl)
  have HO:Hid (Own w.heap.size w W0 3 (.slice (some ⟨w.heap.size,0,none⟩) 0 0) (i64s (List.replicate 0 t))):=hid (by rw[hW0];exact Own.lit w #[] 3 (by unfold maxLen;simp))
  clear hc hg hW0 t1 t4
  go_enter func240,ntmps240
  go_wp2_with(go_at_call 254;refine(HM.out _).mono ?_;rintro e w' ⟨rfl,hw⟩;subst hw)
  refine wp_loop_rounds 1 ?_
  rw[rounds_succ]
  go_wp2
  go_ret
  exact⟨_,rfl,HO.out⟩
 ·
  have hcp:=cpG t n g w (by omega) hg hc
  rw[<-hW0]at hcp
  obtain⟨W1,hW1⟩:∃W1,W1=w.alloc (.cells (repA t n 1) 3):=⟨_,rfl⟩
  rw[<-hW1]at hcp
  have HW1:=hid hW1
  clear hc hg hW0 hW1
  go_enter func240,ntmps240
  go_wp2_with(go_at_call 254;refine(HM.out _).mono ?_;rintro e w' ⟨rfl,hw⟩;subst hw)
  go_loopw [8] (λi wr=>∃(j k:Nat),i=.int .i64 (j:Int)/\1<=j/\j<=n/\Hid (wr=(w.alloc (.cells (repA t n j) 3)).drewN k)) (λi _=>n-(intOf i).toNat)
  case atStart=>exact⟨1,0,rfl,by omega,by omega,hid HW1.out⟩
  case round=>
   obtain⟨j,k,rfl,hj1,hjn,hwr⟩:=hrel
   by_cases hlt:j<n
   ·
    have hlt':(j:Int)<n:=by omega
    obtain⟨m,hm⟩:∃m,m=min j (n-j):=⟨_,rfl⟩
    have hcq:=cpH t n j m w.heap.size (w.drewN (k+1)) rfl hm (by omega) hn
    have e1:((w.drewN (k+1)).alloc (.cells (repA t n j) 3))=wr.drew:=by rw[hwr.out];rfl
    rw[e1]at hcq
    obtain⟨W2,hW2⟩:∃W2,W2=(w.drewN (k+1)).alloc (.cells (repA t n (j+m)) 3):=⟨_,rfl⟩
    rw[<-hW2]at hcq
    have HW2:Hid (W2=(w.alloc (.cells (repA t n (j+m)) 3)).drewN (k+1)):=hid (by rw[hW2];rfl)
    have b1:(0:Int)<=(j:Int):=by omega
    have b2:(j:Int)<=(n:Int):=by omega
    have b3:(j:Int).toNat=j:=by omega
    have b4:IntKind.i64.wrap ((j:Int)+(m:Int))=((j+m:Nat):Int):=by rw[IntWalk.i64_left];unfold wrap64;omega
    have HM2:=hid hm
    clear hwr e1 hW2 hm
    go_wp2
    go_region
    go_wp2
    go_roundw
    case rel=>exact⟨j+m,k+1,by go_num,by omega,by have:=HM2.out;omega,hid HW2.out⟩
    case measure=>have:=HM2.out;simp[intOf];omega
   ·
    have hlt':¬(j:Int)<n:=by omega
    have hjn':j=n:=by omega
    subst hjn'
    have HO:Hid (Own w.heap.size w wr 3 (.slice (some ⟨w.heap.size,0,none⟩) j j) (i64s (List.replicate j t))):=hid (by
     rw[hwr.out]
     have h:=Own.lit w (repA t j j) 3 (by rw[repA_size t j j (by omega)];unfold maxLen;omega)
     rw[repA_size t j j (by omega)]at h
     have e:(repA t j j).toList=i64s (List.replicate j t):=by simp[repA,i64s]
     rw[e]at h
     exact h.drewN k)
    clear hwr
    go_wp2
    go_ret
    exact⟨_,rfl,HO.out⟩
end Go.Proofs.YteoijlfipmaoeaaGreatDoor

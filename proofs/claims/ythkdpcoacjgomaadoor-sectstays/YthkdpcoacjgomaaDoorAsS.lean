/- errors.As and errors.Is by their contracts, where the target is a **api.Spot, and the error is nil or a *api.Spot; and where what is looked for is an api.Code. Plain lemmas, no condition. -/
import Derived.Test.YthkdpcoacjgomaaDoorMem
import Derived.Test.YthkdpcoacjgomaaDoorErrs
import Derived.LaidEql
import Derived.Stop.Asserts
import Derived.RowKitTokens
set_option linter.unusedVariables false
set_option linter.unusedSimpArgs false
namespace Go.Proofs.YthkdpcoacjgomaaDoor
open Go.RowKit Go.Extern.Stop Go.Stop Go.Extern

/-- package errors' variable errorType holds the handle of the type error. -/
def Et (w : World) : Prop := w.cell? ⟨0, 0, none⟩ = some (.iface 88 (.agg #[.pointer (some ⟨1, 26, none⟩)]))

/-- errors.As(nil, target). -/
theorem as_nil (t : Value) (w : World) :
    Calls Tryd.prog 26 #[.nilIface, t] w fun e w' => e = .returned (.bool false) ∧ w' = w := by
  go_enter Tryd.func26, Tryd.ntmps26
  go_wp2
  go_ret
  exact ⟨rfl, rfl⟩

theorem As.valueOfPP (t : Addr) (w : World) : (ReflectliteValue.unpack (.iface 58 (.pointer (some t)))).run Tryd.prog w
    = .ok (.agg #[.pointer (some ⟨1, 58, none⟩), .pointer (some ⟨w.heap.size, 0, none⟩), .int .u64 150]) (w.alloc (.cells #[.pointer (some t)] 58)) := by kernel_rfl
theorem As.typePP (a : Addr) (w : World) : (ReflectliteValue.methodAny (ReflectliteValue.valueError "reflectlite.Value.Type" 0) (fun t _ _ _ => ReflectliteType.toType t) #[.agg #[.pointer (some ⟨1, 58, none⟩), .pointer (some a), .int .u64 150]]).run Tryd.prog w
    = .ok (.iface 88 (.agg #[.pointer (some ⟨1, 58, none⟩)])) w := by kernel_rfl
theorem As.methodKind (h : Value) (w : World) : (Go.method 233 88 (.agg #[h]) "Kind").run Tryd.prog w = .ok (57, h) w := by kernel_rfl
theorem As.kindPP (w : World) : ((ReflectliteType.abiMethod fun t => (fun a : Nat => Value.int IntKind.u8 (a : Int)) <$> Rtype.kind t) #[.pointer (some ⟨1, 58, none⟩)]).run Tryd.prog w = .ok (.int .u8 22) w := by kernel_rfl
theorem As.kindP (w : World) : ((ReflectliteType.abiMethod fun t => (fun a : Nat => Value.int IntKind.u8 (a : Int)) <$> Rtype.kind t) #[.pointer (some ⟨1, 56, none⟩)]).run Tryd.prog w = .ok (.int .u8 22) w := by kernel_rfl
theorem rlm (z : Sem Value) (f : TypeId → Addr → Nat → Nat → Sem Value) (v : Value) :
    ReflectliteValue.method z f #[v] = (do match ← ReflectliteValue.parts v with | none => z | some (t, a, fl) => f t a fl (fl % 32)) := rfl
theorem As.partsPP (a : Addr) (w : World) : (ReflectliteValue.parts (.agg #[.pointer (some ⟨1, 58, none⟩), .pointer (some a), .int .u64 150])).run Tryd.prog w = .ok (some (58, a, 150)) w := by kernel_rfl
theorem As.isNilPP (a p : Addr) (W : World) (ha : W.cell? a = some (.pointer (some p))) :
    (ReflectliteValue.method (ReflectliteValue.valueError "reflectlite.Value.IsNil" 0) ReflectliteValue.isNil #[.agg #[.pointer (some ⟨1, 58, none⟩), .pointer (some a), .int .u64 150]]).run Tryd.prog W = .ok (.bool false) W := by
  rw [rlm]
  simp only [Sem.run_bind, As.partsPP, Result.andThen]
  simp [ReflectliteValue.isNil, loadVar, isAgg, underlying, Tryd.underlying58, ha, Result.andThen]
theorem As.methodElem (h : Value) (w : World) : (Go.method 233 88 (.agg #[h]) "Elem").run Tryd.prog w = .ok (69, .agg #[h]) w := by kernel_rfl
theorem As.methodImplements (h : Value) (w : World) : (Go.method 233 88 (.agg #[h]) "Implements").run Tryd.prog w = .ok (70, .agg #[h]) w := by kernel_rfl
theorem As.methodAssignableTo (h : Value) (w : World) : (Go.method 233 88 (.agg #[h]) "AssignableTo").run Tryd.prog w = .ok (67, .agg #[h]) w := by kernel_rfl
theorem As.elemPP (w : World) : (ReflectliteType.method ReflectliteType.elem #[.agg #[.pointer (some ⟨1, 58, none⟩)]]).run Tryd.prog w = .ok (.iface 88 (.agg #[.pointer (some ⟨1, 56, none⟩)])) w := by kernel_rfl
theorem As.implementsP (w : World) : (ReflectliteType.relation "Implements" ReflectliteType.implements_ #[.agg #[.pointer (some ⟨1, 56, none⟩)], .iface 88 (.agg #[.pointer (some ⟨1, 26, none⟩)])]).run Tryd.prog w = .ok (.bool true) w := by kernel_rfl
theorem As.typeOfP (v : Value) (w : World) : (ReflectliteType.typeOf #[.iface 56 v]).run Tryd.prog w = .ok (.iface 88 (.agg #[.pointer (some ⟨1, 56, none⟩)])) w := by kernel_rfl
theorem As.typeOfC (v : Value) (w : World) : (ReflectliteType.typeOf #[.iface 41 v]).run Tryd.prog w = .ok (.iface 88 (.agg #[.pointer (some ⟨1, 41, none⟩)])) w := by kernel_rfl
theorem As.assignableP (w : World) : (ReflectliteType.relation "AssignableTo" ReflectliteType.assignableTo #[.agg #[.pointer (some ⟨1, 56, none⟩)], .iface 88 (.agg #[.pointer (some ⟨1, 56, none⟩)])]).run Tryd.prog w = .ok (.bool true) w := by kernel_rfl
theorem As.valueOfP (e : Addr) (w : World) : (ReflectliteValue.unpack (.iface 56 (.pointer (some e)))).run Tryd.prog w
    = .ok (.agg #[.pointer (some ⟨1, 56, none⟩), .pointer (some ⟨w.heap.size, 0, none⟩), .int .u64 150]) (w.alloc (.cells #[.pointer (some e)] 56)) := by kernel_rfl
theorem As.elemOfPP (w : World) : (Rtype.elem? 58).run Tryd.prog w = .ok (some 56) w := by kernel_rfl
theorem As.mkP (p : Addr) (w : World) : (ReflectliteValue.mk 56 p ReflectliteValue.flagAddr).run Tryd.prog w = .ok (.agg #[.pointer (some ⟨1, 56, none⟩), .pointer (some p), .int .u64 406]) w := by kernel_rfl
theorem As.elemVPP (a p : Addr) (W : World) (ha : W.cell? a = some (.pointer (some p))) :
    (ReflectliteValue.method (ReflectliteValue.valueError "reflectlite.Value.Elem" 0) ReflectliteValue.elem #[.agg #[.pointer (some ⟨1, 58, none⟩), .pointer (some a), .int .u64 150]]).run Tryd.prog W
      = .ok (.agg #[.pointer (some ⟨1, 56, none⟩), .pointer (some p), .int .u64 406]) W := by
  rw [rlm]
  simp only [Sem.run_bind, As.partsPP, Result.andThen]
  simp [ReflectliteValue.elem, loadVar, isAgg, underlying, Tryd.underlying58, ha, Result.andThen, As.elemOfPP, As.mkP]
theorem rls (v x : Value) : ReflectliteValue.set #[v, x] = (do
    let (some (dst, a, fl), some (src, b, _)) := (← ReflectliteValue.parts v, ← ReflectliteValue.parts x)
      | unsupported (.noEntry "extern/(internal/reflectlite.Value).Set.zeroValue")
    if fl / ReflectliteValue.flagAddr % 2 == 0 then unsupported (.noEntry "extern/(internal/reflectlite.Value).Set.unaddressable")
    let val ← loadVar src b
    if ← Rtype.directlyAssignable dst src then storeVar dst a val
    else if ← Rtype.implements dst src then
      if (← Rtype.kind src) == 20 then
        match val with
        | .nilIface => unsupported (.noEntry "extern/reflectlite: a nil value of one interface type handed on as a value of another")
        | _ => storeVar dst a val
      else storeVar dst a (.iface src val)
    else panicString ("reflectlite.Set: value of type " ++ (← Rtype.spelt src) ++ " is not assignable to type " ++ (← Rtype.spelt dst))
    pure (.tuple #[])) := rfl
theorem As.partsPa (a : Addr) (w : World) : (ReflectliteValue.parts (.agg #[.pointer (some ⟨1, 56, none⟩), .pointer (some a), .int .u64 406])).run Tryd.prog w = .ok (some (56, a, 406)) w := by kernel_rfl
theorem As.partsP (a : Addr) (w : World) : (ReflectliteValue.parts (.agg #[.pointer (some ⟨1, 56, none⟩), .pointer (some a), .int .u64 150])).run Tryd.prog w = .ok (some (56, a, 150)) w := by kernel_rfl
theorem As.directP (w : World) : (Rtype.directlyAssignable 56 56).run Tryd.prog w = .ok true w := by kernel_rfl
theorem As.setP (ta b e : Addr) (old : Value) (W : World) (hb : W.cell? b = some (.pointer (some e))) (ht : W.cell? ta = some old) (hf : W.frozen? ta = false) :
    (ReflectliteValue.set #[.agg #[.pointer (some ⟨1, 56, none⟩), .pointer (some ta), .int .u64 406], .agg #[.pointer (some ⟨1, 56, none⟩), .pointer (some b), .int .u64 150]]).run Tryd.prog W
      = .ok (.tuple #[]) (W.setCell ta (.pointer (some e))) := by
  rw [rls]
  simp only [Sem.run_bind, As.partsPa, As.partsP, Result.andThen]
  simp [ReflectliteValue.flagAddr, loadVar, isAgg, underlying, Tryd.underlying56, hb, Result.andThen, As.directP, storeVar, Value.cells, storeCells, Addr.add]
  rw [run_store Tryd.prog W ta _ _ (by rfl)]
  simp [ht, hf]

set_option maxHeartbeats 4000000 in
theorem as_hit (e t : Addr) (old : Value) (w : World) (hg : Et w) (ht0 : w.cell? t = some old) (hf0 : w.frozen? t = false) :
    Calls Tryd.prog 26 #[.iface 56 (.pointer (some e)), .iface 58 (.pointer (some t))] w fun ev w' => ev = .returned (.bool true) ∧ w' = ((((w.alloc (.cells #[.pointer (some t)] 58)).alloc (.cells #[.pointer (some ⟨1, 58, none⟩), .pointer (some ⟨w.heap.size, 0, none⟩), .int .u64 150] 72)).alloc (.cells #[.pointer (some ⟨1, 58, none⟩), .pointer (some ⟨w.heap.size, 0, none⟩), .int .u64 150] 72)).alloc (.cells #[.pointer (some e)] 56)).setCell t (.pointer (some e)) := by
  unfold Et at hg
  have h6 := @run_callFunc_extern Tryd.prog 31 _ (fun args => ReflectliteValue.unpack (args.getD 0 (.tuple #[]))) Tryd.func31 (by kernel_rfl) (by kernel_rfl) (by kernel_rfl) (by kernel_rfl)
  have h7 := @run_callFunc_extern Tryd.prog 32 _ (ReflectliteValue.methodAny (ReflectliteValue.valueError "reflectlite.Value.Type" 0) (fun t _ _ _ => ReflectliteType.toType t)) Tryd.func32 (by kernel_rfl) (by kernel_rfl) (by kernel_rfl) (by kernel_rfl)
  have h8 := @run_callFunc_extern Tryd.prog 33 _ (ReflectliteValue.method (ReflectliteValue.valueError "reflectlite.Value.IsNil" 0) ReflectliteValue.isNil) Tryd.func33 (by kernel_rfl) (by kernel_rfl) (by kernel_rfl) (by kernel_rfl)
  have h27 := @run_callFunc_extern Tryd.prog 57 _ (ReflectliteType.abiMethod fun t => do pure (.int .u8 (← Rtype.kind t))) Tryd.func57 (by kernel_rfl) (by kernel_rfl) (by kernel_rfl) (by kernel_rfl)
  have h37 := @run_callFunc_extern Tryd.prog 69 _ (ReflectliteType.method ReflectliteType.elem) Tryd.func69 (by kernel_rfl) (by kernel_rfl) (by kernel_rfl) (by kernel_rfl)
  have h38 := @run_callFunc_extern Tryd.prog 70 _ (ReflectliteType.relation "Implements" ReflectliteType.implements_) Tryd.func70 (by kernel_rfl) (by kernel_rfl) (by kernel_rfl) (by kernel_rfl)
  have h10 := @run_callFunc_extern Tryd.prog 35 _ ReflectliteType.typeOf Tryd.func35 (by kernel_rfl) (by kernel_rfl) (by kernel_rfl) (by kernel_rfl)
  have h35 := @run_callFunc_extern Tryd.prog 67 _ (ReflectliteType.relation "AssignableTo" ReflectliteType.assignableTo) Tryd.func67 (by kernel_rfl) (by kernel_rfl) (by kernel_rfl) (by kernel_rfl)
  have h11 := @run_callFunc_extern Tryd.prog 41 _ (ReflectliteValue.method (ReflectliteValue.valueError "reflectlite.Value.Elem" 0) ReflectliteValue.elem) Tryd.func41 (by kernel_rfl) (by kernel_rfl) (by kernel_rfl) (by kernel_rfl)
  have h12 := @run_callFunc_extern Tryd.prog 42 _ ReflectliteValue.set Tryd.func42 (by kernel_rfl) (by kernel_rfl) (by kernel_rfl) (by kernel_rfl)
  have tO := As.typeOfP
  have mA := As.methodAssignableTo
  have a25 := As.assignableP
  have v25 := As.valueOfP
  have f6 := As.valueOfPP
  have f7 := As.typePP
  have mK := As.methodKind
  have mE := As.methodElem
  have mI := As.methodImplements
  have k27 := As.kindPP
  have k25 := As.kindP
  have e27 := As.elemPP
  have i25 := As.implementsP
  have n8 := As.isNilPP ⟨w.heap.size, 0, none⟩ t ((w.alloc (.cells #[.pointer (some t)] 58)).alloc (.cells #[.pointer (some ⟨1, 58, none⟩), .pointer (some ⟨w.heap.size, 0, none⟩), .int .u64 150] 72)) (by simp)
  have hlt : 0 < w.heap.size := World.block_lt_of_cell? _ _ hg
  have hg2 : ((w.alloc (.cells #[.pointer (some t)] 58)).alloc (.cells #[.pointer (some ⟨1, 58, none⟩), .pointer (some ⟨w.heap.size, 0, none⟩), .int .u64 150] 72)).cell? ⟨0, 0, none⟩ = some (.iface 88 (.agg #[.pointer (some ⟨1, 26, none⟩)])) := by
    rw [World.cell?_alloc_lt _ _ ⟨0, 0, none⟩ (by simp <;> omega), World.cell?_alloc_lt _ _ ⟨0, 0, none⟩ hlt]; exact hg
  have htl : t.block < w.heap.size := World.block_lt_of_cell? _ _ ht0
  have el := As.elemVPP ⟨w.heap.size, 0, none⟩ t (((w.alloc (.cells #[.pointer (some t)] 58)).alloc (.cells #[.pointer (some ⟨1, 58, none⟩), .pointer (some ⟨w.heap.size, 0, none⟩), .int .u64 150] 72)).alloc (.cells #[.pointer (some ⟨1, 58, none⟩), .pointer (some ⟨w.heap.size, 0, none⟩), .int .u64 150] 72)) (by rw [World.cell?_alloc_lt _ _ ⟨w.heap.size, 0, none⟩ (by simp; omega)]; simp)
  have st := As.setP t ⟨w.heap.size + 1 + 1 + 1, 0, none⟩ e old ((((w.alloc (.cells #[.pointer (some t)] 58)).alloc (.cells #[.pointer (some ⟨1, 58, none⟩), .pointer (some ⟨w.heap.size, 0, none⟩), .int .u64 150] 72)).alloc (.cells #[.pointer (some ⟨1, 58, none⟩), .pointer (some ⟨w.heap.size, 0, none⟩), .int .u64 150] 72)).alloc (.cells #[.pointer (some e)] 56))
    (by rw [World.cell?_alloc_at _ _ _ _ (by simp)]; rfl)
    (by rw [World.cell?_alloc_lt _ _ t (by simp; omega), World.cell?_alloc_lt _ _ t (by simp; omega), World.cell?_alloc_lt _ _ t (by simp; omega), World.cell?_alloc_lt _ _ t htl]; exact ht0)
    (by rw [World.frozen?_alloc_old _ _ t (by simp; omega), World.frozen?_alloc_old _ _ t (by simp; omega), World.frozen?_alloc_old _ _ t (by simp; omega), World.frozen?_alloc_old _ _ t (Nat.ne_of_lt htl)]; exact hf0)
  go_enter Tryd.func26, Tryd.ntmps26
  go_wp2
  refine wp_loop_rounds 1 ?_
  rw [rounds_succ]
  go_wp2
  go_ret
  exact ⟨rfl, rfl⟩

end Go.Proofs.YthkdpcoacjgomaaDoor

/- errors.Is by its contract, where the error is a *api.Spot that tells of an api.Code, and what is looked for is an api.Code. Plain lemmas, no condition. -/
namespace Go.Proofs.YthkdpcoacjgomaaDoor
open Go.RowKit Go.Extern.Stop Go.Stop Go.Extern

/-! errors.Is, where what is looked for is a Code. -/
def Is.cmp : Array Value → Sem Value := ReflectliteType.method fun t => do Rtype.noPackHeld "Comparable" t; pure (.bool (← typeInfo t).comparable)
theorem Is.comparableC (w : World) : (Is.cmp #[.agg #[.pointer (some ⟨1, 41, none⟩)]]).run Tryd.prog w = .ok (.bool true) w := by kernel_rfl
theorem Is.methodComparable (v : Value) (w : World) : (Go.method 233 88 v "Comparable").run Tryd.prog w = .ok (68, v) w := by kernel_rfl
theorem Is.noIsP (v : Value) (xT : TypeId) (w : World) : (Instr.typeAssert (.iface 56 v) xT 100 true).run Tryd.prog w = .ok (.tuple #[.nilIface, .bool false]) w := run_typeAssert_lacksB Tryd.underlying100 (by kernel_rfl) (by kernel_rfl) v xT w
theorem Is.noIsC (v : Value) (xT : TypeId) (w : World) : (Instr.typeAssert (.iface 41 v) xT 100 true).run Tryd.prog w = .ok (.tuple #[.nilIface, .bool false]) w := run_typeAssert_lacksB Tryd.underlying100 (by kernel_rfl) (by kernel_rfl) v xT w
theorem Is.noUnwrapC (v : Value) (xT : TypeId) (w : World) : (Instr.typeAssert (.iface 41 v) xT 95 true).run Tryd.prog w = .ok (.tuple #[.nilIface, .bool false]) w := run_typeAssert_lacksB Tryd.underlying95 (by kernel_rfl) (by kernel_rfl) v xT w
theorem Is.noUnwrapsC (v : Value) (xT : TypeId) (w : World) : (Instr.typeAssert (.iface 41 v) xT 97 true).run Tryd.prog w = .ok (.tuple #[.nilIface, .bool false]) w := run_typeAssert_lacksB Tryd.underlying97 (by kernel_rfl) (by kernel_rfl) v xT w
theorem Is.hasUnwrapP (v : Value) (xT : TypeId) (w : World) : (Instr.typeAssert (.iface 56 v) xT 95 true).run Tryd.prog w = .ok (.tuple #[.iface 56 v, .bool true]) w := run_typeAssert_hasB Tryd.underlying95 (by kernel_rfl) v xT w
theorem Is.methodUnwrap (v : Value) (w : World) : (Go.method 233 56 v "Unwrap").run Tryd.prog w = .ok (62, v) w := by kernel_rfl

set_option maxHeartbeats 4000000 in
set_option maxRecDepth 100000 in
/-- errors.Is(a Spot that tells of a Code, a Code). -/
theorem is_spot (b o : Nat) (c x : Int) (w : World) (h1 : w.cell? ⟨b, o + 1, none⟩ = some (.iface 41 (.int .i64 c))) :
    Calls Tryd.prog 27 #[.iface 56 (.pointer (some ⟨b, o, none⟩)), .iface 41 (.int .i64 x)] w fun e w' => e = .returned (.bool (c == x)) ∧ w' = w := by
  have h8 := @run_callFunc_extern Tryd.prog 35 _ ReflectliteType.typeOf Tryd.func35 (by kernel_rfl) (by kernel_rfl) (by kernel_rfl) (by kernel_rfl)
  have h32 := @run_callFunc_extern Tryd.prog 68 _ Is.cmp Tryd.func68 (by kernel_rfl) (by kernel_rfl) (by kernel_rfl) (by kernel_rfl)
  have tT := As.typeOfC
  have cT := Is.comparableC
  have mR := Is.methodComparable
  have n1 := Is.noIsP
  have n2 := Is.noIsC
  have n3 := Is.noUnwrapC
  have n4 := Is.noUnwrapsC
  have u1 := Is.hasUnwrapP
  have mU := Is.methodUnwrap
  have hty := run_eql_iface_types (P := Tryd.prog) 56 41 (.pointer (some ⟨b, o, none⟩)) (.int .i64 x) Tryd.underlying26 (by decide) w
  have heq := run_eql_code w c x
  obtain ⟨r, hr⟩ : ∃ r, (c == x) = r := ⟨_, rfl⟩
  rw [hr] at heq ⊢
  clear hr
  cases r
  all_goals
    go_enter Tryd.func27, Tryd.ntmps27
    go_wp2
    refine wp_loop_rounds 2 ?_
    rw [rounds_succ]
    go_wp2
    rw [rounds_succ]
    go_wp2
    go_ret
    exact ⟨rfl, rfl⟩

end Go.Proofs.YthkdpcoacjgomaaDoor

/- What grommetlaw00 asks of errors: Is (of a Spot), by its contract; a world that keeps what is below keeps errorType and Spots. Plain definitions and lemmas, no condition. -/
namespace Go.Proofs.YthkdpcoacjgomaaDoor
open Go.RowKit Go.Extern.Stop Go.Stop Go.Extern

theorem Et.below {w w' : World} (h : Et w) (hb : Below w.heap.size w w') : Et w' := (hb.cell (p := ⟨0, 0, none⟩) (World.block_lt_of_cell? _ _ h)).trans h
theorem Et.lt {w : World} (h : Et w) : 0 < w.heap.size := World.block_lt_of_cell? _ _ h

/-- v is a Spot at this place, with this Code. -/
def SpotIs (w : World) (v : Value) (at_ code : Int) : Prop :=
  ∃ b o, v = .iface 56 (.pointer (some ⟨b, o, none⟩)) ∧ w.cell? ⟨b, o, none⟩ = some (.int .i64 at_) ∧ w.cell? ⟨b, o + 1, none⟩ = some (.iface 41 (.int .i64 code))
theorem SpotIs.below {w w' : World} {v : Value} {a c : Int} (h : SpotIs w v a c) (hb : Below w.heap.size w w') : SpotIs w' v a c := by
  obtain ⟨b, o, rfl, h1, h2⟩ := h
  have hl := World.block_lt_of_cell? _ _ h1
  exact ⟨b, o, rfl, (hb.cell (p := ⟨b, o, none⟩) hl).trans h1, (hb.cell (p := ⟨b, o + 1, none⟩) hl).trans h2⟩
/-- a Spot that was just made. -/
theorem SpotIs.new (w : World) (a c : Int) (t : TypeId) : SpotIs (w.alloc (.cells #[.int .i64 a, .iface 41 (.int .i64 c)] t)) (.iface 56 (.pointer (some ⟨w.heap.size, 0, none⟩))) a c := by
  refine ⟨w.heap.size, 0, rfl, ?_, ?_⟩
  · have := cell_of_row (w.alloc (.cells #[.int .i64 a, .iface 41 (.int .i64 c)] t)) w.heap.size 0 _ t (0, 0) (heap_alloc_new w _)
    rw [this]; rfl
  · have := cell_of_row (w.alloc (.cells #[.int .i64 a, .iface 41 (.int .i64 c)] t)) w.heap.size 1 _ t (0, 0) (heap_alloc_new w _)
    rw [this]; rfl

theorem spot_info : (Tryd.prog.info? 56).map (fun i => i.comparable) = some true := by kernel_rfl
theorem spot_size : (Tryd.prog.info? 61).isSome = true := by kernel_rfl
theorem run_neq_spot (w : World) (a : Addr) : (binOp .neq 26 (.iface 56 (.pointer (some a))) (.iface 56 (.pointer (some a)))).run Tryd.prog w = .ok (.bool false) w := by
  obtain ⟨i, hi, hc⟩ := Option.map_eq_some_iff.1 spot_info
  obtain ⟨j, hj⟩ := Option.isSome_iff_exists.1 spot_size
  simp only [binOp]
  simp [Op.equal, Op.maxDepth, run_equalIn_iface_ptr_same w 9998 a Tryd.underlying26 Tryd.underlying56 hi hc hj]

/-- as_hit, in the words that a caller needs: the target's variable is the newest block. -/
theorem as_new (e : Addr) (w0 : World) (hg : Et w0) :
    Calls Tryd.prog 26 #[.iface 56 (.pointer (some e)), .iface 58 (.pointer (some ⟨w0.heap.size, 0, none⟩))] (w0.alloc (.cells #[.pointer none] 56))
      fun ev w' => ev = .returned (.bool true) ∧ Below w0.heap.size w0 w' ∧ w'.cell? ⟨w0.heap.size, 0, none⟩ = some (.pointer (some e)) := by
  have hb : Below w0.heap.size w0 (w0.alloc (.cells #[.pointer none] 56)) := (Below.refl _ _).alloc (Nat.le_refl _) _
  refine (as_hit e ⟨w0.heap.size, 0, none⟩ (.pointer none) _ (hg.below hb) (by simp) (by simp)).mono ?_
  rintro ev w' ⟨rfl, rfl⟩
  refine ⟨rfl, ?_, ?_⟩
  · refine Below.setCell (p := ⟨w0.heap.size, 0, none⟩) ?_ (Nat.le_refl _) _
    refine Below.alloc ?_ (by simp; omega) _
    refine Below.alloc ?_ (by simp; omega) _
    refine Below.alloc ?_ (by simp; omega) _
    exact Below.alloc hb (by simp) _
  · refine World.cell?_setCell_same _ _ _ (u := .pointer none) ?_
    · rw [World.cell?_alloc_lt _ _ _ (by simp; omega), World.cell?_alloc_lt _ _ _ (by simp; omega), World.cell?_alloc_lt _ _ _ (by simp; omega), World.cell?_alloc_lt _ _ _ (by simp)]
      simp

set_option maxHeartbeats 4000000 in
set_option maxRecDepth 100000 in
/-- grommetlaw00.Is of a Spot. -/
theorem isSpot_any (v : Value) (a c at_ code : Int) (w : World) (hg : Et w) (hs : SpotIs w v a c) :
    Calls Tryd.prog 16 #[v, .int .i64 at_, .int .i64 code] w fun e w' => e = .returned (.bool (c == code && a == at_)) ∧ Below w.heap.size w w' := by
  obtain ⟨b, o, rfl, h1, h2⟩ := hs
  have hl := World.block_lt_of_cell? _ _ h1
  have hl' : b < w.heap.size := hl
  have HA := Lib.hid (as_new ⟨b, o, none⟩ w hg)
  have hne := run_neq_spot
  have heq : ∀ w, _ := fun w => run_eql_code w c code
  have HI := Lib.hid fun w1 => is_spot b o c code w1
  obtain ⟨r, hr⟩ : ∃ r, (c == code) = r := ⟨_, rfl⟩
  rw [hr] at heq HI ⊢
  clear hr
  obtain ⟨q, hq⟩ : ∃ q, (a == at_) = q := ⟨_, rfl⟩
  rw [hq]
  cases r
  · go_enter Tryd.func16, Tryd.ntmps16
    go_wp2_with fail
    with_reducible refine HA.out.mono ?_
    rintro e w1 ⟨rfl, hb1, hc1⟩
    have k2 := (hb1.cell (p := ⟨b, o + 1, none⟩) hl).trans h2
    clear HA h1 h2
    go_wp2_with fail
    with_reducible refine (HI.out w1 k2).mono ?_
    rintro e w2 ⟨rfl, rfl⟩
    go_wp2
    go_ret
    exact ⟨rfl, hb1⟩
  · cases q
    · have hq' : ¬ a = at_ := by simpa using hq
      clear hq
      go_enter Tryd.func16, Tryd.ntmps16
      go_wp2_with fail
      with_reducible refine HA.out.mono ?_
      rintro e w1 ⟨rfl, hb1, hc1⟩
      have k1 := (hb1.cell (p := ⟨b, o, none⟩) hl).trans h1
      have k2 := (hb1.cell (p := ⟨b, o + 1, none⟩) hl).trans h2
      clear HA h1 h2
      go_wp2_with fail
      with_reducible refine (HI.out w1 k2).mono ?_
      rintro e w2 ⟨rfl, rfl⟩
      go_wp2
      go_ret
      exact ⟨rfl, hb1⟩
    · have hq' : a = at_ := by simpa using hq
      subst hq'
      clear hq
      go_enter Tryd.func16, Tryd.ntmps16
      go_wp2_with fail
      with_reducible refine HA.out.mono ?_
      rintro e w1 ⟨rfl, hb1, hc1⟩
      have k1 := (hb1.cell (p := ⟨b, o, none⟩) hl).trans h1
      have k2 := (hb1.cell (p := ⟨b, o + 1, none⟩) hl).trans h2
      clear HA h1 h2
      go_wp2_with fail
      with_reducible refine (HI.out w1 k2).mono ?_
      rintro e w2 ⟨rfl, rfl⟩
      go_wp2
      go_ret
      exact ⟨rfl, hb1⟩

end Go.Proofs.YthkdpcoacjgomaaDoor

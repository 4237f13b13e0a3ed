import Derived.Test.YteoijlfipmaoeaaGreatDoorPJ3
set_option linter.unusedVariables false
set_option linter.unusedSimpArgs false
set_option maxRecDepth 100000
set_option maxHeartbeats 4000000
namespace Go.Proofs.YteoijlfipmaoeaaGreatDoor
open Lib (hid)
open Go.RowKit Go.Extern.Stop Go.Stop Go.Extern
open Go.Proofs.Tryz
def Is.cmp:Array Value->Sem Value:=ReflectliteType.method λt=>do Rtype.noPackHeld "Comparable" t;pure (.bool (<-typeInfo t).comparable)
theorem Is.comparableC(w:World):(Is.cmp #[.agg #[.pointer (some ⟨6,40,none⟩)]]).run prog w=.ok (.bool true) w:=by kernel_rfl
theorem Is.methodComparable(v:Value)(w:World):(Go.method 484 258 v "Comparable").run prog w=.ok (341,v) w:=by kernel_rfl
theorem Is.noIsP(v:Value)(xT:TypeId)(w:World):(Instr.typeAssert (.iface 115 v) xT 270 true).run prog w=.ok (.tuple #[.nilIface,.bool false]) w:=run_typeAssert_lacksB underlying270 (by kernel_rfl) (by kernel_rfl) v xT w
theorem Is.noIsC(v:Value)(xT:TypeId)(w:World):(Instr.typeAssert (.iface 40 v) xT 270 true).run prog w=.ok (.tuple #[.nilIface,.bool false]) w:=run_typeAssert_lacksB underlying270 (by kernel_rfl) (by kernel_rfl) v xT w
theorem Is.noUnwrapC(v:Value)(xT:TypeId)(w:World):(Instr.typeAssert (.iface 40 v) xT 265 true).run prog w=.ok (.tuple #[.nilIface,.bool false]) w:=run_typeAssert_lacksB underlying265 (by kernel_rfl) (by kernel_rfl) v xT w
theorem Is.noUnwrapsC(v:Value)(xT:TypeId)(w:World):(Instr.typeAssert (.iface 40 v) xT 267 true).run prog w=.ok (.tuple #[.nilIface,.bool false]) w:=run_typeAssert_lacksB underlying267 (by kernel_rfl) (by kernel_rfl) v xT w
theorem Is.hasUnwrapP(v:Value)(xT:TypeId)(w:World):(Instr.typeAssert (.iface 115 v) xT 265 true).run prog w=.ok (.tuple #[.iface 115 v,.bool true]) w:=run_typeAssert_hasB underlying265 (by kernel_rfl) v xT w
theorem Is.methodUnwrap(v:Value)(w:World):(Go.method 484 115 v "Unwrap").run prog w=.ok (335,v) w:=by kernel_rfl
theorem is_spot(b o:Nat)(c x:Int)(w:World)(h1:w.cell? ⟨b,o+1,none⟩=some (.iface 40 (.int .i64 c))):
  Calls prog 55 #[.iface 115 (.pointer (some ⟨b,o,none⟩)),.iface 40 (.int .i64 x)] w λe w'=>e=.returned (.bool (c==x))/\w'=w:=by
 have h8:=@run_callFunc_extern prog 155 _ ReflectliteType.typeOf func155 (by kernel_rfl) (by kernel_rfl) (by kernel_rfl) (by kernel_rfl)
 have h32:=@run_callFunc_extern prog 341 _ Is.cmp func341 (by kernel_rfl) (by kernel_rfl) (by kernel_rfl) (by kernel_rfl)
 have tT:=As.typeOfC
 have cT:=Is.comparableC
 have mR:=Is.methodComparable
 have n1:=Is.noIsP
 have n2:=Is.noIsC
 have n3:=Is.noUnwrapC
 have n4:=Is.noUnwrapsC
 have u1:=Is.hasUnwrapP
 have mU:=Is.methodUnwrap
 have hty:=run_eql_iface_types (P:=prog) 115 40 (.pointer (some ⟨b,o,none⟩)) (.int .i64 x) underlying37 (by decide) w
 have heq:=run_eql_code w c x
 obtain⟨r,hr⟩:∃r,(c==x)=r:=⟨_,rfl⟩
 rw[hr]at heq⊢
 clear hr
 cases r
 all_goals
  go_enter func55,ntmps55
  go_wp2
  refine wp_loop_rounds 2 ?_
  rw[rounds_succ]
  go_wp2
  rw[rounds_succ]
  go_wp2
  go_ret
  exact⟨rfl,rfl⟩
theorem Et.below{w w':World}(h:Et w)(hb:Below w.heap.size w w'):Et w':=(hb.cell (p:=⟨0,0,none⟩) (zn _ _ h)).trans h
def SpotIs(w:World)(v:Value)(at_ code:Int):Prop:=
 ∃b o,v=.iface 115 (.pointer (some ⟨b,o,none⟩))/\w.cell? ⟨b,o,none⟩=some (.int .i64 at_)/\w.cell? ⟨b,o+1,none⟩=some (.iface 40 (.int .i64 code))
theorem SpotIs.below{w w':World}{v:Value}{a c:Int}(h:SpotIs w v a c)(hb:Below w.heap.size w w'):SpotIs w' v a c:=by
 obtain⟨b,o,rfl,h1,h2⟩:=h
 have hl:=zn _ _ h1
 exact⟨b,o,rfl,(hb.cell (p:=⟨b,o,none⟩) hl).trans h1,(hb.cell (p:=⟨b,o+1,none⟩) hl).trans h2⟩
theorem SpotIs.new(w:World)(a c:Int)(t:TypeId):SpotIs (w.alloc (.cells #[.int .i64 a,.iface 40 (.int .i64 c)] t)) (.iface 115 (.pointer (some ⟨w.heap.size,0,none⟩))) a c:=by
 refine⟨w.heap.size,0,rfl,?_,?_⟩
 ·
  have:=cell_of_row (w.alloc (.cells #[.int .i64 a,.iface 40 (.int .i64 c)] t)) w.heap.size 0 _ t (0,0) (heap_alloc_new w _)
  rw[this];rfl
 ·
  have:=cell_of_row (w.alloc (.cells #[.int .i64 a,.iface 40 (.int .i64 c)] t)) w.heap.size 1 _ t (0,0) (heap_alloc_new w _)
  rw[this];rfl
theorem spot_info:(prog.info? 115).map (λi=>i.comparable)=some true:=by kernel_rfl
theorem spot_size:(prog.info? 120).isSome=true:=by kernel_rfl
theorem run_neq_spot(w:World)(a:Addr):(binOp .neq 37 (.iface 115 (.pointer (some a))) (.iface 115 (.pointer (some a)))).run prog w=.ok (.bool false) w:=by
 obtain⟨i,hi,hc⟩:=Option.map_eq_some_iff.1 spot_info
 obtain⟨j,hj⟩:=Option.isSome_iff_exists.1 spot_size
 simp only[binOp]
 simp[Op.equal,Op.maxDepth,run_equalIn_iface_ptr_same w 9998 a underlying37 underlying115 hi hc hj]
theorem as_new(e:Addr)(w0:World)(hg:Et w0):
  Calls prog 54 #[.iface 115 (.pointer (some e)),.iface 117 (.pointer (some ⟨w0.heap.size,0,none⟩))] (w0.alloc (.cells #[.pointer none] 115))
   λev w'=>ev=.returned (.bool true)/\Below w0.heap.size w0 w'/\w'.cell? ⟨w0.heap.size,0,none⟩=some (.pointer (some e)):=by
 have hb:Below w0.heap.size w0 (w0.alloc (.cells #[.pointer none] 115)):=(zx _ _).alloc (zq _) _
 refine(as_hit e ⟨w0.heap.size,0,none⟩ (.pointer none) _ (hg.below hb) (by simp) (by simp)).mono ?_
 rintro ev w' ⟨rfl,rfl⟩
 refine⟨rfl,?_,?_⟩
 ·
  refine jt (p:=⟨w0.heap.size,0,none⟩) ?_ (zq _) _
  refine jp ?_ (by simp;omega) _
  refine jp ?_ (by simp;omega) _
  refine jp ?_ (by simp;omega) _
  exact jp hb (by simp) _
 ·
  refine ze _ _ _ (u:=.pointer none) ?_
  ·
   rw[zg _ _ _ (by simp;omega),zg _ _ _ (by simp;omega),zg _ _ _ (by simp;omega),zg _ _ _ (by simp)]
   simp
theorem isSpot_any(v:Value)(a c at_ code:Int)(w:World)(hg:Et w)(hs:SpotIs w v a c):
  Calls prog 16 #[v,.int .i64 at_,.int .i64 code] w λe w'=>e=.returned (.bool (c==code&&a==at_))/\Below w.heap.size w w':=by
 obtain⟨b,o,rfl,h1,h2⟩:=hs
 have hl:=zn _ _ h1
 have hl':b<w.heap.size:=hl
 have HA:=hid (as_new ⟨b,o,none⟩ w hg)
 have hne:=run_neq_spot
 have heq:∀w,_:=λw=>run_eql_code w c code
 have HI:=hid λw1=>is_spot b o c code w1
 obtain⟨r,hr⟩:∃r,(c==code)=r:=⟨_,rfl⟩
 rw[hr]at heq HI⊢
 clear hr
 obtain⟨q,hq⟩:∃q,(a==at_)=q:=⟨_,rfl⟩
 rw[hq]
 cases r
 ·
  go_enter func16,ntmps16
  go_wp2_with fail
  with_reducible refine HA.out.mono ?_
  rintro e w1 ⟨rfl,hb1,hc1⟩
  have k2:=(hb1.cell (p:=⟨b,o+1,none⟩) hl).trans h2
  clear HA h1 h2
  go_wp2_with fail
  with_reducible refine(HI.out w1 k2).mono ?_
  rintro e w2 ⟨rfl,rfl⟩
  go_wp2
  go_ret
  exact⟨rfl,hb1⟩
 ·
  cases q
  ·
   have hq':¬a=at_:=by simpa using hq
   clear hq
   go_enter func16,ntmps16
   go_wp2_with fail
   with_reducible refine HA.out.mono ?_
   rintro e w1 ⟨rfl,hb1,hc1⟩
   have k1:=(hb1.cell (p:=⟨b,o,none⟩) hl).trans h1
   have k2:=(hb1.cell (p:=⟨b,o+1,none⟩) hl).trans h2
   clear HA h1 h2
   go_wp2_with fail
   with_reducible refine(HI.out w1 k2).mono ?_
   rintro e w2 ⟨rfl,rfl⟩
   go_wp2
   go_ret
   exact⟨rfl,hb1⟩
  ·
   have hq':a=at_:=by simpa using hq
   subst hq'
   clear hq
   go_enter func16,ntmps16
   go_wp2_with fail
   with_reducible refine HA.out.mono ?_
   rintro e w1 ⟨rfl,hb1,hc1⟩
   have k1:=(hb1.cell (p:=⟨b,o,none⟩) hl).trans h1
   have k2:=(hb1.cell (p:=⟨b,o+1,none⟩) hl).trans h2
   clear HA h1 h2
   go_wp2_with fail
   with_reducible refine(HI.out w1 k2).mono ?_
   rintro e w2 ⟨rfl,rfl⟩
   go_wp2
   go_ret
   exact⟨rfl,hb1⟩
end Go.Proofs.YteoijlfipmaoeaaGreatDoor

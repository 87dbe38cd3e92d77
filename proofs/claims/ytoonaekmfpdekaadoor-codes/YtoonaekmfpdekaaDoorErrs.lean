/-
  Walks: errors.Is and errors.As over the program's own errors.
-/
import Derived.Test.YtoonaekmfpdekaaDoorChk2
import Derived.LaidEql
import Derived.Stop.Asserts
import Derived.RowKitTokens
namespace Go.Proofs.YtoonaekmfpdekaaDoor
open Go.RowKit Go.Extern.Stop Go.Stop Go.Extern
set_option maxHeartbeats 1000000
set_option maxRecDepth 100000

/-- The sentinel that the bytes' errors bear. -/
abbrev tgt (a : Addr) : Value := .iface 136 (.pointer (some a))

theorem noIs_num (v : Value) (xT : TypeId) (w : World) : (Instr.typeAssert (.iface 52 v) xT 101 true).run Tryd.prog w = .ok (.tuple #[.nilIface, .bool false]) w := run_typeAssert_lacksB Tryd.underlying101 (by kernel_rfl) (by kernel_rfl) v xT w
theorem noIs_place (v : Value) (xT : TypeId) (w : World) : (Instr.typeAssert (.iface 114 v) xT 101 true).run Tryd.prog w = .ok (.tuple #[.nilIface, .bool false]) w := run_typeAssert_lacksB Tryd.underlying101 (by kernel_rfl) (by kernel_rfl) v xT w
theorem noIs_unread (v : Value) (xT : TypeId) (w : World) : (Instr.typeAssert (.iface 49 v) xT 101 true).run Tryd.prog w = .ok (.tuple #[.nilIface, .bool false]) w := run_typeAssert_lacksB Tryd.underlying101 (by kernel_rfl) (by kernel_rfl) v xT w
theorem noUw_num (v : Value) (xT : TypeId) (w : World) : (Instr.typeAssert (.iface 52 v) xT 104 true).run Tryd.prog w = .ok (.tuple #[.nilIface, .bool false]) w := run_typeAssert_lacksB Tryd.underlying104 (by kernel_rfl) (by kernel_rfl) v xT w
theorem noUws_num (v : Value) (xT : TypeId) (w : World) : (Instr.typeAssert (.iface 52 v) xT 106 true).run Tryd.prog w = .ok (.tuple #[.nilIface, .bool false]) w := run_typeAssert_lacksB Tryd.underlying106 (by kernel_rfl) (by kernel_rfl) v xT w
theorem uw_place (v : Value) (xT : TypeId) (w : World) : (Instr.typeAssert (.iface 114 v) xT 104 true).run Tryd.prog w = .ok (.tuple #[.iface 114 v, .bool true]) w := run_typeAssert_hasB Tryd.underlying104 (by kernel_rfl) v xT w
theorem noUw_unread (v : Value) (xT : TypeId) (w : World) : (Instr.typeAssert (.iface 49 v) xT 104 true).run Tryd.prog w = .ok (.tuple #[.nilIface, .bool false]) w := run_typeAssert_lacksB Tryd.underlying104 (by kernel_rfl) (by kernel_rfl) v xT w
theorem uws_unread (v : Value) (xT : TypeId) (w : World) : (Instr.typeAssert (.iface 49 v) xT 106 true).run Tryd.prog w = .ok (.tuple #[.iface 49 v, .bool true]) w := run_typeAssert_hasB Tryd.underlying106 (by kernel_rfl) v xT w

theorem ne_num (n : Int) (a : Addr) (w : World) : (binOp .eql 41 (.iface 52 (.int .i64 n)) (tgt a)).run Tryd.prog w = .ok (.bool false) w := run_eql_iface_types _ _ _ _ Tryd.underlying41 (by decide) w
theorem ne_place (v : Value) (a : Addr) (w : World) : (binOp .eql 41 (.iface 114 v) (tgt a)).run Tryd.prog w = .ok (.bool false) w := run_eql_iface_types _ _ _ _ Tryd.underlying41 (by decide) w
theorem ne_unread (v : Value) (a : Addr) (w : World) : (binOp .eql 41 (.iface 49 v) (tgt a)).run Tryd.prog w = .ok (.bool false) w := run_eql_iface_types _ _ _ _ Tryd.underlying41 (by decide) w

theorem is_num (n : Int) (a : Addr) (w : World) :
    Calls Tryd.prog 27 #[.iface 52 (.int .i64 n), tgt a, .bool true] w fun e w' => e = .returned (.bool false) ∧ w' = w := by
  have h1 := fun v => ne_num n a v
  have h2 := noIs_num (.int .i64 n)
  have h3 := noUw_num (.int .i64 n)
  have h4 := noUws_num (.int .i64 n)
  go_enter Tryd.func27, Tryd.ntmps27
  go_wp2
  refine wp_loop_rounds 1 ?_
  rw [rounds_succ]
  go_wp2
  go_ret
  exact ⟨rfl, rfl⟩

theorem unwrap_any (b : Nat) (x : Value) (w : World) (h : w.cell? ⟨b, 2, none⟩ = some x) :
    Calls Tryd.prog 100 #[.pointer (some ⟨b, 0, none⟩)] w fun e w' => e = .returned x ∧ w' = w := by
  go_enter Tryd.func100, Tryd.ntmps100
  go_wp2
  go_ret
  exact ⟨rfl, rfl⟩

theorem method_uw (a : Addr) (w : World) : (method 268 114 (.pointer (some a)) "Unwrap").run Tryd.prog w = .ok (100, .pointer (some a)) w := by kernel_rfl
theorem method_uws (a : Addr) (w : World) : (method 268 49 (.pointer (some a)) "Unwrap").run Tryd.prog w = .ok (83, .pointer (some a)) w := by kernel_rfl

theorem is_one (b : Nat) (n : Int) (a : Addr) (w : World) (h : w.cell? ⟨b, 2, none⟩ = some (.iface 52 (.int .i64 n))) :
    Calls Tryd.prog 27 #[.iface 114 (.pointer (some ⟨b, 0, none⟩)), tgt a, .bool true] w fun e w' => e = .returned (.bool false) ∧ w' = w := by
  have h1 := fun v => ne_num n a v
  have h2 := noIs_num (.int .i64 n)
  have h3 := noUw_num (.int .i64 n)
  have h4 := noUws_num (.int .i64 n)
  have g1 := fun v w => ne_place v a w
  have g2 := noIs_place
  have g3 := uw_place
  have g4 := method_uw
  go_enter Tryd.func27, Tryd.ntmps27
  go_wp2
  refine wp_loop_rounds 2 ?_
  rw [rounds_succ]
  go_wp2
  rw [rounds_succ]
  go_wp2
  go_ret
  exact ⟨rfl, rfl⟩
theorem is_two (b1 b2 : Nat) (n : Int) (a : Addr) (w : World) (hb : w.cell? ⟨b1, 2, none⟩ = some (.iface 114 (.pointer (some ⟨b2, 0, none⟩)))) (h : w.cell? ⟨b2, 2, none⟩ = some (.iface 52 (.int .i64 n))) :
    Calls Tryd.prog 27 #[.iface 114 (.pointer (some ⟨b1, 0, none⟩)), tgt a, .bool true] w fun e w' => e = .returned (.bool false) ∧ w' = w := by
  have h1 := fun v => ne_num n a v
  have h2 := noIs_num (.int .i64 n)
  have h3 := noUw_num (.int .i64 n)
  have h4 := noUws_num (.int .i64 n)
  have g1 := fun v w => ne_place v a w
  have g2 := noIs_place
  have g3 := uw_place
  have g4 := method_uw
  go_enter Tryd.func27, Tryd.ntmps27
  go_wp2
  refine wp_loop_rounds 3 ?_
  rw [rounds_succ]
  go_wp2
  rw [rounds_succ]
  go_wp2
  rw [rounds_succ]
  go_wp2
  go_ret
  exact ⟨rfl, rfl⟩

theorem Tryd.infoErr : ∃ i, Tryd.prog.info? 136 = some i ∧ i.comparable = true := by
  have h : (Tryd.prog.info? 136).map (·.comparable) = some true := by kernel_rfl
  cases hi : Tryd.prog.info? 136 with
  | none => rw [hi] at h; cases h
  | some i => rw [hi] at h; exact ⟨i, rfl, by simpa using h⟩
theorem Tryd.infoEs : ∃ j, Tryd.prog.info? 156 = some j := by
  have h : (Tryd.prog.info? 156).isSome = true := by kernel_rfl
  exact Option.isSome_iff_exists.1 h
theorem eq_self (a : Addr) (w : World) : (binOp .eql 41 (tgt a) (tgt a)).run Tryd.prog w = .ok (.bool true) w := by
  obtain ⟨i, hi, hc⟩ := Tryd.infoErr
  obtain ⟨j, hj⟩ := Tryd.infoEs
  exact run_eql_iface_ptr_same w a Tryd.underlying41 Tryd.underlying136 hi hc hj

theorem is_self (a : Addr) (w : World) :
    Calls Tryd.prog 27 #[tgt a, tgt a, .bool true] w fun e w' => e = .returned (.bool true) ∧ w' = w := by
  have h1 := eq_self a
  go_enter Tryd.func27, Tryd.ntmps27
  go_wp2
  refine wp_loop_rounds 1 ?_
  rw [rounds_succ]
  go_wp2
  go_ret
  exact ⟨rfl, rfl⟩

theorem unwraps_any (b t : Nat) (x : Value) (a : Addr) (w : World) (h : w.cell? ⟨b, 0, none⟩ = some (.iface t x)) (hg : w.cell? ⟨0, 0, none⟩ = some (tgt a)) :
    Calls Tryd.prog 83 #[.pointer (some ⟨b, 0, none⟩)] w fun e w' => e = .returned (.slice (some ⟨w.heap.size, 0, none⟩) 2 2) ∧ w'.cell? ⟨w.heap.size, 0, none⟩ = some (tgt a) ∧ Below w.heap.size w w' := by
  go_enter Tryd.func83, Tryd.ntmps83
  go_wp2
  go_region
  all_goals
    go_wp2
    go_ret
    exact ⟨rfl, by simp [go_sem], ((Below.refl _ _).alloc (Nat.le_refl _) _).drew⟩

theorem is_unread (b t : Nat) (x : Value) (a : Addr) (w : World) (h : w.cell? ⟨b, 0, none⟩ = some (.iface t x)) (hg : w.cell? ⟨0, 0, none⟩ = some (tgt a)) :
    Calls Tryd.prog 27 #[.iface 49 (.pointer (some ⟨b, 0, none⟩)), tgt a, .bool true] w fun e w' => e = .returned (.bool true) ∧ Below w.heap.size w w' := by
  have g1 := fun v w => ne_unread v a w
  have g2 := noIs_unread
  have g3 := noUw_unread
  have g5 := uws_unread
  have g4 := method_uws
  go_enter Tryd.func27, Tryd.ntmps27
  go_wp2
  refine wp_loop_rounds 1 ?_
  rw [rounds_succ]
  go_wp2_with fail
  refine (unwraps_any b t x a _ h hg).mono ?_
  rintro e w1 ⟨rfl, hc, hB⟩
  go_wp2
  refine wp_loop_rounds 1 ?_
  rw [rounds_succ]
  go_wp2_with fail
  refine (is_self a _).mono ?_
  rintro e w2 ⟨rfl, rfl⟩
  go_wp2
  go_ret
  exact ⟨rfl, hB⟩
end Go.Proofs.YtoonaekmfpdekaaDoor

/-
  Walks: errors.Is and errors.As over the program's own errors.
-/
import Derived.Test.YtcbjoogkodcgkaaDoorChk2
import Derived.LaidEql
import Derived.Stop.Asserts
import Derived.RowKitTokens
namespace Go.Proofs.YtcbjoogkodcgkaaDoor
open Go.RowKit Go.Extern.Stop Go.Stop Go.Extern
set_option maxHeartbeats 1000000
set_option maxRecDepth 100000

/-- The sentinel that the bytes' errors bear. -/
abbrev tgt (a : Addr) : Value := .iface 137 (.pointer (some a))

theorem noIs_num (v : Value) (xT : TypeId) (w : World) : (Instr.typeAssert (.iface 50 v) xT 102 true).run Tryd.prog w = .ok (.tuple #[.nilIface, .bool false]) w := run_typeAssert_lacksB Tryd.underlying102 (by kernel_rfl) (by kernel_rfl) v xT w
theorem noIs_place (v : Value) (xT : TypeId) (w : World) : (Instr.typeAssert (.iface 115 v) xT 102 true).run Tryd.prog w = .ok (.tuple #[.nilIface, .bool false]) w := run_typeAssert_lacksB Tryd.underlying102 (by kernel_rfl) (by kernel_rfl) v xT w
theorem noIs_headed (v : Value) (xT : TypeId) (w : World) : (Instr.typeAssert (.iface 64 v) xT 102 true).run Tryd.prog w = .ok (.tuple #[.nilIface, .bool false]) w := run_typeAssert_lacksB Tryd.underlying102 (by kernel_rfl) (by kernel_rfl) v xT w
theorem noUw_num (v : Value) (xT : TypeId) (w : World) : (Instr.typeAssert (.iface 50 v) xT 105 true).run Tryd.prog w = .ok (.tuple #[.nilIface, .bool false]) w := run_typeAssert_lacksB Tryd.underlying105 (by kernel_rfl) (by kernel_rfl) v xT w
theorem noUws_num (v : Value) (xT : TypeId) (w : World) : (Instr.typeAssert (.iface 50 v) xT 107 true).run Tryd.prog w = .ok (.tuple #[.nilIface, .bool false]) w := run_typeAssert_lacksB Tryd.underlying107 (by kernel_rfl) (by kernel_rfl) v xT w
theorem uw_place (v : Value) (xT : TypeId) (w : World) : (Instr.typeAssert (.iface 115 v) xT 105 true).run Tryd.prog w = .ok (.tuple #[.iface 115 v, .bool true]) w := run_typeAssert_hasB Tryd.underlying105 (by kernel_rfl) v xT w
theorem noUw_headed (v : Value) (xT : TypeId) (w : World) : (Instr.typeAssert (.iface 64 v) xT 105 true).run Tryd.prog w = .ok (.tuple #[.nilIface, .bool false]) w := run_typeAssert_lacksB Tryd.underlying105 (by kernel_rfl) (by kernel_rfl) v xT w
theorem uws_headed (v : Value) (xT : TypeId) (w : World) : (Instr.typeAssert (.iface 64 v) xT 107 true).run Tryd.prog w = .ok (.tuple #[.iface 64 v, .bool true]) w := run_typeAssert_hasB Tryd.underlying107 (by kernel_rfl) v xT w

theorem ne_num (n : Int) (a : Addr) (w : World) : (binOp .eql 41 (.iface 50 (.int .i64 n)) (tgt a)).run Tryd.prog w = .ok (.bool false) w := run_eql_iface_types _ _ _ _ Tryd.underlying41 (by decide) w
theorem ne_place (v : Value) (a : Addr) (w : World) : (binOp .eql 41 (.iface 115 v) (tgt a)).run Tryd.prog w = .ok (.bool false) w := run_eql_iface_types _ _ _ _ Tryd.underlying41 (by decide) w
theorem ne_headed (v : Value) (a : Addr) (w : World) : (binOp .eql 41 (.iface 64 v) (tgt a)).run Tryd.prog w = .ok (.bool false) w := run_eql_iface_types _ _ _ _ Tryd.underlying41 (by decide) w

theorem is_num (n : Int) (a : Addr) (w : World) :
    Calls Tryd.prog 28 #[.iface 50 (.int .i64 n), tgt a, .bool true] w fun e w' => e = .returned (.bool false) ∧ w' = w := by
  have h1 := fun v => ne_num n a v
  have h2 := noIs_num (.int .i64 n)
  have h3 := noUw_num (.int .i64 n)
  have h4 := noUws_num (.int .i64 n)
  go_enter Tryd.func28, Tryd.ntmps28
  go_wp2
  refine wp_loop_rounds 1 ?_
  rw [rounds_succ]
  go_wp2
  go_ret
  exact ⟨rfl, rfl⟩

theorem unwrap_any (b : Nat) (x : Value) (w : World) (h : w.cell? ⟨b, 2, none⟩ = some x) :
    Calls Tryd.prog 101 #[.pointer (some ⟨b, 0, none⟩)] w fun e w' => e = .returned x ∧ w' = w := by
  go_enter Tryd.func101, Tryd.ntmps101
  go_wp2
  go_ret
  exact ⟨rfl, rfl⟩

theorem method_uw (a : Addr) (w : World) : (method 269 115 (.pointer (some a)) "Unwrap").run Tryd.prog w = .ok (101, .pointer (some a)) w := by kernel_rfl
theorem method_uws (a : Addr) (w : World) : (method 269 64 (.pointer (some a)) "Unwrap").run Tryd.prog w = .ok (85, .pointer (some a)) w := by kernel_rfl

theorem is_one (b : Nat) (n : Int) (a : Addr) (w : World) (h : w.cell? ⟨b, 2, none⟩ = some (.iface 50 (.int .i64 n))) :
    Calls Tryd.prog 28 #[.iface 115 (.pointer (some ⟨b, 0, none⟩)), tgt a, .bool true] w fun e w' => e = .returned (.bool false) ∧ w' = w := by
  have h1 := fun v => ne_num n a v
  have h2 := noIs_num (.int .i64 n)
  have h3 := noUw_num (.int .i64 n)
  have h4 := noUws_num (.int .i64 n)
  have g1 := fun v w => ne_place v a w
  have g2 := noIs_place
  have g3 := uw_place
  have g4 := method_uw
  go_enter Tryd.func28, Tryd.ntmps28
  go_wp2
  refine wp_loop_rounds 2 ?_
  rw [rounds_succ]
  go_wp2
  rw [rounds_succ]
  go_wp2
  go_ret
  exact ⟨rfl, rfl⟩
theorem is_two (b1 b2 : Nat) (n : Int) (a : Addr) (w : World) (hb : w.cell? ⟨b1, 2, none⟩ = some (.iface 115 (.pointer (some ⟨b2, 0, none⟩)))) (h : w.cell? ⟨b2, 2, none⟩ = some (.iface 50 (.int .i64 n))) :
    Calls Tryd.prog 28 #[.iface 115 (.pointer (some ⟨b1, 0, none⟩)), tgt a, .bool true] w fun e w' => e = .returned (.bool false) ∧ w' = w := by
  have h1 := fun v => ne_num n a v
  have h2 := noIs_num (.int .i64 n)
  have h3 := noUw_num (.int .i64 n)
  have h4 := noUws_num (.int .i64 n)
  have g1 := fun v w => ne_place v a w
  have g2 := noIs_place
  have g3 := uw_place
  have g4 := method_uw
  go_enter Tryd.func28, Tryd.ntmps28
  go_wp2
  refine wp_loop_rounds 3 ?_
  rw [rounds_succ]
  go_wp2
  rw [rounds_succ]
  go_wp2
  rw [rounds_succ]
  go_wp2
  go_ret
  exact ⟨rfl, rfl⟩

theorem Tryd.infoErr : ∃ i, Tryd.prog.info? 137 = some i ∧ i.comparable = true := by
  have h : (Tryd.prog.info? 137).map (·.comparable) = some true := by kernel_rfl
  cases hi : Tryd.prog.info? 137 with
  | none => rw [hi] at h; cases h
  | some i => rw [hi] at h; exact ⟨i, rfl, by simpa using h⟩
theorem Tryd.infoEs : ∃ j, Tryd.prog.info? 157 = some j := by
  have h : (Tryd.prog.info? 157).isSome = true := by kernel_rfl
  exact Option.isSome_iff_exists.1 h
theorem eq_self (a : Addr) (w : World) : (binOp .eql 41 (tgt a) (tgt a)).run Tryd.prog w = .ok (.bool true) w := by
  obtain ⟨i, hi, hc⟩ := Tryd.infoErr
  obtain ⟨j, hj⟩ := Tryd.infoEs
  exact run_eql_iface_ptr_same w a Tryd.underlying41 Tryd.underlying137 hi hc hj

theorem is_self (a : Addr) (w : World) :
    Calls Tryd.prog 28 #[tgt a, tgt a, .bool true] w fun e w' => e = .returned (.bool true) ∧ w' = w := by
  have h1 := eq_self a
  go_enter Tryd.func28, Tryd.ntmps28
  go_wp2
  refine wp_loop_rounds 1 ?_
  rw [rounds_succ]
  go_wp2
  go_ret
  exact ⟨rfl, rfl⟩

/-- The number of files, as a target. -/
abbrev six : Value := .iface 50 (.int .i64 6)
theorem Tryd.infoNum : ∃ i, Tryd.prog.info? 50 = some i ∧ i.comparable = true := by
  have h : (Tryd.prog.info? 50).map (·.comparable) = some true := by kernel_rfl
  cases hi : Tryd.prog.info? 50 with
  | none => rw [hi] at h; cases h
  | some i => rw [hi] at h; exact ⟨i, rfl, by simpa using h⟩
theorem ne6_num (n : Int) (hn : n ≠ 6) (w : World) : (binOp .eql 41 (.iface 50 (.int .i64 n)) six).run Tryd.prog w = .ok (.bool false) w := by
  obtain ⟨i, hi, hc⟩ := Tryd.infoNum
  have h : ∀ d : Nat, (Op.equalIn (d + 2) 41 (.iface 50 (.int .i64 n)) six).run Tryd.prog w = .ok false w := fun d => by
    simp [Op.equalIn, run_underlying Tryd.underlying41, run_underlying Tryd.underlying50, typeInfo, hi, hc, hn]
  simp only [binOp]
  simp [Op.equal, Op.maxDepth, h 9998]
theorem ne6_sent (a : Addr) (w : World) : (binOp .eql 41 (tgt a) six).run Tryd.prog w = .ok (.bool false) w := run_eql_iface_types _ _ _ _ Tryd.underlying41 (by decide) w
theorem ne6_place (v : Value) (w : World) : (binOp .eql 41 (.iface 115 v) six).run Tryd.prog w = .ok (.bool false) w := run_eql_iface_types _ _ _ _ Tryd.underlying41 (by decide) w
theorem ne6_headed (v : Value) (w : World) : (binOp .eql 41 (.iface 64 v) six).run Tryd.prog w = .ok (.bool false) w := run_eql_iface_types _ _ _ _ Tryd.underlying41 (by decide) w
theorem noIs_sent (v : Value) (xT : TypeId) (w : World) : (Instr.typeAssert (.iface 137 v) xT 102 true).run Tryd.prog w = .ok (.tuple #[.nilIface, .bool false]) w := run_typeAssert_lacksB Tryd.underlying102 (by kernel_rfl) (by kernel_rfl) v xT w
theorem noUw_sent (v : Value) (xT : TypeId) (w : World) : (Instr.typeAssert (.iface 137 v) xT 105 true).run Tryd.prog w = .ok (.tuple #[.nilIface, .bool false]) w := run_typeAssert_lacksB Tryd.underlying105 (by kernel_rfl) (by kernel_rfl) v xT w
theorem noUws_sent (v : Value) (xT : TypeId) (w : World) : (Instr.typeAssert (.iface 137 v) xT 107 true).run Tryd.prog w = .ok (.tuple #[.nilIface, .bool false]) w := run_typeAssert_lacksB Tryd.underlying107 (by kernel_rfl) (by kernel_rfl) v xT w

/-- What is asked of an error that wraps none, whether it is the number of files. -/
structure Leaf (t : Nat) (x : Value) : Prop where
  ne : ∀ w, (binOp .eql 41 (.iface t x) six).run Tryd.prog w = .ok (.bool false) w
  is : ∀ xT w, (Instr.typeAssert (.iface t x) xT 102 true).run Tryd.prog w = .ok (.tuple #[.nilIface, .bool false]) w
  uw : ∀ xT w, (Instr.typeAssert (.iface t x) xT 105 true).run Tryd.prog w = .ok (.tuple #[.nilIface, .bool false]) w
  uws : ∀ xT w, (Instr.typeAssert (.iface t x) xT 107 true).run Tryd.prog w = .ok (.tuple #[.nilIface, .bool false]) w
theorem Lf.leaf {v : Value} (h : Lf v) : ∃ t x, v = .iface t x ∧ Leaf t x := by
  rcases h with ⟨a, rfl⟩ | ⟨n, hn, rfl⟩
  · exact ⟨_, _, rfl, ne6_sent a, noIs_sent _, noUw_sent _, noUws_sent _⟩
  · exact ⟨_, _, rfl, ne6_num n hn, noIs_num _, noUw_num _, noUws_num _⟩

theorem is6_leaf (t : Nat) (x : Value) (h : Leaf t x) (w : World) :
    Calls Tryd.prog 28 #[.iface t x, six, .bool true] w fun e w' => e = .returned (.bool false) ∧ w' = w := by
  obtain ⟨h1, h2, h3, h4⟩ := h
  go_enter Tryd.func28, Tryd.ntmps28
  go_wp2
  refine wp_loop_rounds 1 ?_
  rw [rounds_succ]
  go_wp2
  go_ret
  exact ⟨rfl, rfl⟩
theorem is6_one (b t : Nat) (x : Value) (hl : Leaf t x) (w : World) (h : w.cell? ⟨b, 2, none⟩ = some (.iface t x)) :
    Calls Tryd.prog 28 #[.iface 115 (.pointer (some ⟨b, 0, none⟩)), six, .bool true] w fun e w' => e = .returned (.bool false) ∧ w' = w := by
  obtain ⟨h1, h2, h3, h4⟩ := hl
  have g1 := ne6_place
  have g2 := noIs_place
  have g3 := uw_place
  have g4 := method_uw
  go_enter Tryd.func28, Tryd.ntmps28
  go_wp2
  refine wp_loop_rounds 2 ?_
  rw [rounds_succ]
  go_wp2
  rw [rounds_succ]
  go_wp2
  go_ret
  exact ⟨rfl, rfl⟩
theorem is6_two (b1 b2 t : Nat) (x : Value) (hl : Leaf t x) (w : World) (hb : w.cell? ⟨b1, 2, none⟩ = some (.iface 115 (.pointer (some ⟨b2, 0, none⟩)))) (h : w.cell? ⟨b2, 2, none⟩ = some (.iface t x)) :
    Calls Tryd.prog 28 #[.iface 115 (.pointer (some ⟨b1, 0, none⟩)), six, .bool true] w fun e w' => e = .returned (.bool false) ∧ w' = w := by
  obtain ⟨h1, h2, h3, h4⟩ := hl
  have g1 := ne6_place
  have g2 := noIs_place
  have g3 := uw_place
  have g4 := method_uw
  go_enter Tryd.func28, Tryd.ntmps28
  go_wp2
  refine wp_loop_rounds 3 ?_
  rw [rounds_succ]
  go_wp2
  rw [rounds_succ]
  go_wp2
  rw [rounds_succ]
  go_wp2
  go_ret
  exact ⟨rfl, rfl⟩
/-- An error wrapped twice at most is not that of files. -/
theorem is6_bd {v : Value} {w : World} {base : Nat} (h : Bd w base 2 v) :
    (∃ t x, v = .iface t x) ∧ Calls Tryd.prog 28 #[v, six, .bool true] w fun e w' => e = .returned (.bool false) ∧ w' = w := by
  obtain ⟨d, hd, hv⟩ := h
  match d, hv with
  | 0, hv =>
    obtain ⟨t, x, rfl, hl⟩ := Lf.leaf hv
    exact ⟨⟨t, x, rfl⟩, is6_leaf t x hl w⟩
  | 1, ⟨b, y, _, hv, hc, hx⟩ =>
    subst hv
    obtain ⟨t, x, rfl, hl⟩ := Lf.leaf hx
    exact ⟨⟨_, _, rfl⟩, is6_one b t x hl w hc⟩
  | 2, ⟨b, y, _, hv, hc, ⟨b2, z, _, hy, hc2, hx⟩⟩ =>
    subst hv; subst hy
    obtain ⟨t, x, rfl, hl⟩ := Lf.leaf hx
    exact ⟨⟨_, _, rfl⟩, is6_two b b2 t x hl w hc hc2⟩
  | k + 3, _ => omega

theorem unwraps_any (b t : Nat) (x : Value) (a : Addr) (w : World) (hg : w.cell? ⟨b, 0, none⟩ = some (tgt a)) (h : w.cell? ⟨b, 1, none⟩ = some (.iface t x)) :
    Calls Tryd.prog 85 #[.pointer (some ⟨b, 0, none⟩)] w fun e w' => e = .returned (.slice (some ⟨w.heap.size, 0, none⟩) 2 2) ∧ w'.cell? ⟨w.heap.size, 0, none⟩ = some (tgt a) ∧ w'.cell? ⟨w.heap.size, 1, none⟩ = some (.iface t x) ∧ Below w.heap.size w w' := by
  go_enter Tryd.func85, Tryd.ntmps85
  go_wp2
  go_region
  all_goals
    go_wp2
    go_ret
    exact ⟨rfl, by simp [go_sem], by simp [go_sem], ((Below.refl _ _).alloc (Nat.le_refl _) _).drew⟩

theorem is_headed (b t : Nat) (x : Value) (a : Addr) (w : World) (hg : w.cell? ⟨b, 0, none⟩ = some (tgt a)) (h : w.cell? ⟨b, 1, none⟩ = some (.iface t x)) :
    Calls Tryd.prog 28 #[.iface 64 (.pointer (some ⟨b, 0, none⟩)), tgt a, .bool true] w fun e w' => e = .returned (.bool true) ∧ Below w.heap.size w w' := by
  have g1 := fun v w => ne_headed v a w
  have g2 := noIs_headed
  have g3 := noUw_headed
  have g5 := uws_headed
  have g4 := method_uws
  go_enter Tryd.func28, Tryd.ntmps28
  go_wp2
  refine wp_loop_rounds 1 ?_
  rw [rounds_succ]
  go_wp2_with fail
  refine (unwraps_any b t x a _ hg h).mono ?_
  rintro e w1 ⟨rfl, hc, hc1, hB⟩
  go_wp2
  refine wp_loop_rounds 1 ?_
  rw [rounds_succ]
  go_wp2_with fail
  refine (is_self a _).mono ?_
  rintro e w2 ⟨rfl, rfl⟩
  go_wp2
  go_ret
  exact ⟨rfl, hB⟩

theorem is6_headed (b t : Nat) (x : Value) (a : Addr) (w : World) (hg : w.cell? ⟨b, 0, none⟩ = some (tgt a)) (h : w.cell? ⟨b, 1, none⟩ = some (.iface t x)) (hd : Bd w 0 2 (.iface t x)) :
    Calls Tryd.prog 28 #[.iface 64 (.pointer (some ⟨b, 0, none⟩)), six, .bool true] w fun e w' => e = .returned (.bool false) ∧ Below w.heap.size w w' := by
  have g1 := ne6_headed
  have g2 := noIs_headed
  have g3 := noUw_headed
  have g5 := uws_headed
  have g4 := method_uws
  have HD : Hid (Bd w 0 2 (.iface t x)) := hd
  clear hd
  go_enter Tryd.func28, Tryd.ntmps28
  go_wp2
  refine wp_loop_rounds 1 ?_
  rw [rounds_succ]
  go_wp2_with fail
  refine (unwraps_any b t x a _ hg h).mono ?_
  rintro e w1 ⟨rfl, hc, hc1, hB⟩
  have HX : Hid (Calls Tryd.prog 28 #[.iface t x, six, .bool true] w1 fun e w' => e = .returned (.bool false) ∧ w' = w1) := (is6_bd (HD.out.kept (Nat.le_refl _) (fun c _ hcl => hB.cell (p := ⟨c, 2, none⟩) hcl))).2
  go_wp2
  refine wp_loop_rounds 3 ?_
  rw [rounds_succ]
  go_wp2_with fail
  refine (is6_leaf 137 (.pointer (some a)) ⟨ne6_sent a, noIs_sent _, noUw_sent _, noUws_sent _⟩ _).mono ?_
  rintro e w2 ⟨rfl, rfl⟩
  go_wp2
  rw [rounds_succ]
  go_wp2_with fail
  refine HX.out.mono ?_
  rintro e w2 ⟨rfl, rfl⟩
  go_wp2
  rw [rounds_succ]
  go_wp2
  go_ret
  exact ⟨rfl, hB⟩
end Go.Proofs.YtcbjoogkodcgkaaDoor

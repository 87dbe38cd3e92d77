/-
  Walks: tidings.errnoOf.
-/
import Derived.Test.YtcbjoogkodcgkaaDoorErrs5
namespace Go.Proofs.YtcbjoogkodcgkaaDoor
open Go.RowKit Go.Extern.Stop Go.Stop Go.Extern
set_option maxHeartbeats 4000000
set_option maxRecDepth 100000

/-- The world in which errnoOf asks. -/
abbrev W1 (w : World) : World := w.alloc (.cells #[.int .i64 0] 50)

theorem errno_nil (a : Addr) (w : World) (hg : w.cell? ⟨0, 0, none⟩ = some (tgt a)) :
    Calls Tryd.prog 13 #[.nilIface] w fun e w' => e = .returned (.int .i64 0) ∧ w' = W1 w := by
  have hg1 : ∀ o, (w.alloc o).cell? ⟨0, 0, none⟩ = some (tgt a) := fun o => cell_al o hg
  have c1 : Hid (∀ w, Calls Tryd.prog 19 #[.nilIface, tgt a] w fun e w' => e = .returned (.bool false) ∧ w' = w) := fun w => Is_nil a w
  have c0 : Hid (∀ w, Calls Tryd.prog 19 #[.nilIface, six] w fun e w' => e = .returned (.bool false) ∧ w' = w) := fun w => Is6_nil w
  have c2 : Hid (∀ t w, Calls Tryd.prog 20 #[.nilIface, t] w fun e w' => e = .returned (.bool false) ∧ w' = w) := fun t w => As_nil t w
  go_enter Tryd.func13, Tryd.ntmps13
  go_wp2_with fail
  refine (c0.out _).mono ?_
  rintro e w1 ⟨rfl, rfl⟩
  go_wp2_with fail
  refine (c1.out _).mono ?_
  rintro e w1 ⟨rfl, rfl⟩
  go_wp2_with fail
  refine (c2.out _ _).mono ?_
  rintro e w1 ⟨rfl, rfl⟩
  go_wp2
  go_ret
  exact ⟨rfl, rfl⟩

theorem errno_num (t : Nat) (v : Value) (a : Addr) (n : Int) (w : World) (hg : w.cell? ⟨0, 0, none⟩ = some (tgt a)) (hq : w.cell? ⟨3, 0, none⟩ = some (rty 41))
    (hIs6 : Calls Tryd.prog 28 #[.iface t v, six, .bool true] (W1 w) fun e w' => e = .returned (.bool false) ∧ w' = W1 w)
    (hIs : Calls Tryd.prog 28 #[.iface t v, tgt a, .bool true] (W1 w) fun e w' => e = .returned (.bool false) ∧ w' = W1 w)
    (hAs : ∀ W tv ta tg old, (∀ b o x, w.cell? ⟨b, o, none⟩ = some x → W.cell? ⟨b, o, none⟩ = some x) → W.cell? tv = some (.pointer (some ta)) → W.cell? ta = some old → W.frozen? ta = false →
      Calls Tryd.prog 32 #[.iface t v, tg, .agg #[hdl 53, .pointer (some tv), .int .u64 150], rty 50] W fun e w' => e = .returned (.bool true) ∧ w' = asW W tv ta n) :
    Calls Tryd.prog 13 #[.iface t v] w fun e w' => e = .returned (.int .i64 n) ∧ Below w.heap.size w w' := by
  have hg1 : (W1 w).cell? ⟨0, 0, none⟩ = some (tgt a) := cell_al _ hg
  have c1 : Hid (Calls Tryd.prog 19 #[.iface t v, tgt a] (W1 w) fun e w' => e = .returned (.bool false) ∧ w' = W1 w) := Is_of t v a (W1 w) false (fun w' => w' = W1 w) hIs
  have c0 : Hid (Calls Tryd.prog 19 #[.iface t v, six] (W1 w) fun e w' => e = .returned (.bool false) ∧ w' = W1 w) := Is6_of t v (W1 w) false (fun w' => w' = W1 w) hIs6
  have hta : (W1 w).cell? ⟨w.heap.size, 0, none⟩ = some (.int .i64 0) := by rw [World.cell?_alloc_at _ _ _ _ rfl]; rfl
  have c2 : Hid (Calls Tryd.prog 20 #[.iface t v, .iface 53 (.pointer (some ⟨w.heap.size, 0, none⟩))] (W1 w) fun e w' => e = .returned (.bool true) ∧ w' = asW (AsW (W1 w) ⟨w.heap.size, 0, none⟩) ⟨(W1 w).heap.size, 0, none⟩ ⟨w.heap.size, 0, none⟩ n) :=
    As_of t v ⟨w.heap.size, 0, none⟩ (W1 w) true _ (cell_al _ hq) (hAs _ _ _ _ (.int .i64 0) (fun b o x h => cell_al _ (cell_al _ (cell_al _ h))) (As_cell _ _) (cell_al _ (cell_al _ hta)) (by
      rw [frozen?_alloc_cells, frozen?_alloc_cells]; exact World.frozen?_alloc_at _ _ _ _ rfl))
  clear hIs hIs6 hAs
  go_enter Tryd.func13, Tryd.ntmps13
  go_wp2_with fail
  refine c0.out.mono ?_
  rintro e w1 ⟨rfl, rfl⟩
  go_wp2_with fail
  refine c1.out.mono ?_
  rintro e w1 ⟨rfl, rfl⟩
  go_wp2_with fail
  refine c2.out.mono ?_
  rintro e w1 ⟨rfl, hw⟩
  have hc : w1.cell? ⟨w.heap.size, 0, none⟩ = some (.int .i64 n) := by
    rw [hw]
    exact World.cell?_setCell_same _ _ _ (cell_al _ (cell_al _ (cell_al _ (cell_al _ hta))))
  have hb : Below w.heap.size w w1 := by
    rw [hw]
    refine Below.setCell (p := ⟨w.heap.size, 0, none⟩) ?_ (Nat.le_refl w.heap.size) _
    refine Below.alloc (Below.alloc (Below.alloc (Below.alloc (Below.alloc (Below.refl _ _) ?_ _) ?_ _) ?_ _) ?_ _) ?_ _
    all_goals (first | exact Nat.le_refl _ | (simp only [size_al]; omega))
  clear hw
  go_wp2
  go_ret
  exact ⟨rfl, hb⟩

/-- A chain of at most two wraps gives its number. -/
theorem errno_no (d : Nat) (hd : d ≤ 2) (v : Value) (a : Addr) (n : Int) (w : World) (hg : w.cell? ⟨0, 0, none⟩ = some (tgt a)) (hq : w.cell? ⟨3, 0, none⟩ = some (rty 41)) (h : ErrNo w d v n) (hn : n ≠ 6) :
    Calls Tryd.prog 13 #[v] w fun e w' => e = .returned (.int .i64 n) ∧ Below w.heap.size w w' := by
  have h6 := (is6_bd (w := W1 w) (Bd.al ⟨d, hd, ErrNo.bad hn h⟩ _)).2
  match d, h with
  | 0, h =>
    obtain rfl := h
    exact errno_num _ _ a n w hg hq h6 (is_num n a _) (fun W tv ta tg old _ h1 h2 h3 => as_num tv ta n old tg W h1 h2 h3)
  | 1, ⟨b, x, hv, hc, hx⟩ =>
    subst hv; obtain rfl := hx
    exact errno_num _ _ a n w hg hq h6 (is_one b n a _ (cell_al _ hc)) (fun W tv ta tg old hk h1 h2 h3 => as_one b tv ta n old tg W (hk _ _ _ hc) h1 h2 h3)
  | 2, ⟨b, x, hv, hc, ⟨b2, y, hy, hc2, hx⟩⟩ =>
    subst hv; subst hy; obtain rfl := hx
    exact errno_num _ _ a n w hg hq h6 (is_two b b2 n a _ (cell_al _ hc) (cell_al _ hc2)) (fun W tv ta tg old hk h1 h2 h3 => as_two b b2 tv ta n old tg W (hk _ _ _ hc) (hk _ _ _ hc2) h1 h2 h3)
  | k + 3, _ => omega

/-- Bytes that no list is told of. -/
theorem errno_headed (b : Nat) (x : Value) (a : Addr) (w : World) (h0 : w.cell? ⟨b, 0, none⟩ = some (tgt a)) (h : w.cell? ⟨b, 1, none⟩ = some x) (hd : Bd w 0 2 x) (hg : w.cell? ⟨0, 0, none⟩ = some (tgt a)) :
    Calls Tryd.prog 13 #[.iface 64 (.pointer (some ⟨b, 0, none⟩))] w fun e w' => e = .returned (.int .i64 5) ∧ Below w.heap.size w w' := by
  obtain ⟨⟨t, x, rfl⟩, _⟩ := is6_bd hd
  have hg1 : (W1 w).cell? ⟨0, 0, none⟩ = some (tgt a) := cell_al _ hg
  have c1 : Hid (∀ w1, Below (W1 w).heap.size (W1 w) w1 → Calls Tryd.prog 19 #[.iface 64 (.pointer (some ⟨b, 0, none⟩)), tgt a] w1 fun e w' => e = .returned (.bool true) ∧ Below w1.heap.size w1 w') := fun w1 hB1 =>
    Is_of _ _ a w1 true (fun w' => Below w1.heap.size w1 w') (is_headed b t x a w1 ((hB1.cell (World.block_lt_of_cell? _ _ (cell_al _ h0))).trans (cell_al _ h0)) ((hB1.cell (World.block_lt_of_cell? _ _ (cell_al _ h))).trans (cell_al _ h)))
  have c0 : Hid (Calls Tryd.prog 19 #[.iface 64 (.pointer (some ⟨b, 0, none⟩)), six] (W1 w) fun e w' => e = .returned (.bool false) ∧ Below (W1 w).heap.size (W1 w) w') := Is6_of _ _ (W1 w) false (fun w' => Below (W1 w).heap.size (W1 w) w') (is6_headed b t x a (W1 w) (cell_al _ h0) (cell_al _ h) (hd.al _))
  go_enter Tryd.func13, Tryd.ntmps13
  go_wp2_with fail
  refine c0.out.mono ?_
  rintro e w1 ⟨rfl, hB1⟩
  have hgw : w1.cell? ⟨0, 0, none⟩ = some (tgt a) := (hB1.cell (World.block_lt_of_cell? _ _ hg1)).trans hg1
  go_wp2_with fail
  refine (c1.out w1 hB1).mono ?_
  rintro e w2 ⟨rfl, hB2⟩
  have hB := hB1.trans (hB2.mono hB1.size)
  go_wp2
  go_ret
  exact ⟨rfl, ((Below.refl _ _).alloc (Nat.le_refl _) _).trans (hB.mono (by simp only [size_al]; omega))⟩
end Go.Proofs.YtcbjoogkodcgkaaDoor

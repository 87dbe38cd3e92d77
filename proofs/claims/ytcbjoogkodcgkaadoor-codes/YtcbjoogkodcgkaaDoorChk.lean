/-
  Walks: lists.isValue, lists.checkRow, fault.At, tidingsref.value, tidingsref.Row.
-/
import Derived.Test.YtcbjoogkodcgkaaDoorEnts2
namespace Go.Proofs.YtcbjoogkodcgkaaDoor
open Go.RowKit
set_option maxHeartbeats 1000000
set_option maxRecDepth 100000

theorem empty_text (t : ByteArray) : t.toList.isEmpty = (t.size == 0) := by
  rw [ByteArray.toList_eq]
  obtain ⟨⟨l⟩⟩ := t
  cases l <;> rfl
theorem below_box (w : World) (o : Obj) : Below w.heap.size w (w.alloc o) := (Below.refl _ _).alloc (Nat.le_refl _) _

theorem isValue_any (v : V) (w : World) :
    Calls Tryd.prog 48 #[v.val] w fun e w' => e = .returned (.bool (okV v)) ∧ Below w.heap.size w w' := by
  obtain ⟨k, i, t⟩ := v
  by_cases h0 : k = 0
  · subst h0
    go_enter Tryd.func48, Tryd.ntmps48
    go_wp2
    all_goals
      go_ret
      refine ⟨?_, below_box _ _⟩
      simp [okV, *, empty_text]
  have k0 : (k == 0) = false := by simpa using h0
  by_cases h1 : k = 1
  · subst h1
    clear h0 k0
    by_cases hi : i = 0
    · subst hi
      go_enter Tryd.func48, Tryd.ntmps48
      go_wp2
      all_goals
        go_ret
        refine ⟨?_, below_box _ _⟩
        simp [okV, *, empty_text]
    · have i0 : (i == 0) = false := by simpa using hi
      by_cases hi1 : i = 1
      · subst hi1
        clear i0 hi
        go_enter Tryd.func48, Tryd.ntmps48
        go_wp2
        all_goals
          go_ret
          refine ⟨?_, below_box _ _⟩
          simp [okV, *, empty_text]
      · have i1 : (i == 1) = false := by simpa using hi1
        go_enter Tryd.func48, Tryd.ntmps48
        go_wp2
        all_goals
          go_ret
          refine ⟨?_, below_box _ _⟩
          simp [okV, *]
  have k1 : (k == 1) = false := by simpa using h1
  by_cases h2 : k = 2
  · subst h2
    clear h0 k0 h1 k1
    go_enter Tryd.func48, Tryd.ntmps48
    go_wp2
    all_goals
      go_ret
      refine ⟨?_, below_box _ _⟩
      simp [okV, *, empty_text]
  have k2 : (k == 2) = false := by simpa using h2
  by_cases h3 : k = 3
  · subst h3
    clear h0 k0 h1 k1 h2 k2
    go_enter Tryd.func48, Tryd.ntmps48
    go_wp2
    all_goals
      go_ret
      refine ⟨?_, below_box _ _⟩
      first
        | (simp [okV, *]; done)
        | (simp [okV, *]; omega)
  have k3 : (k == 3) = false := by simpa using h3
  go_enter Tryd.func48, Tryd.ntmps48
  go_wp2
  go_ret
  refine ⟨?_, below_box _ _⟩
  simp [okV, *]

theorem isValue_is (v : V) (b : Bool) (h : okV v = b) (w : World) :
    Calls Tryd.prog 48 #[v.val] w fun e w' => e = .returned (.bool b) ∧ Below w.heap.size w w' := h ▸ isValue_any v w

/-- An error that the calls ask for its number: a Number, wrapped d times. -/
def ErrNo (w : World) : Nat → Value → Int → Prop
  | 0, v, n => v = .iface 50 (.int .i64 n)
  | d + 1, v, n => ∃ b x, v = .iface 115 (.pointer (some ⟨b, 0, none⟩)) ∧ w.cell? ⟨b, 2, none⟩ = some x ∧ ErrNo w d x n
theorem ErrNo.kept {w w' : World} (h : ∀ b o, b < w.heap.size → w'.cell? ⟨b, o, none⟩ = w.cell? ⟨b, o, none⟩) : ∀ {d : Nat} {v : Value} {n : Int}, ErrNo w d v n → ErrNo w' d v n
  | 0, _, _, hv => hv
  | _ + 1, _, _, ⟨b, x, hv, hc, hx⟩ => ⟨b, x, hv, (h b 2 (World.block_lt_of_cell? w _ hc)).trans hc, ErrNo.kept h hx⟩
theorem ErrNo.some {w : World} : ∀ {d : Nat} {v : Value} {n : Int}, ErrNo w d v n → ∃ t x, v = .iface t x
  | 0, _, _, hv => ⟨_, _, hv⟩
  | _ + 1, _, _, ⟨_, _, hv, _⟩ => ⟨_, _, hv⟩

/-- An error that wraps none: a sentinel, or a number that is not that of files. -/
def Lf (v : Value) : Prop := (∃ a, v = .iface 137 (.pointer (some a))) ∨ (∃ n : Int, n ≠ 6 ∧ v = .iface 50 (.int .i64 n))
/-- Such an error, wrapped d times, in blocks from base on. -/
def Bad (w : World) (base : Nat) : Nat → Value → Prop
  | 0, v => Lf v
  | d + 1, v => ∃ b x, base ≤ b ∧ v = .iface 115 (.pointer (some ⟨b, 0, none⟩)) ∧ w.cell? ⟨b, 2, none⟩ = some x ∧ Bad w base d x
/-- Wrapped k times at most. -/
def Bd (w : World) (base k : Nat) (v : Value) : Prop := ∃ d, d ≤ k ∧ Bad w base d v
theorem Bad.kept {w w' : World} {base base' : Nat} (hb : base' ≤ base) (h : ∀ b, base ≤ b → b < w.heap.size → w'.cell? ⟨b, 2, none⟩ = w.cell? ⟨b, 2, none⟩) : ∀ {d : Nat} {v : Value}, Bad w base d v → Bad w' base' d v
  | 0, _, hv => hv
  | _ + 1, _, ⟨b, x, hl, hv, hc, hx⟩ => ⟨b, x, Nat.le_trans hb hl, hv, (h b hl (World.block_lt_of_cell? w _ hc)).trans hc, Bad.kept hb h hx⟩
theorem Bd.kept {w w' : World} {base base' k : Nat} {v : Value} (hb : base' ≤ base) (h : ∀ b, base ≤ b → b < w.heap.size → w'.cell? ⟨b, 2, none⟩ = w.cell? ⟨b, 2, none⟩) : Bd w base k v → Bd w' base' k v
  | ⟨d, hd, hv⟩ => ⟨d, hd, hv.kept hb h⟩
theorem Bd.mono {w : World} {base base' k k' : Nat} {v : Value} (hb : base' ≤ base) (hk : k ≤ k') : Bd w base k v → Bd w base' k' v
  | ⟨d, hd, hv⟩ => ⟨d, Nat.le_trans hd hk, hv.kept hb (fun _ _ _ => rfl)⟩
theorem Bd.zero {w : World} {base : Nat} {v : Value} : Bd w base 0 v → Lf v
  | ⟨0, _, hv⟩ => hv
theorem Lf.bd {v : Value} (h : Lf v) (w : World) (base k : Nat) : Bd w base k v := ⟨0, Nat.zero_le _, h⟩
theorem Bd.al {w : World} {base k : Nat} {v : Value} (h : Bd w base k v) (o : Obj) : Bd (w.alloc o) base k v := h.kept (Nat.le_refl _) (fun b _ hb => World.cell?_alloc_lt w _ ⟨b, 2, none⟩ hb)
theorem Bd.dr {w : World} {base k : Nat} {v : Value} (h : Bd w base k v) : Bd w.drew base k v := Bd.kept (w := w) (w' := w.drew) (Nat.le_refl _) (fun _ _ _ => rfl) h
theorem Bd.set {w : World} {base k : Nat} {v : Value} (h : Bd w base k v) {b : Nat} (hb : b < base) (j : Nat) (u : Value) : Bd (w.setCell ⟨b, j, none⟩ u) base k v :=
  h.kept (Nat.le_refl _) (fun c hc _ => World.cell?_of_block (Below.heap_setCell _ _ _ _ (by show c ≠ b; omega)))
theorem Bd.at {w : World} {base k : Nat} {v : Value} (h : Bd w base k v) {name : ByteArray} {i : Int} {b : Nat} (he : b = w.heap.size) (hb : base ≤ b) : Bd (w.alloc (.cells #[.string name, .int .i64 i, v] 117)) base (k + 1) (.iface 115 (.pointer (some ⟨b, 0, none⟩))) := by
  subst he
  obtain ⟨d, hd, hv⟩ := h
  exact ⟨d + 1, Nat.succ_le_succ hd, w.heap.size, v, hb, rfl, by simp [go_sem], hv.kept (Nat.le_refl _) (fun b _ hb => World.cell?_alloc_lt w _ ⟨b, 2, none⟩ hb)⟩
theorem ErrNo.bad {w : World} : ∀ {d : Nat} {v : Value} {n : Int}, n ≠ 6 → ErrNo w d v n → Bad w 0 d v
  | 0, _, n, hn, hv => .inr ⟨n, hn, hv⟩
  | _ + 1, _, _, hn, ⟨b, x, hv, hc, hx⟩ => ⟨b, x, Nat.zero_le _, hv, hc, ErrNo.bad hn hx⟩
theorem Lf.num {n : Int} (h : n ≠ 6) : Lf (.iface 50 (.int .i64 n)) := .inr ⟨n, h, rfl⟩

theorem at_any (name : ByteArray) (i : Int) (t : Nat) (x : Value) (w : World) :
    Calls Tryd.prog 34 #[.string name, .int .i64 i, .iface t x] w fun e w' => e = .returned (.iface 115 (.pointer (some ⟨w.heap.size, 0, none⟩))) ∧ w' = w.alloc (.cells #[.string name, .int .i64 i, .iface t x] 117) := by
  go_enter Tryd.func34, Tryd.ntmps34
  go_wp2
  go_ret
  exact ⟨rfl, rfl⟩
theorem at_err (name : ByteArray) (i : Int) (d : Nat) (v : Value) (n : Int) (w : World) (h : ErrNo w d v n) :
    Calls Tryd.prog 34 #[.string name, .int .i64 i, v] w fun e w' => ∃ v', e = .returned v' ∧ ErrNo w' (d + 1) v' n ∧ Below w.heap.size w w' := by
  obtain ⟨t, x, rfl⟩ := h.some
  refine (at_any name i t x w).mono ?_
  rintro e w' ⟨rfl, rfl⟩
  exact ⟨_, rfl, ⟨w.heap.size, .iface t x, rfl, by simp [go_sem], h.kept (fun b o hb => World.cell?_alloc_lt w _ ⟨b, o, none⟩ hb)⟩, below_box _ _⟩

def zeroV : V := ⟨0, 0, ByteArray.empty⟩
/-- Is the i-th cell what a row wants there? -/
def okCell (r : R) (i : Nat) : Bool := if (i : Int) < r.w then okV (r.at i) else eqV (r.at i) zeroV
def okRow (r : R) : Bool := decide (1 ≤ r.w) && (decide (r.w ≤ 4) && (okCell r 0 && (okCell r 1 && (okCell r 2 && okCell r 3))))

theorem idx_any (r : R) (k : Nat) (hk : k < 4) (w : World) : (Instr.index 34 (.agg #[.int .i64 r.a.k, .int .i64 r.a.i, .string r.a.t, .int .i64 r.b.k, .int .i64 r.b.i, .string r.b.t, .int .i64 r.c.k, .int .i64 r.c.i, .string r.c.t, .int .i64 r.d.k, .int .i64 r.d.i, .string r.d.t]) (.int .i64 k)).run Tryd.prog w = .ok (r.at k).val w := by
  rcases lt4 hk with rfl | rfl | rfl | rfl <;> kernel_rfl

theorem okRow_bad {r : R} {k : Nat} (hk : k < 4) (h : okCell r k = false) : okRow r = false := by
  unfold okRow
  rcases lt4 hk with rfl | rfl | rfl | rfl <;> simp [h]

theorem checkRow_width (r : R) (b o : Nat) (w : World) (h : RowAt w b o r) (hw : ¬ (1 ≤ r.w ∧ r.w ≤ 4)) :
    Calls Tryd.prog 33 #[.pointer (some ⟨b, o, none⟩)] w fun e w' => ∃ v', e = .returned v' ∧ ErrNo w' 1 v' 1 ∧ Below w.heap.size w w' := by
  have c0 := h.w0
  by_cases h1 : r.w < 1
  all_goals
    go_enter Tryd.func33, Tryd.ntmps33
    go_wp2_with (first
      | (go_at_call 34; refine (at_err _ _ 0 _ 1 _ rfl).mono ?_; rintro e w' ⟨v', rfl, hE, hB⟩))
    go_ret
    exact ⟨v', rfl, hE, hB⟩

theorem checkRow_any (r : R) (b o : Nat) (w : World) (h : RowAt w b o r) (hw1 : 1 ≤ r.w) (hw4 : r.w ≤ 4) :
    Calls Tryd.prog 33 #[.pointer (some ⟨b, o, none⟩)] w fun e w' => ((okRow r = true ∧ e = .returned .nilIface) ∨ (okRow r = false ∧ ∃ v', e = .returned v' ∧ ErrNo w' 1 v' 1)) ∧ Below w.heap.size w w' := by
  obtain ⟨c0, c1, c2, c3, c4, c5, c6, c7, c8, c9, c10, c11, c12⟩ := h.flat
  have hbl : b < w.heap.size := World.block_lt_of_cell? w _ c0
  go_enter Tryd.func33, Tryd.ntmps33
  go_wp2
  clear c1 c2 c3 c4 c5 c6 c7 c8 c9 c10 c11 c12
  go_loopw [27] (fun i wr => ∃ k : Nat, i = .int .i64 k ∧ k ≤ 4 ∧ (∀ j, j < k → okCell r j = true) ∧ Below w.heap.size w wr) (fun i _ => 4 - (intOf i).toNat)
  case atStart => exact ⟨0, rfl, by omega, by omega, Below.refl _ _⟩
  case round =>
    obtain ⟨k, rfl, hk, hall, hB⟩ := hrel
    have HALL : Hid (∀ j, j < k → okCell r j = true) := hall
    clear hall
    have d0 : wr.cell? ⟨b, o, none⟩ = some (.int .i64 r.w) := (hB.cell (p := ⟨b, o, none⟩) hbl).trans c0
    clear c0
    have hsz := hB.size
    have hbw : b < wr.heap.size := by omega
    by_cases hlt : k < 4
    · have hki : (k : Int) < 4 := by omega
      have hk0 : (0 : Int) ≤ k := by omega
      have hix := idx_any r k hlt
      by_cases hkw : (k : Int) < r.w
      · cases hv : okV (r.at k)
        · have HV : Hid (okCell r k = false) := by show okCell r k = false; simp [okCell, hkw, hv]
          go_wp2_with fail
          refine (isValue_is (r.at k) _ hv _).mono ?_
          rintro e w1 ⟨rfl, hB1⟩
          have hC1 : w1.cell? ⟨b, o, none⟩ = some (.int .i64 r.w) := ((bcell hB1).1 b o (by simp; omega)).trans ((World.cell?_alloc_lt _ _ ⟨b, o, none⟩ hbw).trans d0)
          have hz : w.heap.size ≤ w1.heap.size := by have := hB1.size; simp at this; omega
          have hBa := (hB.alloc hsz _).trans (hB1.mono (by simp; omega))
          go_wp2_with (first
            | (go_at_call 34; refine (at_err _ _ 0 _ 1 _ rfl).mono ?_; rintro e w2 ⟨v', rfl, hE, hB2⟩))
          go_ret
          exact ⟨.inr ⟨okRow_bad hlt HV.out, v', rfl, hE⟩, hBa.trans (hB2.mono hz)⟩
        · have HV : Hid (okCell r k = true) := by show okCell r k = true; simp [okCell, hkw, hv]
          have hnge : ¬ (r.w ≤ (k : Int)) := by omega
          go_wp2_with fail
          refine (isValue_is (r.at k) _ hv _).mono ?_
          rintro e w1 ⟨rfl, hB1⟩
          have hC1 : w1.cell? ⟨b, o, none⟩ = some (.int .i64 r.w) := ((bcell hB1).1 b o (by simp; omega)).trans ((World.cell?_alloc_lt _ _ ⟨b, o, none⟩ hbw).trans d0)
          have hz : w.heap.size ≤ w1.heap.size := by have := hB1.size; simp at this; omega
          have hBa := (hB.alloc hsz _).trans (hB1.mono (by simp; omega))
          go_wp2
          go_roundw
          case rel =>
            refine ⟨k + 1, by go_num, by omega, ?_, hBa⟩
            intro j hj
            by_cases hjk : j = k
            · subst hjk; exact HV.out
            · exact HALL.out j (by omega)
          case measure => simp [intOf]; omega
      · have hnv : ∀ w', (binOp .neq 33 (r.at k).val (.agg #[.int .i64 0, .int .i64 0, .string ByteArray.empty])).run Tryd.prog w' = .ok (.bool (!eqV (r.at k) zeroV)) w' := fun w' => neVal (r.at k) zeroV w'
        have hnv2 : ∀ w', (binOp .neq 33 (r.at k).val (.agg #[.int .i64 0, .int .i64 0, .string ⟨#[]⟩])).run Tryd.prog w' = .ok (.bool (!eqV (r.at k) zeroV)) w' := fun w' => neVal (r.at k) zeroV w'
        have hge : r.w ≤ (k : Int) := by omega
        clear hkw
        cases hv : eqV (r.at k) zeroV
        · have HV : Hid (okCell r k = false) := by show okCell r k = false; unfold okCell; rw [if_neg (by omega)]; exact hv
          rw [hv] at hnv hnv2
          clear hv
          go_wp2_with (first
            | (go_at_call 34; refine (at_err _ _ 0 _ 1 _ rfl).mono ?_; rintro e w2 ⟨v', rfl, hE, hB2⟩))
          go_ret
          exact ⟨.inr ⟨okRow_bad hlt HV.out, v', rfl, hE⟩, (hB.alloc hsz _).trans (hB2.mono (by simp; omega))⟩
        · have HV : Hid (okCell r k = true) := by show okCell r k = true; unfold okCell; rw [if_neg (by omega)]; exact hv
          rw [hv] at hnv hnv2
          clear hv
          go_wp2
          go_roundw
          case rel =>
            refine ⟨k + 1, by go_num, by omega, ?_, hB.alloc hsz _⟩
            intro j hj
            by_cases hjk : j = k
            · subst hjk; exact HV.out
            · exact HALL.out j (by omega)
          case measure => simp [intOf]; omega
    · have hk4 : (4 : Int) ≤ k := by omega
      have H4 : Hid (okRow r = true) := by
        show okRow r = true
        have h0 := HALL.out 0 (by omega); have h1 := HALL.out 1 (by omega); have h2 := HALL.out 2 (by omega); have h3 := HALL.out 3 (by omega)
        simp [okRow, hw1, hw4, h0, h1, h2, h3]
      go_wp2
      go_ret
      exact ⟨.inl ⟨H4.out, rfl⟩, hB⟩

end Go.Proofs.YtcbjoogkodcgkaaDoor

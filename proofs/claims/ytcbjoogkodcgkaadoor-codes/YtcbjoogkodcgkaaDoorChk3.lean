/-
  Walks: lists.CheckOrder.
-/
import Derived.Test.YtcbjoogkodcgkaaDoorChk2
namespace Go.Proofs.YtcbjoogkodcgkaaDoor
open Go.RowKit
set_option maxHeartbeats 1000000
set_option maxRecDepth 100000

/-- The entry at i: its weight is not 0, its row greater than the one ahead of it. -/
def OrdAt (l : List E) (i : Nat) : Prop := ∀ e, l[i]? = some e → e.n ≠ 0 ∧ (0 < i → ∀ p, l[i - 1]? = some p → cmpR p.r e.r < 0)
def InOrd (l : List E) : Prop := ∀ i, OrdAt l i

theorem checkOrder_nil (a : Option Addr) (cap : Nat) (w : World) :
    Calls Tryd.prog 22 #[.slice a 0 cap] w fun e w' => e = .returned .nilIface ∧ Below w.heap.size w w' := by
  go_enter Tryd.func22, Tryd.ntmps22
  go_wp2
  refine wp_loop_rounds 1 ?_
  rw [rounds_succ]
  go_wp2
  go_ret
  exact ⟨rfl, Below.refl _ _⟩

theorem checkOrder_cons (l : List E) (b o cap : Nat) (w : World) (hl : ListAt w b o l) (hn : 0 < l.length) (hn2 : l.length ≤ 128) (hw : ∀ e ∈ l, 1 ≤ e.r.w ∧ e.r.w ≤ 4) :
    Calls Tryd.prog 22 #[.slice (some ⟨b, o, none⟩) l.length cap] w fun e w' => ((InOrd l ∧ e = .returned .nilIface) ∨ (¬ InOrd l ∧ ∃ v, e = .returned v ∧ ErrNo w' 1 v 4)) ∧ Below w.heap.size w w' := by
  have hbl : b < w.heap.size := World.block_lt_of_cell? w _ (hl 0 hn).row.w0
  have HI : Hid ((∀ i, i < l.length → OrdAt l i) → InOrd l) := by
    intro h i
    by_cases hi : i < l.length
    · exact h i hi
    · intro e he
      rw [List.getElem?_eq_none (by omega)] at he
      cases he
  have HI2 : Hid (∀ i, ¬ OrdAt l i → ¬ InOrd l) := fun i h h2 => h (h2 i)
  generalize InOrd l = G at HI HI2 ⊢
  obtain ⟨n, hN⟩ : ∃ n, l.length = n := ⟨_, rfl⟩
  have HN : Hid (l.length = n) := hN
  rw [hN] at hn2 HI ⊢
  clear hN
  go_enter Tryd.func22, Tryd.ntmps22
  go_wp2
  go_loopw [7] (fun i wr => ∃ k : Nat, i = .int .i64 k ∧ k ≤ n ∧ (∀ j, j < k → OrdAt l j) ∧ Below w.heap.size w wr) (fun i _ => n - (intOf i).toNat)
  case atStart => exact ⟨0, rfl, Nat.zero_le _, fun j hj => absurd hj (Nat.not_lt_zero j), Below.refl _ _⟩
  case round =>
    obtain ⟨k, rfl, hk, hall, hB⟩ := hrel
    have HALL : Hid (∀ j, j < k → OrdAt l j) := hall
    clear hall
    have hsz := hB.size
    have hbw : b < wr.heap.size := by omega
    by_cases hlt : k < n
    · have hlt' : k < l.length := by have := HN.out; omega
      have hki : (k : Int) < n := by omega
      have hE := ((hl k hlt').same (fun j => hB.cell (p := ⟨b, j, none⟩) hbl))
      obtain ⟨e, he⟩ : ∃ e, l[k] = e := ⟨_, rfl⟩
      have hmem : e ∈ l := he ▸ List.getElem_mem hlt'
      have hew := hw e hmem
      obtain ⟨hew1, hew4⟩ := hew
      rw [he] at hE
      have HG : Hid (l[k]? = some e) := by show l[k]? = some e; rw [List.getElem?_eq_getElem hlt', he]
      clear he
      obtain ⟨c0, c1, c2, c3, c4, c5, c6, c7, c8, c9, c10, c11, c12⟩ := hE.row.flat
      have c13 := hE.wt
      by_cases hz : e.n = 0
      · have hzq : (e.n == 0) = true := by simpa using hz
        have HZ : Hid (¬ OrdAt l k) := fun h => (h e HG.out).1 hz
        clear hz
        go_wp2
        go_quiet (fail)
        go_wp2_with fail
        refine (at_err _ _ 0 _ 4 _ rfl).mono ?_
        rintro ev w2 ⟨v', rfl, hE2, hB2⟩
        go_wp2
        go_ret
        exact ⟨.inr ⟨HI2.out k HZ.out, v', rfl, hE2⟩, (below_drewN (hB.alloc hsz _) _).trans (hB2.mono (by simp; omega))⟩
      · have hzq : (e.n == 0) = false := by simpa using hz
        have HZ : Hid (¬ e.n = 0) := hz
        clear hz
        by_cases hk0 : k = 0
        · have hd : decide ((0 : Int) < (k : Int)) = false := by simp; omega
          have hd2 : decide (0 < k) = false := by simp; omega
          have HK0 : Hid (k = 0) := hk0
          clear hk0
          go_wp2
          go_quiet (fail)
          go_wp2
          go_roundw
          case rel =>
            refine ⟨k + 1, by go_num, by omega, ?_, below_drewN (hB.alloc hsz _) _⟩
            intro j hj
            by_cases hjk : j = k
            · subst hjk
              intro e' he'
              rw [HG.out] at he'
              cases he'
              exact ⟨HZ.out, fun h => absurd h (by have := HK0.out; omega)⟩
            · exact HALL.out j (by omega)
          case measure => simp [intOf]; omega
        · have hkp : (0 : Int) < (k : Int) := by omega
          have hlt1 : k - 1 < l.length := by omega
          have hP := ((hl (k - 1) hlt1).same (fun j => hB.cell (p := ⟨b, j, none⟩) hbl)).row
          obtain ⟨p, hp⟩ : ∃ p, l[k - 1] = p := ⟨_, rfl⟩
          have hpw := hw p (hp ▸ List.getElem_mem hlt1)
          obtain ⟨hpw1, hpw4⟩ := hpw
          rw [hp] at hP
          have HP : Hid (l[k - 1]? = some p) := by show l[k - 1]? = some p; rw [List.getElem?_eq_getElem hlt1, hp]
          clear hp
          have hkc : (((k : Int) - 1).toNat) = k - 1 := by omega
          have hk1 : (0 : Int) ≤ (k : Int) - 1 := by omega
          have hk2 : (k : Int) - 1 < n := by omega
          have hk3 : (1 : Int) ≤ (k : Int) := by omega
          have hk4 : 1 ≤ k := by omega
          have hk5 : (k : Int) < (n : Int) + 1 := by omega
          have hk6 : k < n + 1 := by omega
          have hk7 : k ≤ n := by omega
          have hk8 : (k : Int) ≤ n := by omega
          have hwr : IntKind.i64.wrap ((k : Int) - 1) = (k : Int) - 1 := by rw [IntKind.wrap_i64]; omega
          obtain ⟨d0, d1, d2, d3, d4, d5, d6, d7, d8, d9, d10, d11, d12⟩ := hP.flat
          have hd : decide ((0 : Int) < (k : Int)) = true := by simp; omega
          have hd2 : decide (0 < k) = true := by simp; omega
          have hcl : wr.heap.size < wr.heap.size + 1 := Nat.lt_succ_self _
          have hcb : b < wr.heap.size + 1 := by omega
          by_cases hc : cmpR p.r e.r < 0
          · have hcq : decide (0 ≤ cmpR p.r e.r) = false := by simp; omega
            have HC : Hid (cmpR p.r e.r < 0) := hc
            clear hc
            go_wp2
            go_region_held3 (fun w' => w'.cell? ⟨wr.heap.size, 0, none⟩ = some (.int .i64 e.r.w) ∧ w'.cell? ⟨wr.heap.size, 1, none⟩ = some (.int .i64 e.r.a.k) ∧ w'.cell? ⟨wr.heap.size, 2, none⟩ = some (.int .i64 e.r.a.i) ∧ w'.cell? ⟨wr.heap.size, 3, none⟩ = some (.string e.r.a.t) ∧ w'.cell? ⟨wr.heap.size, 4, none⟩ = some (.int .i64 e.r.b.k) ∧ w'.cell? ⟨wr.heap.size, 5, none⟩ = some (.int .i64 e.r.b.i) ∧ w'.cell? ⟨wr.heap.size, 6, none⟩ = some (.string e.r.b.t) ∧ w'.cell? ⟨wr.heap.size, 7, none⟩ = some (.int .i64 e.r.c.k) ∧ w'.cell? ⟨wr.heap.size, 8, none⟩ = some (.int .i64 e.r.c.i) ∧ w'.cell? ⟨wr.heap.size, 9, none⟩ = some (.string e.r.c.t) ∧ w'.cell? ⟨wr.heap.size, 10, none⟩ = some (.int .i64 e.r.d.k) ∧ w'.cell? ⟨wr.heap.size, 11, none⟩ = some (.int .i64 e.r.d.i) ∧ w'.cell? ⟨wr.heap.size, 12, none⟩ = some (.string e.r.d.t) ∧ w'.cell? ⟨wr.heap.size, 13, none⟩ = some (.int .i64 e.n) ∧ w'.cell? ⟨b, o + (k - 1) * 14, none⟩ = some (.int .i64 p.r.w) ∧ w'.cell? ⟨b, o + (k - 1) * 14 + 1, none⟩ = some (.int .i64 p.r.a.k) ∧ w'.cell? ⟨b, o + (k - 1) * 14 + 2, none⟩ = some (.int .i64 p.r.a.i) ∧ w'.cell? ⟨b, o + (k - 1) * 14 + 3, none⟩ = some (.string p.r.a.t) ∧ w'.cell? ⟨b, o + (k - 1) * 14 + 4, none⟩ = some (.int .i64 p.r.b.k) ∧ w'.cell? ⟨b, o + (k - 1) * 14 + 5, none⟩ = some (.int .i64 p.r.b.i) ∧ w'.cell? ⟨b, o + (k - 1) * 14 + 6, none⟩ = some (.string p.r.b.t) ∧ w'.cell? ⟨b, o + (k - 1) * 14 + 7, none⟩ = some (.int .i64 p.r.c.k) ∧ w'.cell? ⟨b, o + (k - 1) * 14 + 8, none⟩ = some (.int .i64 p.r.c.i) ∧ w'.cell? ⟨b, o + (k - 1) * 14 + 9, none⟩ = some (.string p.r.c.t) ∧ w'.cell? ⟨b, o + (k - 1) * 14 + 10, none⟩ = some (.int .i64 p.r.d.k) ∧ w'.cell? ⟨b, o + (k - 1) * 14 + 11, none⟩ = some (.int .i64 p.r.d.i) ∧ w'.cell? ⟨b, o + (k - 1) * 14 + 12, none⟩ = some (.string p.r.d.t)) (simp [go_sem, *])
              (first
                | (go_at_call 35; refine (compare_any p.r e.r hpw1 hpw4 hew1 hew4 _).mono ?_; rintro ev w2 ⟨rfl, hB2⟩; have hC2 := fun c j (h : c < wr.heap.size + 1) => (bcell hB2).1 c j (by simpa using h)))
            go_wp2
            go_roundw
            case rel =>
              refine ⟨k + 1, by go_num, by omega, ?_, ((hB.alloc hsz _).drew).trans (hB2.mono (by simp; omega))⟩
              intro j hj
              by_cases hjk : j = k
              · subst hjk
                intro e' he'
                rw [HG.out] at he'
                cases he'
                refine ⟨HZ.out, fun _ p' hp' => ?_⟩
                rw [HP.out] at hp'
                cases hp'
                exact HC.out
              · exact HALL.out j (by omega)
            case measure => simp [intOf]; omega
          · have hcq : decide (0 ≤ cmpR p.r e.r) = true := by simp; omega
            have HC : Hid (¬ OrdAt l k) := fun h => hc ((h e HG.out).2 (by omega) p HP.out)
            clear hc
            go_wp2
            go_region_held3 (fun w' => w'.cell? ⟨wr.heap.size, 0, none⟩ = some (.int .i64 e.r.w) ∧ w'.cell? ⟨wr.heap.size, 1, none⟩ = some (.int .i64 e.r.a.k) ∧ w'.cell? ⟨wr.heap.size, 2, none⟩ = some (.int .i64 e.r.a.i) ∧ w'.cell? ⟨wr.heap.size, 3, none⟩ = some (.string e.r.a.t) ∧ w'.cell? ⟨wr.heap.size, 4, none⟩ = some (.int .i64 e.r.b.k) ∧ w'.cell? ⟨wr.heap.size, 5, none⟩ = some (.int .i64 e.r.b.i) ∧ w'.cell? ⟨wr.heap.size, 6, none⟩ = some (.string e.r.b.t) ∧ w'.cell? ⟨wr.heap.size, 7, none⟩ = some (.int .i64 e.r.c.k) ∧ w'.cell? ⟨wr.heap.size, 8, none⟩ = some (.int .i64 e.r.c.i) ∧ w'.cell? ⟨wr.heap.size, 9, none⟩ = some (.string e.r.c.t) ∧ w'.cell? ⟨wr.heap.size, 10, none⟩ = some (.int .i64 e.r.d.k) ∧ w'.cell? ⟨wr.heap.size, 11, none⟩ = some (.int .i64 e.r.d.i) ∧ w'.cell? ⟨wr.heap.size, 12, none⟩ = some (.string e.r.d.t) ∧ w'.cell? ⟨wr.heap.size, 13, none⟩ = some (.int .i64 e.n) ∧ w'.cell? ⟨b, o + (k - 1) * 14, none⟩ = some (.int .i64 p.r.w) ∧ w'.cell? ⟨b, o + (k - 1) * 14 + 1, none⟩ = some (.int .i64 p.r.a.k) ∧ w'.cell? ⟨b, o + (k - 1) * 14 + 2, none⟩ = some (.int .i64 p.r.a.i) ∧ w'.cell? ⟨b, o + (k - 1) * 14 + 3, none⟩ = some (.string p.r.a.t) ∧ w'.cell? ⟨b, o + (k - 1) * 14 + 4, none⟩ = some (.int .i64 p.r.b.k) ∧ w'.cell? ⟨b, o + (k - 1) * 14 + 5, none⟩ = some (.int .i64 p.r.b.i) ∧ w'.cell? ⟨b, o + (k - 1) * 14 + 6, none⟩ = some (.string p.r.b.t) ∧ w'.cell? ⟨b, o + (k - 1) * 14 + 7, none⟩ = some (.int .i64 p.r.c.k) ∧ w'.cell? ⟨b, o + (k - 1) * 14 + 8, none⟩ = some (.int .i64 p.r.c.i) ∧ w'.cell? ⟨b, o + (k - 1) * 14 + 9, none⟩ = some (.string p.r.c.t) ∧ w'.cell? ⟨b, o + (k - 1) * 14 + 10, none⟩ = some (.int .i64 p.r.d.k) ∧ w'.cell? ⟨b, o + (k - 1) * 14 + 11, none⟩ = some (.int .i64 p.r.d.i) ∧ w'.cell? ⟨b, o + (k - 1) * 14 + 12, none⟩ = some (.string p.r.d.t)) (simp [go_sem, *])
              (first
                | (go_at_call 35; refine (compare_any p.r e.r hpw1 hpw4 hew1 hew4 _).mono ?_; rintro ev w2 ⟨rfl, hB2⟩; have hC2 := fun c j (h : c < wr.heap.size + 1) => (bcell hB2).1 c j (by simpa using h)))
            go_wp2_with fail
            refine (at_err _ _ 0 _ 4 _ rfl).mono ?_
            rintro ev w3 ⟨v', rfl, hE3, hB3⟩
            go_wp2
            go_ret
            exact ⟨.inr ⟨HI2.out k HC.out, v', rfl, hE3⟩, (((hB.alloc hsz _).drew).trans (hB2.mono (by simp; omega))).trans (hB3.mono (by have := hB2.size; simp at this; omega))⟩
    · have hkn : (n : Int) ≤ k := by omega
      have HG : Hid G := HI.out (fun i hi => HALL.out i (by omega))
      go_wp2
      go_ret
      exact ⟨.inl ⟨HG.out, rfl⟩, hB⟩
end Go.Proofs.YtcbjoogkodcgkaaDoor

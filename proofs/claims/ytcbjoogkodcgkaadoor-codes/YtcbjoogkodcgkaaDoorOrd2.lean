/-
  Plain: the two orders are one. Walks: tidingsref.Order, tidingsref.Code.
-/
import Derived.Test.YtcbjoogkodcgkaaDoorOrd
namespace Go.Proofs.YtcbjoogkodcgkaaDoor
open Go.RowKit
set_option maxHeartbeats 1000000
set_option maxRecDepth 100000

theorem cmpI_zero (a b : Int) : cmpI a b = 0 ↔ a = b := by unfold cmpI; split <;> (try split) <;> omega
theorem cmpI_neg (a b : Int) : cmpI a b < 0 ↔ a < b := by unfold cmpI; split <;> (try split) <;> omega
theorem cmpB_neg : ∀ a b : List UInt8, Lib.compareBytes a b < 0 ↔ lessB a b = true
  | [], [] => by simp [Lib.compareBytes, lessB]
  | [], _ :: _ => by simp [Lib.compareBytes, lessB]
  | _ :: _, [] => by simp [Lib.compareBytes, lessB]
  | a :: l, b :: m => by
    simp only [Lib.compareBytes, lessB]
    by_cases h1 : a < b
    · have : a ≠ b := fun e => by subst e; exact absurd h1 (UInt8.lt_irrefl a)
      simp [h1, this]
    · by_cases h2 : b < a
      · have : a ≠ b := fun e => by subst e; exact absurd h2 (UInt8.lt_irrefl a)
        simp [h1, h2, this]
      · have : a = b := UInt8.toNat_inj.1 (by
          have h1' : ¬ a.toNat < b.toNat := fun h => h1 (UInt8.lt_iff_toNat_lt.2 h)
          have h2' : ¬ b.toNat < a.toNat := fun h => h2 (UInt8.lt_iff_toNat_lt.2 h)
          omega)
        subst this
        rw [if_neg h1, if_neg h1, if_pos rfl]
        exact cmpB_neg l m
theorem cmpB_zero : ∀ a b : List UInt8, Lib.compareBytes a b = 0 ↔ a = b
  | [], [] => by simp [Lib.compareBytes]
  | [], _ :: _ => by simp [Lib.compareBytes]
  | _ :: _, [] => by simp [Lib.compareBytes]
  | a :: l, b :: m => by
    simp only [Lib.compareBytes]
    by_cases h1 : a < b
    · have : a ≠ b := fun e => by subst e; exact absurd h1 (UInt8.lt_irrefl a)
      simp [h1, this]
    · by_cases h2 : b < a
      · have : a ≠ b := fun e => by subst e; exact absurd h2 (UInt8.lt_irrefl a)
        simp [h1, h2, this]
      · have : a = b := UInt8.toNat_inj.1 (by
          have h1' : ¬ a.toNat < b.toNat := fun h => h1 (UInt8.lt_iff_toNat_lt.2 h)
          have h2' : ¬ b.toNat < a.toNat := fun h => h2 (UInt8.lt_iff_toNat_lt.2 h)
          omega)
        subst this
        simp [h1, cmpB_zero l m]

theorem cmpV_zero (x y : V) : eqV x y = true ↔ cmpV x y = 0 := by
  have e : (x.t.toList = y.t.toList) ↔ (x.t.data.toList = y.t.data.toList) := by rw [ByteArray.toList_eq, ByteArray.toList_eq]
  unfold eqV cmpV or3
  simp only [Bool.and_eq_true, beq_iff_eq, e]
  by_cases hk : x.k = y.k
  · by_cases hi : x.i = y.i
    · simp [hk, hi, cmpB_zero, (cmpI_zero y.k y.k).2 rfl, (cmpI_zero y.i y.i).2 rfl]
    · have h2 : cmpI x.i y.i ≠ 0 := fun h => hi ((cmpI_zero _ _).1 h)
      simp [hk, hi, h2, (cmpI_zero y.k y.k).2 rfl]
  · have h1 : cmpI x.k y.k ≠ 0 := fun h => hk ((cmpI_zero _ _).1 h)
    simp [hk, h1]
theorem cmpV_neg (x y : V) (hx : okV x = true) (hy : okV y = true) : cmpV x y < 0 ↔ lessV x y = true := by
  unfold cmpV or3 lessV
  by_cases hk : x.k = y.k
  · have h1 : cmpI x.k y.k = 0 := (cmpI_zero _ _).2 hk
    rw [if_pos h1, if_pos hk]
    by_cases h3 : x.k = 3
    · rw [if_pos h3]
      have hxi : x.i = 0 := by rcases okV_cases hx with h | h | h | h <;> omega
      have hyi : y.i = 0 := by rcases okV_cases hy with h | h | h | h <;> omega
      rw [if_pos ((cmpI_zero _ _).2 (by omega))]
      exact cmpB_neg _ _
    · rw [if_neg h3]
      have hxt : x.t.size = 0 := by rcases okV_cases hx with h | h | h | h <;> omega
      have hyt : y.t.size = 0 := by rcases okV_cases hy with h | h | h | h <;> omega
      have hxl : x.t.data.toList = [] := List.eq_nil_of_length_eq_zero (by simpa using hxt)
      have hyl : y.t.data.toList = [] := List.eq_nil_of_length_eq_zero (by simpa using hyt)
      by_cases hi : x.i = y.i
      · rw [if_pos ((cmpI_zero _ _).2 hi), hxl, hyl]
        simp [Lib.compareBytes, hi]
      · rw [if_neg (fun h => hi ((cmpI_zero _ _).1 h)), cmpI_neg]
        simp
  · rw [if_neg (fun h => hk ((cmpI_zero _ _).1 h)), if_neg hk, cmpI_neg]
    simp
theorem cmpFrom_neg (x y : R) (hx : ∀ i, i < 4 → okV (x.at i) = true) (hy : ∀ i, i < 4 → okV (y.at i) = true) : ∀ n i, n + i ≤ 4 → (cmpFrom x y n i < 0 ↔ lessFrom x y n i = true)
  | 0, _, _ => by simp [cmpFrom, lessFrom, cmpI_neg]
  | n + 1, i, h => by
    have hc := cmpV_neg (x.at i) (y.at i) (hx i (by omega)) (hy i (by omega))
    simp only [cmpFrom, lessFrom]
    by_cases he : eqV (x.at i) (y.at i) = true
    · rw [if_pos ((cmpV_zero _ _).1 he), if_pos he]
      exact cmpFrom_neg x y hx hy n (i + 1) (by omega)
    · rw [if_neg (fun h => he ((cmpV_zero _ _).2 h)), if_neg he]
      exact hc
theorem cmpR_neg (x y : R) (hx : okRow x = true) (hy : okRow y = true) : cmpR x y < 0 ↔ lessR x y = true := by
  have h1 := okRow_parts hx
  have h2 := okRow_parts hy
  exact cmpFrom_neg x y h1.2.2 h2.2.2 _ 0 (by omega)

theorem order_nil (a : Option Addr) (cap : Nat) (w : World) :
    Calls Tryd.prog 16 #[.slice a 0 cap] w fun e w' => e = .returned (.bool true) ∧ Below w.heap.size w w' := by
  go_enter Tryd.func16, Tryd.ntmps16
  go_wp2
  refine wp_loop_rounds 1 ?_
  rw [rounds_succ]
  go_wp2
  go_ret
  exact ⟨rfl, Below.refl _ _⟩

theorem order_cons (l : List E) (b o cap : Nat) (w : World) (hl : ListAt w b o l) (hn : 0 < l.length) (hn2 : l.length ≤ 128) (hw : ∀ e ∈ l, okRow e.r = true) :
    Calls Tryd.prog 16 #[.slice (some ⟨b, o, none⟩) l.length cap] w fun e w' => ((InOrd l ∧ e = .returned (.bool true)) ∨ (¬ InOrd l ∧ e = .returned (.bool false))) ∧ Below w.heap.size w w' := by
  have hbl : b < w.heap.size := World.block_lt_of_cell? w _ (hl 0 hn).row.w0
  have HI : Hid ((∀ i, i < l.length → OrdAt l i) → InOrd l) := by
    intro h i
    by_cases hi : i < l.length
    · exact h i hi
    · intro e he
      rw [List.getElem?_eq_none (by omega)] at he
      cases he
  have HI2 : Hid (∀ i, ¬ OrdAt l i → ¬ InOrd l) := fun i h h2 => h (h2 i)
  generalize InOrd l = G at HI HI2 ⊢
  obtain ⟨n, hN⟩ : ∃ n, l.length = n := ⟨_, rfl⟩
  have HN : Hid (l.length = n) := hN
  rw [hN] at hn2 HI ⊢
  clear hN
  go_enter Tryd.func16, Tryd.ntmps16
  go_wp2
  go_loopw [3] (fun i wr => ∃ k : Nat, i = .int .i64 k ∧ k ≤ n ∧ (∀ j, j < k → OrdAt l j) ∧ Below w.heap.size w wr) (fun i _ => n - (intOf i).toNat)
  case atStart => exact ⟨0, rfl, Nat.zero_le _, fun j hj => absurd hj (Nat.not_lt_zero j), Below.refl _ _⟩
  case round =>
    obtain ⟨k, rfl, hk, hall, hB⟩ := hrel
    have HALL : Hid (∀ j, j < k → OrdAt l j) := hall
    clear hall
    have hsz := hB.size
    have hbw : b < wr.heap.size := by omega
    by_cases hlt : k < n
    · have hlt' : k < l.length := by have := HN.out; omega
      have hki : (k : Int) < n := by omega
      have hk00 : (0 : Int) ≤ k := by omega
      have hE := ((hl k hlt').same (fun j => hB.cell (p := ⟨b, j, none⟩) hbl))
      obtain ⟨e, he⟩ : ∃ e, l[k] = e := ⟨_, rfl⟩
      have hmem : e ∈ l := he ▸ List.getElem_mem hlt'
      have hew := hw e hmem
      rw [he] at hE
      have HG : Hid (l[k]? = some e) := by show l[k]? = some e; rw [List.getElem?_eq_getElem hlt', he]
      clear he
      obtain ⟨c0, c1, c2, c3, c4, c5, c6, c7, c8, c9, c10, c11, c12⟩ := hE.row.flat
      have c13 := hE.wt
      by_cases hz : e.n = 0
      · have hzq : (e.n == 0) = true := by simpa using hz
        have HZ : Hid (¬ OrdAt l k) := fun h => (h e HG.out).1 hz
        clear hz
        go_wp2
        go_quiet (fail)
        go_wp2
        go_ret
        exact ⟨.inr ⟨HI2.out k HZ.out, rfl⟩, below_drewN hB _⟩
      · have hzq : (e.n == 0) = false := by simpa using hz
        have HZ : Hid (¬ e.n = 0) := hz
        clear hz
        by_cases hk0 : k = 0
        · have hd : decide ((0 : Int) < (k : Int)) = false := by simp; omega
          have hd2 : decide (0 < k) = false := by simp; omega
          have HK0 : Hid (k = 0) := hk0
          clear hk0
          go_wp2
          go_quiet (fail)
          go_wp2
          go_roundw
          case rel =>
            refine ⟨k + 1, by go_num, by omega, ?_, below_drewN hB _⟩
            intro j hj
            by_cases hjk : j = k
            · subst hjk
              intro e' he'
              rw [HG.out] at he'
              cases he'
              exact ⟨HZ.out, fun h => absurd h (by have := HK0.out; omega)⟩
            · exact HALL.out j (by omega)
          case measure => simp [intOf]; omega
        · have hkp : (0 : Int) < (k : Int) := by omega
          have hlt1 : k - 1 < l.length := by omega
          have hP := ((hl (k - 1) hlt1).same (fun j => hB.cell (p := ⟨b, j, none⟩) hbl)).row
          obtain ⟨p, hp⟩ : ∃ p, l[k - 1] = p := ⟨_, rfl⟩
          have hpw := hw p (hp ▸ List.getElem_mem hlt1)
          rw [hp] at hP
          have HP : Hid (l[k - 1]? = some p) := by show l[k - 1]? = some p; rw [List.getElem?_eq_getElem hlt1, hp]
          clear hp
          have hkc : (((k : Int) - 1).toNat) = k - 1 := by omega
          have hk1 : (0 : Int) ≤ (k : Int) - 1 := by omega
          have hk2 : (k : Int) - 1 < n := by omega
          have hk3 : (1 : Int) ≤ (k : Int) := by omega
          have hk4 : 1 ≤ k := by omega
          have hk5 : (k : Int) < (n : Int) + 1 := by omega
          have hk6 : k < n + 1 := by omega
          have hk7 : k ≤ n := by omega
          have hk8 : (k : Int) ≤ n := by omega
          have hwr : IntKind.i64.wrap ((k : Int) - 1) = (k : Int) - 1 := by rw [IntKind.wrap_i64]; omega
          have hd : decide ((0 : Int) < (k : Int)) = true := by simp; omega
          have hd2 : decide (0 < k) = true := by simp; omega
          obtain ⟨d0, d1, d2, d3, d4, d5, d6, d7, d8, d9, d10, d11, d12⟩ := hP.flat
          have HLR : Hid (∀ w, Calls Tryd.prog 25 #[p.r.val, e.r.val] w fun ev w' => ev = .returned (.bool (lessR p.r e.r)) ∧ Below w.heap.size w w') := by
            intro w
            have q1 := okRow_parts hpw
            have q2 := okRow_parts hew
            have ht : ∀ v : V, okV v = true → v.t.size ≤ 16 := fun v hv => by rcases okV_cases hv with h | h | h | h <;> omega
            exact lessRow_any p.r e.r q1.1 q1.2.1 q2.1 q2.2.1 (fun i hi => ht _ (q1.2.2 i hi)) (fun i hi => ht _ (q2.2.2 i hi)) w
          have HCN : Hid (cmpR p.r e.r < 0 ↔ lessR p.r e.r = true) := cmpR_neg p.r e.r hpw hew
          clear hpw hew
          cases hc : lessR p.r e.r
          · have HC : Hid (¬ OrdAt l k) := fun h => by
              have := HCN.out.1 ((h e HG.out).2 (by omega) p HP.out)
              rw [hc] at this; cases this
            rw [hc] at HLR
            clear hc HCN
            go_wp2
            go_region_held3 (fun w' => w'.cell? ⟨b, o + k * 14, none⟩ = some (.int .i64 e.r.w) ∧ w'.cell? ⟨b, o + k * 14 + 1, none⟩ = some (.int .i64 e.r.a.k) ∧ w'.cell? ⟨b, o + k * 14 + 2, none⟩ = some (.int .i64 e.r.a.i) ∧ w'.cell? ⟨b, o + k * 14 + 3, none⟩ = some (.string e.r.a.t) ∧ w'.cell? ⟨b, o + k * 14 + 4, none⟩ = some (.int .i64 e.r.b.k) ∧ w'.cell? ⟨b, o + k * 14 + 5, none⟩ = some (.int .i64 e.r.b.i) ∧ w'.cell? ⟨b, o + k * 14 + 6, none⟩ = some (.string e.r.b.t) ∧ w'.cell? ⟨b, o + k * 14 + 7, none⟩ = some (.int .i64 e.r.c.k) ∧ w'.cell? ⟨b, o + k * 14 + 8, none⟩ = some (.int .i64 e.r.c.i) ∧ w'.cell? ⟨b, o + k * 14 + 9, none⟩ = some (.string e.r.c.t) ∧ w'.cell? ⟨b, o + k * 14 + 10, none⟩ = some (.int .i64 e.r.d.k) ∧ w'.cell? ⟨b, o + k * 14 + 11, none⟩ = some (.int .i64 e.r.d.i) ∧ w'.cell? ⟨b, o + k * 14 + 12, none⟩ = some (.string e.r.d.t) ∧ w'.cell? ⟨b, o + k * 14 + 13, none⟩ = some (.int .i64 e.n) ∧ w'.cell? ⟨b, o + (k - 1) * 14, none⟩ = some (.int .i64 p.r.w) ∧ w'.cell? ⟨b, o + (k - 1) * 14 + 1, none⟩ = some (.int .i64 p.r.a.k) ∧ w'.cell? ⟨b, o + (k - 1) * 14 + 2, none⟩ = some (.int .i64 p.r.a.i) ∧ w'.cell? ⟨b, o + (k - 1) * 14 + 3, none⟩ = some (.string p.r.a.t) ∧ w'.cell? ⟨b, o + (k - 1) * 14 + 4, none⟩ = some (.int .i64 p.r.b.k) ∧ w'.cell? ⟨b, o + (k - 1) * 14 + 5, none⟩ = some (.int .i64 p.r.b.i) ∧ w'.cell? ⟨b, o + (k - 1) * 14 + 6, none⟩ = some (.string p.r.b.t) ∧ w'.cell? ⟨b, o + (k - 1) * 14 + 7, none⟩ = some (.int .i64 p.r.c.k) ∧ w'.cell? ⟨b, o + (k - 1) * 14 + 8, none⟩ = some (.int .i64 p.r.c.i) ∧ w'.cell? ⟨b, o + (k - 1) * 14 + 9, none⟩ = some (.string p.r.c.t) ∧ w'.cell? ⟨b, o + (k - 1) * 14 + 10, none⟩ = some (.int .i64 p.r.d.k) ∧ w'.cell? ⟨b, o + (k - 1) * 14 + 11, none⟩ = some (.int .i64 p.r.d.i) ∧ w'.cell? ⟨b, o + (k - 1) * 14 + 12, none⟩ = some (.string p.r.d.t)) (simp [go_sem, *])
              (first
                | (go_at_call 25; refine (HLR.out _).mono ?_; rintro ev w2 ⟨rfl, hB2⟩; have hC2 := fun c j (h : c < wr.heap.size) => (bcell hB2).1 c j h))
            go_wp2
            go_ret
            exact ⟨.inr ⟨HI2.out k HC.out, rfl⟩, hB.drew.trans (hB2.mono hsz)⟩
          · have HC : Hid (cmpR p.r e.r < 0) := HCN.out.2 hc
            rw [hc] at HLR
            clear hc HCN
            go_wp2
            go_region_held3 (fun w' => w'.cell? ⟨b, o + k * 14, none⟩ = some (.int .i64 e.r.w) ∧ w'.cell? ⟨b, o + k * 14 + 1, none⟩ = some (.int .i64 e.r.a.k) ∧ w'.cell? ⟨b, o + k * 14 + 2, none⟩ = some (.int .i64 e.r.a.i) ∧ w'.cell? ⟨b, o + k * 14 + 3, none⟩ = some (.string e.r.a.t) ∧ w'.cell? ⟨b, o + k * 14 + 4, none⟩ = some (.int .i64 e.r.b.k) ∧ w'.cell? ⟨b, o + k * 14 + 5, none⟩ = some (.int .i64 e.r.b.i) ∧ w'.cell? ⟨b, o + k * 14 + 6, none⟩ = some (.string e.r.b.t) ∧ w'.cell? ⟨b, o + k * 14 + 7, none⟩ = some (.int .i64 e.r.c.k) ∧ w'.cell? ⟨b, o + k * 14 + 8, none⟩ = some (.int .i64 e.r.c.i) ∧ w'.cell? ⟨b, o + k * 14 + 9, none⟩ = some (.string e.r.c.t) ∧ w'.cell? ⟨b, o + k * 14 + 10, none⟩ = some (.int .i64 e.r.d.k) ∧ w'.cell? ⟨b, o + k * 14 + 11, none⟩ = some (.int .i64 e.r.d.i) ∧ w'.cell? ⟨b, o + k * 14 + 12, none⟩ = some (.string e.r.d.t) ∧ w'.cell? ⟨b, o + k * 14 + 13, none⟩ = some (.int .i64 e.n) ∧ w'.cell? ⟨b, o + (k - 1) * 14, none⟩ = some (.int .i64 p.r.w) ∧ w'.cell? ⟨b, o + (k - 1) * 14 + 1, none⟩ = some (.int .i64 p.r.a.k) ∧ w'.cell? ⟨b, o + (k - 1) * 14 + 2, none⟩ = some (.int .i64 p.r.a.i) ∧ w'.cell? ⟨b, o + (k - 1) * 14 + 3, none⟩ = some (.string p.r.a.t) ∧ w'.cell? ⟨b, o + (k - 1) * 14 + 4, none⟩ = some (.int .i64 p.r.b.k) ∧ w'.cell? ⟨b, o + (k - 1) * 14 + 5, none⟩ = some (.int .i64 p.r.b.i) ∧ w'.cell? ⟨b, o + (k - 1) * 14 + 6, none⟩ = some (.string p.r.b.t) ∧ w'.cell? ⟨b, o + (k - 1) * 14 + 7, none⟩ = some (.int .i64 p.r.c.k) ∧ w'.cell? ⟨b, o + (k - 1) * 14 + 8, none⟩ = some (.int .i64 p.r.c.i) ∧ w'.cell? ⟨b, o + (k - 1) * 14 + 9, none⟩ = some (.string p.r.c.t) ∧ w'.cell? ⟨b, o + (k - 1) * 14 + 10, none⟩ = some (.int .i64 p.r.d.k) ∧ w'.cell? ⟨b, o + (k - 1) * 14 + 11, none⟩ = some (.int .i64 p.r.d.i) ∧ w'.cell? ⟨b, o + (k - 1) * 14 + 12, none⟩ = some (.string p.r.d.t)) (simp [go_sem, *])
              (first
                | (go_at_call 25; refine (HLR.out _).mono ?_; rintro ev w2 ⟨rfl, hB2⟩; have hC2 := fun c j (h : c < wr.heap.size) => (bcell hB2).1 c j h))
            go_wp2
            go_roundw
            case rel =>
              refine ⟨k + 1, by go_num, by omega, ?_, hB.drew.trans (hB2.mono hsz)⟩
              intro j hj
              by_cases hjk : j = k
              · subst hjk
                intro e' he'
                rw [HG.out] at he'
                cases he'
                refine ⟨HZ.out, fun _ p' hp' => ?_⟩
                rw [HP.out] at hp'
                cases hp'
                exact HC.out
              · exact HALL.out j (by omega)
            case measure => simp [intOf]; omega
    · have hkn : (n : Int) ≤ k := by omega
      have HG : Hid G := HI.out (fun i hi => HALL.out i (by omega))
      go_wp2
      go_ret
      exact ⟨.inl ⟨HG.out, rfl⟩, hB⟩
end Go.Proofs.YtcbjoogkodcgkaaDoor

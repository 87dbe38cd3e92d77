/-
  Walks: the law's Most.
-/
import Derived.Test.YtcbjoogkodcgkaaDoorRt
namespace Go.Proofs.YtcbjoogkodcgkaaDoor
open Go.RowKit Go.Extern
set_option maxHeartbeats 4000000
set_option maxRecDepth 100000

theorem ones_snoc (l : List E) (f : R) : ∀ n k, ones l f (n + 1) k = ones l f n k + (if oneAt l f (k + n) then 1 else 0)
  | 0, k => by simp [ones]
  | n + 1, k => by
    have := ones_snoc l f n (k + 1)
    rw [show ones l f (n + 1 + 1) k = (if oneAt l f k then 1 else 0) + ones l f (n + 1) (k + 1) from rfl, this, show ones l f (n + 1) k = (if oneAt l f k then 1 else 0) + ones l f n (k + 1) from rfl, show k + 1 + n = k + (n + 1) from by omega]
    omega
theorem mostL_eq {l : List E} {f : E} (h : l[0]? = some f) : mostL l = if l.all (fun e => e.r.w == f.r.w) then
      min (24 + 24 * (ones l f.r f.r.w.toNat 0 : Int) + (18 * (f.r.w - ones l f.r f.r.w.toNat 0) + 11) * l.length) (24 + 90 * l.length)
    else 24 + 90 * l.length := by
  cases l with
  | nil => simp at h
  | cons x t => simp at h; subst h; rfl

theorem most_nil (a : Option Addr) (cap : Nat) (w : World) :
    Calls Tryd.prog 11 #[.slice a 0 cap] w fun e w' => e = .returned (.int .i64 24) ∧ Below w.heap.size w w' := by
  go_enter Tryd.func11, Tryd.ntmps11
  go_wp2
  go_ret
  exact ⟨rfl, Below.refl _ _⟩

theorem most_cons (l : List E) (b o cap : Nat) (w : World) (hl : ListAt w b o l) (hn : 0 < l.length) (hn2 : l.length ≤ 128) (hw : ∀ e ∈ l, 1 ≤ e.r.w ∧ e.r.w ≤ 4) :
    Calls Tryd.prog 11 #[.slice (some ⟨b, o, none⟩) l.length cap] w fun e w' => e = .returned (.int .i64 (mostL l)) ∧ Below w.heap.size w w' := by
  have hbl : b < w.heap.size := World.block_lt_of_cell? w _ (hl 0 hn).row.w0
  have hF := (hl 0 hn).row
  have c0 := hF.w0
  simp only [Nat.zero_mul, Nat.add_zero] at c0 hF
  obtain ⟨n, hN⟩ : ∃ n, l.length = n := ⟨_, rfl⟩
  obtain ⟨f, hf⟩ : ∃ f, l[0] = f := ⟨_, rfl⟩
  rw [hf] at c0 hF
  have hfw : 1 ≤ f.r.w ∧ f.r.w ≤ 4 := hf ▸ hw _ (List.getElem_mem hn)
  have hfm := mostL_eq (l := l) (f := f) (by rw [List.getElem?_eq_getElem hn, hf])
  have HN : Hid (l.length = n) := hN
  rw [hN] at hn2 hfm ⊢
  have hni : (0 : Int) < n := by omega
  have hni2 : (n : Int) ≤ 128 := by omega
  clear hN hf
  obtain ⟨hfw1, hfw4⟩ := hfw
  obtain ⟨m, hm⟩ : ∃ m : Nat, f.r.w = m := ⟨f.r.w.toNat, by omega⟩
  have hmt : f.r.w.toNat = m := by omega
  rw [hmt, hm] at hfm
  have HM : Hid (f.r.w = m) := hm
  have hm4 : m ≤ 4 := by omega
  clear hmt
  have HS : Hid (l.all (fun e => e.r.w == f.r.w) = true → mostL l = min (24 + 24 * (ones l f.r m 0 : Int) + (18 * ((m : Int) - ones l f.r m 0) + 11) * n) (24 + 90 * n)) := by
    intro h; rw [hm] at h; rw [hfm, if_pos h]
  have HS0 : Hid (l.all (fun e => e.r.w == f.r.w) = false → mostL l = 24 + 90 * n) := by
    intro h; rw [hm] at h; rw [hfm, h]; rfl
  clear hfm
  rw [hm] at c0
  clear hm
  generalize mostL l = S at HS HS0 ⊢
  have hw90 : IntKind.i64.wrap (90 * (n : Int)) = 90 * n := by rw [IntKind.wrap_i64]; omega
  have hw24 : IntKind.i64.wrap (24 + 90 * (n : Int)) = 24 + 90 * n := by rw [IntKind.wrap_i64]; omega
  go_enter Tryd.func11, Tryd.ntmps11
  go_wp2
  clear c0
  go_loopw [5] (fun i wr => ∃ k : Nat, i = .int .i64 k ∧ k ≤ n ∧ (∀ e ∈ l.take k, e.r.w = f.r.w) ∧ Below w.heap.size w wr) (fun i _ => n - (intOf i).toNat)
  case atStart => exact ⟨0, rfl, Nat.zero_le _, by simp, Below.refl _ _⟩
  case round =>
    obtain ⟨k, rfl, hk, hall, hB⟩ := hrel
    have HALL : Hid (∀ e ∈ l.take k, e.r.w = f.r.w) := hall
    clear hall
    by_cases hlt : k < n
    · have hlt' : k < l.length := by have := HN.out; omega
      have hki : (k : Int) < n := by omega
      have hk0 : (0 : Int) ≤ k := by omega
      have hE := ((hl k hlt').same (fun j => hB.cell (p := ⟨b, j, none⟩) hbl))
      obtain ⟨e, he⟩ : ∃ e, l[k] = e := ⟨_, rfl⟩
      have hmem : e ∈ l := he ▸ List.getElem_mem hlt'
      rw [he] at hE
      have HT : Hid (l.take (k + 1) = l.take k ++ [e]) := take_snoc_of hlt' he
      clear he
      have c0 := hE.row.w0
      by_cases hwd : e.r.w = f.r.w
      · have HWD : Hid (e.r.w = f.r.w) := hwd
        rw [hwd, HM.out] at c0
        clear hwd
        go_wp2
        go_roundw
        case rel =>
          refine ⟨k + 1, by go_num, by omega, ?_, hB⟩
          intro x hx
          rw [HT.out] at hx
          rcases List.mem_append.1 hx with h | h
          · exact HALL.out x h
          · rw [List.mem_singleton.1 h]; exact HWD.out
        case measure => simp [intOf]; omega
      · have hwq : (e.r.w == (m : Int)) = false := by
          have := HM.out
          simp only [beq_eq_false_iff_ne, ne_eq]
          omega
        have HZ : Hid (S = 24 + 90 * n) := HS0.out (by
          rw [List.all_eq_false]
          exact ⟨e, hmem, by simpa using hwd⟩)
        clear hwd
        go_wp2
        go_ret
        exact ⟨by rw [HZ.out]; rfl, hB⟩
    · have hkn : (n : Int) ≤ k := by omega
      have hT : l.take k = l := List.take_of_length_le (by have := HN.out; omega)
      have HSS : Hid (S = min (24 + 24 * (ones l f.r m 0 : Int) + (18 * ((m : Int) - ones l f.r m 0) + 11) * n) (24 + 90 * n)) := HS.out (by
        rw [List.all_eq_true]
        intro x hx
        have := HALL.out x (by rw [hT]; exact hx)
        simpa using this)
      clear hT
      go_wp2
      go_loopw [6, 7] (fun c q wq => ∃ k2 : Nat, q = .int .i64 k2 ∧ k2 ≤ m ∧ c = .int .i64 (ones l f.r k2 0 : Nat) ∧ Below w.heap.size w wq) (fun _ q _ => m - (intOf q).toNat)
      case atStart => exact ⟨0, rfl, Nat.zero_le _, rfl, hB⟩
      case round =>
        obtain ⟨q, rfl, hq, rfl, hB2⟩ := hrel
        clear hB
        have HO := ones_le l f.r q 0
        by_cases hqm : q < m
        · have hqi : (q : Int) < m := by omega
          have hq4 : q < 4 := by omega
          have hq4i : (q : Int) < 4 := by omega
          have hq0 : (0 : Int) ≤ q := by omega
          go_wp2
          go_loopw [8, 9] (fun one i wi => ∃ j : Nat, i = .int .i64 j ∧ j ≤ n ∧ one = .bool ((l.take j).all (fun e => eqV (e.r.at q) (f.r.at q))) ∧ Below w.heap.size w wi) (fun _ i _ => n - (intOf i).toNat)
          case atStart => exact ⟨0, rfl, Nat.zero_le _, by simp, hB2⟩
          case round =>
            obtain ⟨j, rfl, hj, rfl, hB3⟩ := hrel
            by_cases hjn : j < n
            · have hjn' : j < l.length := by have := HN.out; omega
              have hji : (j : Int) < n := by omega
              have hj0 : (0 : Int) ≤ j := by omega
              have hE := ((hl j hjn').same (fun i => hB3.cell (p := ⟨b, i, none⟩) hbl)).row
              have hF3 := hF.same (fun i => hB3.cell (p := ⟨b, i, none⟩) hbl)
              obtain ⟨e, he⟩ : ∃ e, l[j] = e := ⟨_, rfl⟩
              rw [he] at hE
              have HT : Hid ((l.take (j + 1)).all (fun e => eqV (e.r.at q) (f.r.at q)) = ((l.take j).all (fun e => eqV (e.r.at q) (f.r.at q)) && eqV (e.r.at q) (f.r.at q))) := by
                show _ = _
                rw [take_snoc_of hjn' he]
                simp
              clear he
              have a0 := hE.ck q hq4
              have a1 := hE.ci q hq4
              have a2 := hE.ct q hq4
              have b0 := hF3.ck q hq4
              have b1 := hF3.ci q hq4
              have b2 := hF3.ct q hq4
              have hnv := fun w' => eqVal (e.r.at q) (f.r.at q) w'
              generalize (l.take j).all (fun e => eqV (e.r.at q) (f.r.at q)) = X at HT ⊢
              cases X
              · go_wp2
                go_quiet (fail)
                go_wp2
                go_roundw
                case rel => exact ⟨j + 1, by go_num, by omega, by rw [HT.out]; rfl, below_drewN hB3 _⟩
                case measure => simp [intOf]; omega
              · go_wp2
                go_quiet (fail)
                go_wp2
                go_roundw
                case rel => exact ⟨j + 1, by go_num, by omega, by rw [HT.out]; rfl, below_drewN hB3 _⟩
                case measure => simp [intOf]; omega
            · have hjn' : (n : Int) ≤ j := by omega
              have hT : l.take j = l := List.take_of_length_le (by have := HN.out; omega)
              have hs := ones_snoc l f.r q 0
              rw [Nat.zero_add] at hs
              have HS1 : Hid (ones l f.r (q + 1) 0 = ones l f.r q 0 + (if l.all (fun e => eqV (e.r.at q) (f.r.at q)) then 1 else 0)) := hs
              rw [hT]
              clear hT hs
              generalize l.all (fun e => eqV (e.r.at q) (f.r.at q)) = X at HS1 ⊢
              cases X
              · go_wp2
                go_roundw
                case rel => exact ⟨q + 1, by go_num, by omega, by rw [HS1.out]; simp, hB3⟩
                case measure => simp [intOf]; omega
              · go_wp2
                go_roundw
                case rel => exact ⟨q + 1, by go_num, by omega, by rw [HS1.out]; go_num, hB3⟩
                case measure => simp [intOf]; omega
        · have hqi : (m : Int) ≤ q := by omega
          obtain rfl : q = m := by omega
          generalize ones l f.r q 0 = c at HSS HO ⊢
          have hc : (c : Int) ≤ q := by omega
          have hc4 : (q : Int) ≤ 4 := by omega
          have hx0 : 0 ≤ (q : Int) - c := by omega
          have hx4 : (q : Int) - c ≤ 4 := by omega
          obtain ⟨p, hp⟩ : ∃ p, (18 * ((q : Int) - c) + 11) * n = p := ⟨_, rfl⟩
          have hp0 : 0 ≤ p := by rw [← hp]; exact Int.mul_nonneg (by omega) (by omega)
          have hp1 : p ≤ 83 * 128 := by rw [← hp]; exact Int.mul_le_mul (by omega) (by omega) (by omega) (by omega)
          have e1 : IntKind.i64.wrap ((q : Int) - c) = q - c := by rw [IntKind.wrap_i64]; omega
          have e2 : IntKind.i64.wrap (24 * (c : Int)) = 24 * c := by rw [IntKind.wrap_i64]; omega
          have e3 : IntKind.i64.wrap (24 + 24 * (c : Int)) = 24 + 24 * c := by rw [IntKind.wrap_i64]; omega
          have e4 : IntKind.i64.wrap (18 * ((q : Int) - c)) = 18 * (q - c) := by rw [IntKind.wrap_i64]; omega
          have e5 : IntKind.i64.wrap (18 * ((q : Int) - c) + 11) = 18 * (q - c) + 11 := by rw [IntKind.wrap_i64]; omega
          have e6 : IntKind.i64.wrap ((18 * ((q : Int) - c) + 11) * n) = p := by rw [hp, IntKind.wrap_i64]; omega
          have e7 : IntKind.i64.wrap (24 + 24 * (c : Int) + p) = 24 + 24 * c + p := by rw [IntKind.wrap_i64]; omega
          rw [hp] at HSS
          have HP : Hid ((18 * ((q : Int) - c) + 11) * n = p) := hp
          clear hp
          by_cases hgt : 24 + 90 * (n : Int) < 24 + 24 * c + p
          · have HZ : Hid (S = 24 + 90 * n) := by show _ = _; rw [HSS.out]; omega
            go_wp2
            go_ret
            exact ⟨by rw [HZ.out]; rfl, hB2⟩
          · have hle : 24 + 24 * (c : Int) + p ≤ 24 + 90 * n := by omega
            have HZ : Hid (S = 24 + 24 * c + p) := by show _ = _; rw [HSS.out]; omega
            go_wp2
            go_ret
            exact ⟨by rw [HZ.out]; rfl, hB2⟩
theorem most_all (v : Value) (l : List E) (w : World) (h : Sl w v l) (hc : chk l = 0) :
    Calls Tryd.prog 11 #[v] w fun e w' => e = .returned (.int .i64 (mostL l)) ∧ Below w.heap.size w w' := by
  rcases h with ⟨a, cap, rfl, rfl⟩ | ⟨b, o, cap, rfl, hl, h0⟩
  · exact most_nil a cap w
  · exact most_cons l b o cap w hl h0 (chk_zero hc).2 (fun e he => ⟨(okRow_parts ((chk_zero hc).1 e he)).1, (okRow_parts ((chk_zero hc).1 e he)).2.1⟩)
end Go.Proofs.YtcbjoogkodcgkaaDoor

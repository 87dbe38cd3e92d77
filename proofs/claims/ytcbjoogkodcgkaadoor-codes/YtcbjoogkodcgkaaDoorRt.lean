/-
  What is written is read as itself, and how long it is.
-/
import Derived.Test.YtcbjoogkodcgkaaDoorRw
import Derived.Test.YtcbjoogkodcgkaaDoorOrd
namespace Go.Proofs.YtcbjoogkodcgkaaDoor
set_option maxRecDepth 100000

theorem ba_empty {t : ByteArray} (h : t.size = 0) : t = ByteArray.empty := by
  obtain ⟨d⟩ := t
  have : d.size = 0 := h
  rw [Array.eq_empty_of_size_eq_zero this]
  rfl

theorem rVal_enc (v : V) (hok : okV v = true) (hi0 : -9223372036854775808 ≤ v.i) (hi1 : v.i ≤ 9223372036854775807) (l : List UInt8) : rVal (encV v ++ l) = some (v, l) := by
  obtain ⟨k, i, t⟩ := v
  rcases okV_cases hok with ⟨h1, h2, h3⟩ | ⟨h1, h2, h3⟩ | ⟨h1, h3⟩ | ⟨h1, h2, h3⟩
  · simp only at h1 h2 h3
    subst h1 h2
    rw [ba_empty h3]
    simp [encV, rVal, zeroV]
  · simp only at h1 h2 h3
    subst h1
    rw [ba_empty h3]
    rcases h2 with rfl | rfl
    · rfl
    · rfl
  · simp only at h1 h3 hi0 hi1
    subst h1
    rw [ba_empty h3]
    have hn := rNum_num i hi0 hi1 l
    have he : encV ⟨2, i, ByteArray.empty⟩ ++ l = 3 :: (Lib.uvarint (Lib.zigzag i) ++ l) := rfl
    have h3 : (3 : UInt8).toNat = 3 := rfl
    rw [he]
    simp only [rVal, h3, hn, Option.map_some, unzz_zz i hi0 hi1]
    rw [if_neg (by omega), if_neg (by omega), if_pos trivial]
  · simp only at h1 h2 h3
    subst h1 h2
    have hs : t.data.toList.length = t.size := by rw [Array.length_toList]; rfl
    have hc : ((4 + t.size).toUInt8).toNat = 4 + t.size := by simp [Nat.toUInt8, UInt8.toNat_ofNat']; omega
    have he : encV ⟨3, 0, t⟩ ++ l = (4 + t.size).toUInt8 :: (t.data.toList ++ l) := by simp [encV]
    rw [he]
    simp only [rVal, hc]
    rw [if_neg (by omega), if_neg (by omega), if_neg (by omega), if_pos (by omega), if_pos (by rw [List.length_append]; omega)]
    have h4 : 4 + t.size - 4 = t.data.toList.length := by omega
    rw [h4, List.take_left, List.drop_left, mk_data]

theorem R.ext4 {x y : R} (hw : x.w = y.w) (h : ∀ j, j < 4 → x.at j = y.at j) : x = y := by
  obtain ⟨w, a, b, c, d⟩ := x
  obtain ⟨w', a', b', c', d'⟩ := y
  have h0 : a = a' := h 0 (by omega)
  have h1 : b = b' := h 1 (by omega)
  have h2 : c = c' := h 2 (by omega)
  have h3 : d = d' := h 3 (by omega)
  simp only at hw
  subst hw h0 h1 h2 h3
  rfl
theorem put_w (x : R) (i : Nat) (v : V) : (x.put i v).w = x.w := by unfold R.put; split <;> rfl
theorem put_at (x : R) (i j : Nat) (hi : i < 4) (hj : j < 4) (v : V) : (x.put i v).at j = if j = i then v else x.at j := by
  rcases lt4 hi with rfl | rfl | rfl | rfl <;> rcases lt4 hj with rfl | rfl | rfl | rfl <;> rfl

theorem rCells_enc (r : R) (hr : Fine r) (s : Int) (same : Bool) : ∀ (n i : Nat) (x : R) (l : List UInt8), n + i ≤ 4 →
    ∃ y, rCells s same n i x (encCells r s same n i ++ l) = some (y, l) ∧ y.w = x.w ∧ ∀ j, j < 4 → y.at j = if i ≤ j ∧ j < i + n ∧ bitAt s j = same then r.at j else x.at j
  | 0, i, x, l, _ => ⟨x, by simp [rCells, encCells], rfl, fun j _ => by rw [if_neg]; omega⟩
  | n + 1, i, x, l, h => by
    by_cases hb : bitAt s i = same
    · obtain ⟨y, h1, h2, h3⟩ := rCells_enc r hr s same n (i + 1) (x.put i (r.at i)) l (by omega)
      refine ⟨y, ?_, by rw [h2, put_w], ?_⟩
      · simp only [rCells, encCells, if_pos hb, List.append_assoc]
        rw [rVal_enc (r.at i) (hr.ok i (by omega)) (hr.i0 i (by omega)) (hr.i1 i (by omega))]
        exact h1
      · intro j hj
        rw [h3 j hj, put_at x i j (by omega) hj]
        by_cases hij : j = i
        · subst hij
          rw [if_neg (by omega), if_pos rfl, if_pos ⟨by omega, by omega, hb⟩]
        · rw [if_neg hij]
          by_cases hp : i ≤ j ∧ j < i + (n + 1) ∧ bitAt s j = same
          · rw [if_pos hp, if_pos ⟨by omega, by omega, hp.2.2⟩]
          · rw [if_neg hp, if_neg (fun hq => hp ⟨by omega, by omega, hq.2.2⟩)]
    · obtain ⟨y, h1, h2, h3⟩ := rCells_enc r hr s same n (i + 1) x l (by omega)
      refine ⟨y, ?_, h2, ?_⟩
      · simp only [rCells, encCells, if_neg hb, List.nil_append]
        exact h1
      · intro j hj
        rw [h3 j hj]
        by_cases hp : i ≤ j ∧ j < i + (n + 1) ∧ bitAt s j = same
        · have hij : j ≠ i := by rintro rfl; exact hb hp.2.2
          rw [if_pos hp, if_pos ⟨by omega, by omega, hp.2.2⟩]
        · rw [if_neg hp, if_neg (fun hq => hp ⟨by omega, by omega, hq.2.2⟩)]

theorem rBody_enc (e : E) (hr : Fine e.r) (hn0 : -9223372036854775808 ≤ e.n) (hn1 : e.n ≤ 9223372036854775807) (s : Int) (hs : (s / 16).toNat ≤ 4) (x : R) (hw : x.w = e.r.w)
    (hx : ∀ j, j < 4 → ¬ (j < (s / 16).toNat ∧ bitAt s j = false) → e.r.at j = x.at j) (l : List UInt8) :
    rBody x s (encCells e.r s false (s / 16).toNat 0 ++ (numB e.n ++ l)) = some (e, l) := by
  obtain ⟨y, h1, h2, h3⟩ := rCells_enc e.r hr s false (s / 16).toNat 0 x (numB e.n ++ l) (by omega)
  have hy : y = e.r := R.ext4 (by rw [h2, hw]) (fun j hj => by
    rw [h3 j hj]
    by_cases hp : j < (s / 16).toNat ∧ bitAt s j = false
    · rw [if_pos ⟨by omega, by omega, hp.2⟩]
    · rw [if_neg (fun hq => hp ⟨by omega, hq.2.2⟩), hx j hj hp])
  subst hy
  have hn : rNum 10 0 0 (numB e.n ++ l) = some (Lib.zigzag e.n, l) := rNum_num e.n hn0 hn1 l
  simp only [rBody, h1, hn, unzz_zz e.n hn0 hn1]

theorem okCell_of {r : R} (h : okRow r = true) (i : Nat) (hi : i < 4) : okCell r i = true := by
  simp only [okRow, Bool.and_eq_true] at h
  obtain ⟨_, _, c0, c1, c2, c3⟩ := h
  rcases lt4 hi with rfl | rfl | rfl | rfl <;> assumption
theorem eqV_iff {x y : V} : eqV x y = true ↔ x = y := by
  obtain ⟨k, i, t⟩ := x
  obtain ⟨k', i', t'⟩ := y
  simp only [eqV, Bool.and_eq_true, beq_iff_eq, V.mk.injEq]
  constructor
  · rintro ⟨h1, h2, h3⟩
    refine ⟨h1, h2, ?_⟩
    rw [ByteArray.toList_eq, ByteArray.toList_eq] at h3
    obtain ⟨d⟩ := t
    obtain ⟨d'⟩ := t'
    simp only [ByteArray.mk.injEq]
    exact Array.toList_inj.1 h3
  · rintro ⟨rfl, rfl, rfl⟩
    exact ⟨rfl, rfl, rfl⟩
/-- Behind its width a row holds nothing. -/
theorem okRow_zero {r : R} (h : okRow r = true) (i : Nat) (hi : i < 4) (hw : r.w ≤ i) : r.at i = zeroV := by
  have := okCell_of h i hi
  unfold okCell at this
  rw [if_neg (by omega)] at this
  exact eqV_iff.1 this

theorem bitAt_mask4 (w : Fin 5) (a b c d : Bool) (i : Fin 4) : bitAt ((w.val : Int) * 16 + mask4 a b c d) i.val = (match i.val with | 0 => a | 1 => b | 2 => c | _ => d) := by
  revert w a b c d i; decide
theorem bitAt_mask (w : Nat) (hw : w ≤ 4) (p : Nat → Bool) (i : Nat) (hi : i < 4) : bitAt ((w : Int) * 16 + mask p) i = p i := by
  have := bitAt_mask4 ⟨w, by omega⟩ (p 0) (p 1) (p 2) (p 3) ⟨i, hi⟩
  unfold mask
  rcases lt4 hi with rfl | rfl | rfl | rfl <;> exact this

theorem shape_zero (l : List E) (f : R) (h1 : 1 ≤ f.w) (h : shapeL l f = 0) : ¬ (l.all (fun e => e.r.w == f.w) = true) := by
  intro ha
  unfold shapeL at h
  rw [if_pos ha] at h
  have := mask_rng (fun i => decide (i < f.w.toNat) && !dif f l f.w.toNat i)
  omega

theorem rEntry_mixed (e : E) (hok : okRow e.r = true) (hr : Rng e) (l : List UInt8) : rEntry (zeroR 0) 0 (encE 0 e ++ l) = some (e, l) := by
  have hE := EOk.of hok hr
  have h1 := hE.w1
  have h4 := hE.w4
  have hc : (e.r.w.toNat.toUInt8).toNat = e.r.w.toNat := by simp [Nat.toUInt8, UInt8.toNat_ofNat']; omega
  have hi : ((e.r.w.toNat : Nat) : Int) = e.r.w := by omega
  have hd : (e.r.w * 16 / 16).toNat = e.r.w.toNat := by omega
  have hb := rBody_enc e hE.fine hE.n0 hE.n1 (e.r.w * 16) (by omega) { zeroR 0 with w := e.r.w } rfl (fun j hj hn => by
    have hbit : bitAt (e.r.w * 16) j = false := by
      have := bitAt_mask e.r.w.toNat (by omega) (fun _ => false) j hj
      rw [hi] at this
      simpa [mask, mask4] using this
    have hjw : e.r.w ≤ j := by
      have : ¬ j < (e.r.w * 16 / 16).toNat := fun h => hn ⟨h, hbit⟩
      omega
    rw [okRow_zero hok j hj hjw]
    rcases lt4 hj with rfl | rfl | rfl | rfl <;> rfl) l
  rw [hd] at hb
  unfold rEntry encE
  rw [if_pos rfl, if_pos rfl]
  simp only [List.cons_append, List.append_assoc, hc, hi]
  rw [if_neg (by omega)]
  exact hb

theorem shape_parts (l : List E) (f : R) (h1 : 1 ≤ f.w) (h4 : f.w ≤ 4) (h : shapeL l f ≠ 0) :
    (∀ e ∈ l, e.r.w = f.w) ∧ (shapeL l f / 16).toNat = f.w.toNat ∧ shapeL l f / 16 = f.w ∧ (∀ i, i < 4 → bitAt (shapeL l f) i = (decide (i < f.w.toNat) && !dif f l f.w.toNat i)) := by
  unfold shapeL at h ⊢
  split at h
  · rename_i ha
    rw [if_pos ha]
    have hm := mask_rng (fun i => decide (i < f.w.toNat) && !dif f l f.w.toNat i)
    refine ⟨fun e he => by simpa using List.all_eq_true.1 ha e he, by omega, by omega, fun i hi => ?_⟩
    have := bitAt_mask f.w.toNat (by omega) (fun i => decide (i < f.w.toNat) && !dif f l f.w.toNat i) i hi
    rw [show ((f.w.toNat : Nat) : Int) = f.w from by omega] at this
    exact this
  · exact absurd rfl h

theorem rEntry_shaped (l : List E) (f : R) (h1 : 1 ≤ f.w) (h4 : f.w ≤ 4) (hs : shapeL l f ≠ 0) (sh : R) (hw : sh.w = f.w)
    (hsh : ∀ j, j < 4 → sh.at j = if j < f.w.toNat ∧ bitAt (shapeL l f) j = true then f.at j else zeroV)
    (e : E) (he : e ∈ l) (hok : okRow e.r = true) (hr : Rng e) (t : List UInt8) : rEntry sh (shapeL l f) (encE (shapeL l f) e ++ t) = some (e, t) := by
  have hE := EOk.of hok hr
  obtain ⟨p1, p2, p3, p4⟩ := shape_parts l f h1 h4 hs
  have hew := p1 e he
  unfold rEntry encE
  rw [if_neg hs, if_neg hs, List.append_assoc]
  refine rBody_enc e hE.fine hE.n0 hE.n1 _ (by omega) sh (by rw [hw, hew]) (fun j hj hn => ?_) t
  rw [p2] at hn
  rw [hsh j hj]
  by_cases hjw : j < f.w.toNat
  · have hb : bitAt (shapeL l f) j = true := by
      cases hq : bitAt (shapeL l f) j
      · exact absurd ⟨hjw, hq⟩ hn
      · rfl
    rw [if_pos ⟨hjw, hb⟩]
    rw [p4 j hj] at hb
    simp only [dif, Bool.not_eq_true', hjw, decide_true, Bool.true_and] at hb
    rw [List.any_eq_false] at hb
    have := hb e he
    rw [Bool.not_eq_true, Bool.not_eq_false'] at this
    exact eqV_iff.1 this
  · rw [if_neg (fun h => hjw h.1)]
    exact okRow_zero hok j hj (by omega)

theorem rEnts_enc (sh : R) (s : Int) (es : List E) (h : ∀ e ∈ es, ∀ t, rEntry sh s (encE s e ++ t) = some (e, t)) (t : List UInt8) : rEnts sh s es.length (encAll s es ++ t) = some es := by
  induction es with
  | nil => rfl
  | cons e es ih =>
    have h1 : encAll s (e :: es) ++ t = encE s e ++ (encAll s es ++ t) := by simp [encAll]
    rw [h1, List.length_cons]
    simp only [rEnts, h e (by simp) _]
    rw [ih (fun x hx => h x (by simp [hx]))]
    rfl

/-- What is written is read as itself. -/
theorem rList_enc (l : List E) (hok : ∀ e ∈ l, okRow e.r = true) (hr : ∀ e ∈ l, Rng e) (hn : l.length ≤ 128) : rList (enc l) = some l := by
  cases l with
  | nil => rfl
  | cons f t =>
    have hf := okRow_parts (hok f (by simp))
    have hfE := EOk.of (hok f (by simp)) (hr f (by simp))
    obtain ⟨s0, s1⟩ := shapeL_rng (f :: t) f.r hf.1 hf.2.1
    have hc : ((f :: t).length.toUInt8).toNat = (f :: t).length := by simp only [Nat.toUInt8, UInt8.toNat_ofNat']; omega
    have hlen : (f :: t).length ≠ 0 := by simp
    have hsc : ((shapeL (f :: t) f.r).toNat.toUInt8).toNat = (shapeL (f :: t) f.r).toNat := by simp only [Nat.toUInt8, UInt8.toNat_ofNat']; omega
    have hsi : (((shapeL (f :: t) f.r).toNat : Nat) : Int) = shapeL (f :: t) f.r := by omega
    simp only [enc, encL, rList, hc, hsc, if_neg hlen, hsi]
    rw [if_neg (by omega)]
    by_cases hs : shapeL (f :: t) f.r = 0
    · rw [hs]
      have := rEnts_enc (zeroR 0) 0 (f :: t) (fun e he u => rEntry_mixed e (hok e he) (hr e he) u) []
      rw [List.append_nil] at this
      simpa [rCells] using this
    · obtain ⟨p1, p2, p3, p4⟩ := shape_parts (f :: t) f.r hf.1 hf.2.1 hs
      have hd : (shapeL (f :: t) f.r).toNat / 16 = f.r.w.toNat := by omega
      rw [if_neg hs, hd, p2]
      obtain ⟨sh, q1, q2, q3⟩ := rCells_enc f.r hfE.fine (shapeL (f :: t) f.r) true f.r.w.toNat 0 (zeroR ((f.r.w.toNat : Nat) : Int)) (encAll (shapeL (f :: t) f.r) (f :: t)) (by omega)
      rw [q1]
      have := rEnts_enc sh (shapeL (f :: t) f.r) (f :: t) (fun e he u => rEntry_shaped (f :: t) f.r hf.1 hf.2.1 hs sh (by rw [q2]; show ((f.r.w.toNat : Nat) : Int) = f.r.w; omega) (fun j hj => by
        rw [q3 j hj]
        have hz : (zeroR ((f.r.w.toNat : Nat) : Int)).at j = zeroV := by rcases lt4 hj with rfl | rfl | rfl | rfl <;> rfl
        rw [hz]
        by_cases hp : j < f.r.w.toNat ∧ bitAt (shapeL (f :: t) f.r) j = true
        · rw [if_pos hp, if_pos ⟨by omega, by omega, hp.2⟩]
        · rw [if_neg hp, if_neg (fun hq => hp ⟨by omega, hq.2.2⟩)]) e he (hok e he) (hr e he) u) []
      rw [List.append_nil] at this
      exact this

/-- How many of some columns are marked so. -/
def cntB (s : Int) (same : Bool) : Nat → Nat → Nat
  | 0, _ => 0
  | n + 1, i => (if bitAt s i = same then 1 else 0) + cntB s same n (i + 1)
theorem cntB_both (s : Int) : ∀ n i, cntB s true n i + cntB s false n i = n
  | 0, _ => rfl
  | n + 1, i => by
    have := cntB_both s n (i + 1)
    simp only [cntB]
    cases bitAt s i <;> simp <;> omega
theorem encCells_cnt (r : R) (hr : Fine r) (s : Int) (same : Bool) : ∀ n i, n + i ≤ 4 → (encCells r s same n i).length ≤ 17 * cntB s same n i
  | 0, i, _ => by simp [encCells]
  | n + 1, i, h => by
    have h1 := encCells_cnt r hr s same n (i + 1) (by omega)
    have h2 := encV_length (r.at i) (hr.ok i (by omega)) (hr.i0 i (by omega)) (hr.i1 i (by omega))
    simp only [encCells, cntB, List.length_append]
    by_cases hb : bitAt s i = same
    · rw [if_pos hb, if_pos hb]; omega
    · rw [if_neg hb, if_neg hb]; simp; omega
theorem encAll_len (s : Int) (k : Nat) (es : List E) (h : ∀ e ∈ es, (encE s e).length ≤ k) : (encAll s es).length ≤ k * es.length := by
  induction es with
  | nil => simp [encAll]
  | cons e es ih =>
    have h1 : encAll s (e :: es) = encE s e ++ encAll s es := by simp [encAll]
    have h2 := h e (by simp)
    have h3 := ih (fun x hx => h x (by simp [hx]))
    rw [h1, List.length_append, List.length_cons, Nat.mul_succ]
    omega

/-- Is a column the same all the way? -/
def oneAt (l : List E) (f : R) (k : Nat) : Bool := l.all (fun e => eqV (e.r.at k) (f.at k))
/-- How many columns are, of n from the k-th on. -/
def ones (l : List E) (f : R) : Nat → Nat → Nat
  | 0, _ => 0
  | n + 1, k => (if oneAt l f k then 1 else 0) + ones l f n (k + 1)
/-- P6: how long what is written may be. -/
def mostL (l : List E) : Int :=
  match l with
  | [] => 24
  | f :: _ => if l.all (fun e => e.r.w == f.r.w) then
      min (24 + 24 * (ones l f.r f.r.w.toNat 0 : Int) + (18 * (f.r.w - ones l f.r f.r.w.toNat 0) + 11) * l.length) (24 + 90 * l.length)
    else 24 + 90 * l.length
theorem ones_cnt (l : List E) (f : R) (h1 : 1 ≤ f.w) (h4 : f.w ≤ 4) (hs : shapeL l f ≠ 0) : ∀ n k, n + k ≤ f.w.toNat → ones l f n k = cntB (shapeL l f) true n k
  | 0, _, _ => rfl
  | n + 1, k, h => by
    have ih := ones_cnt l f h1 h4 hs n (k + 1) (by omega)
    obtain ⟨p1, p2, p3, p4⟩ := shape_parts l f h1 h4 hs
    simp only [ones, cntB, ih]
    have hb := p4 k (by omega)
    have : oneAt l f k = bitAt (shapeL l f) k := by
      rw [hb]
      have hk : k < f.w.toNat := by omega
      simp only [dif, hk, decide_true, Bool.true_and, oneAt]
      rw [List.not_any_eq_all_not]
      simp
    rw [this]
theorem ones_le (l : List E) (f : R) : ∀ n k, ones l f n k ≤ n
  | 0, _ => Nat.le_refl _
  | n + 1, k => by
    have := ones_le l f n (k + 1)
    simp only [ones]
    split <;> omega
theorem mostL_le (l : List E) : mostL l ≤ 24 + 90 * (l.length : Int) := by
  cases l with
  | nil => simp [mostL]
  | cons f t => unfold mostL; split <;> omega
theorem encE_mixed_len (e : E) (h : EOk e) : (encE 0 e).length ≤ 79 := by
  have h1 := h.w1
  have h4 := h.w4
  have hc := encCells_cnt e.r h.fine (e.r.w * 16) false e.r.w.toNat 0 (by omega)
  have hb := cntB_both (e.r.w * 16) e.r.w.toNat 0
  have hn := numB_length e.n h.n0 h.n1
  simp only [encE, if_true, List.length_cons, List.length_append]
  omega
theorem enc_most (l : List E) (hok : ∀ e ∈ l, EOk e) : ((enc l).length : Int) ≤ mostL l := by
  cases l with
  | nil => simp [enc, mostL]
  | cons f t =>
    have hf := hok f (by simp)
    have h1 := hf.w1
    have h4 := hf.w4
    by_cases hs : shapeL (f :: t) f.r = 0
    · have ha := shape_zero (f :: t) f.r h1 hs
      have hl := encAll_len 0 79 (f :: t) (fun e he => encE_mixed_len e (hok e he))
      simp only [mostL, if_neg ha, enc, encL, hs, if_true, List.nil_append, List.length_cons]
      simp only [List.length_cons] at hl
      omega
    · obtain ⟨p1, p2, p3, p4⟩ := shape_parts (f :: t) f.r h1 h4 hs
      have ha : ((f :: t).all (fun e => e.r.w == f.r.w)) = true := List.all_eq_true.2 (fun e he => by simpa using p1 e he)
      have ho := ones_cnt (f :: t) f.r h1 h4 hs f.r.w.toNat 0 (by omega)
      have hb := cntB_both (shapeL (f :: t) f.r) f.r.w.toNat 0
      have hc := encCells_cnt f.r hf.fine (shapeL (f :: t) f.r) true f.r.w.toNat 0 (by omega)
      have hl := encAll_len (shapeL (f :: t) f.r) (17 * cntB (shapeL (f :: t) f.r) false f.r.w.toNat 0 + 10) (f :: t) (fun e he => by
        have hE := hok e he
        have hce := encCells_cnt e.r hE.fine (shapeL (f :: t) f.r) false f.r.w.toNat 0 (by omega)
        have hn := numB_length e.n hE.n0 hE.n1
        simp only [encE, if_neg hs, List.length_append, p2]
        omega)
      simp only [mostL, if_pos ha, enc, encL, if_neg hs, List.length_cons, List.length_append, p2]
      rw [ho]
      generalize cntB (shapeL (f :: t) f.r) true f.r.w.toNat 0 = c at *
      generalize cntB (shapeL (f :: t) f.r) false f.r.w.toNat 0 = d at *
      simp only [List.length_cons] at hl
      generalize (encAll (shapeL (f :: t) f.r) (f :: t)).length = A at *
      generalize (encCells f.r (shapeL (f :: t) f.r) true f.r.w.toNat 0).length = B at *
      generalize t.length = m at *
      have hw : f.r.w - (c : Int) = d := by omega
      rw [hw]
      have hd : d ≤ 4 := by omega
      have hcle : c ≤ 4 := by omega
      have hcd : c + d ≤ 4 := by omega
      clear hok hf p1 p2 p3 p4 ha ho hs
      have e1 : d = 0 ∨ d = 1 ∨ d = 2 ∨ d = 3 ∨ d = 4 := by omega
      rcases e1 with rfl | rfl | rfl | rfl | rfl <;> push_cast <;> omega

/-- A list that is written is what its bytes tell. -/
theorem enc_len (l : List E) (hok : ∀ e ∈ l, EOk e) (hn : l.length ≤ 128) : (enc l).length ≤ 11544 := by
  have h1 := enc_most l hok
  have h2 := mostL_le l
  omega

theorem decodes_enc (l : List E) (hc : chk l = 0) (hO : InOrd l) (hr : ∀ e ∈ l, Rng e) : Decodes (enc l) l := by
  obtain ⟨h1, h2⟩ := chk_zero hc
  exact ⟨enc_len l (fun e he => EOk.of (h1 e he) (hr e he)) h2, rList_enc l h1 hr h2, hc, hO, rfl⟩
end Go.Proofs.YtcbjoogkodcgkaaDoor

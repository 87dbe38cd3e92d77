/-
  Walks: code.findShape.
-/
import Derived.Test.YtcbjoogkodcgkaaDoorCells
namespace Go.Proofs.YtcbjoogkodcgkaaDoor
open Go.RowKit
set_option maxHeartbeats 1000000
set_option maxRecDepth 100000

/-- An entry in memory, from the place o of block b on. -/
structure EAt (w : World) (b o : Nat) (e : E) : Prop where
  row : RowAt w b o e.r
  wt : w.cell? ⟨b, o + 13, none⟩ = some (.int .i64 e.n)
/-- A list of entries. -/
def ListAt (w : World) (b o : Nat) (l : List E) : Prop := ∀ i (h : i < l.length), EAt w b (o + i * 14) l[i]

/-- A row's cells, one by one. -/
structure RowFlat (w : World) (b o : Nat) (r : R) : Prop where
  c0 : w.cell? ⟨b, o, none⟩ = some (.int .i64 r.w)
  c1 : w.cell? ⟨b, o + 1, none⟩ = some (.int .i64 r.a.k)
  c2 : w.cell? ⟨b, o + 2, none⟩ = some (.int .i64 r.a.i)
  c3 : w.cell? ⟨b, o + 3, none⟩ = some (.string r.a.t)
  c4 : w.cell? ⟨b, o + 4, none⟩ = some (.int .i64 r.b.k)
  c5 : w.cell? ⟨b, o + 5, none⟩ = some (.int .i64 r.b.i)
  c6 : w.cell? ⟨b, o + 6, none⟩ = some (.string r.b.t)
  c7 : w.cell? ⟨b, o + 7, none⟩ = some (.int .i64 r.c.k)
  c8 : w.cell? ⟨b, o + 8, none⟩ = some (.int .i64 r.c.i)
  c9 : w.cell? ⟨b, o + 9, none⟩ = some (.string r.c.t)
  c10 : w.cell? ⟨b, o + 10, none⟩ = some (.int .i64 r.d.k)
  c11 : w.cell? ⟨b, o + 11, none⟩ = some (.int .i64 r.d.i)
  c12 : w.cell? ⟨b, o + 12, none⟩ = some (.string r.d.t)
theorem RowAt.flat {w : World} {b o : Nat} {r : R} (h : RowAt w b o r) : RowFlat w b o r :=
  ⟨h.w0, h.ck 0 (by decide), h.ci 0 (by decide), h.ct 0 (by decide), h.ck 1 (by decide), h.ci 1 (by decide), h.ct 1 (by decide), h.ck 2 (by decide), h.ci 2 (by decide), h.ct 2 (by decide), h.ck 3 (by decide), h.ci 3 (by decide), h.ct 3 (by decide)⟩
theorem EAt.box (w : World) (e : E) (t : Nat) : EAt (w.alloc (.cells #[.int .i64 e.r.w, .int .i64 e.r.a.k, .int .i64 e.r.a.i, .string e.r.a.t, .int .i64 e.r.b.k, .int .i64 e.r.b.i, .string e.r.b.t, .int .i64 e.r.c.k, .int .i64 e.r.c.i, .string e.r.c.t, .int .i64 e.r.d.k, .int .i64 e.r.d.i, .string e.r.d.t, .int .i64 e.n] t)) w.heap.size 0 e := by
  refine ⟨⟨by simp [go_sem], ?_, ?_, ?_⟩, by simp [go_sem]⟩ <;> intro i hi <;> rcases lt4 hi with rfl | rfl | rfl | rfl <;> simp [go_sem, R.at]
theorem EAt.kept {w w' : World} {b o : Nat} {x : E} (h : EAt w b o x) {n : Nat} (hb : ∀ b o, b < n → w'.cell? ⟨b, o, none⟩ = w.cell? ⟨b, o, none⟩) (hlt : b < n) : EAt w' b o x :=
  ⟨h.row.kept hb hlt, (hb _ _ hlt).trans h.wt⟩
theorem ListAt.kept {w w' : World} {b o : Nat} {l : List E} (h : ListAt w b o l) {n : Nat} (hb : ∀ b o, b < n → w'.cell? ⟨b, o, none⟩ = w.cell? ⟨b, o, none⟩) (hlt : b < n) : ListAt w' b o l :=
  fun i hi => (h i hi).kept hb hlt

theorem RowAt.drew {w : World} {b o : Nat} {x : R} (h : RowAt w b o x) : RowAt w.drew b o x := ⟨h.w0, h.ck, h.ci, h.ct⟩

/-- '==' of two values. -/
def eqV (x y : V) : Bool := x.k == y.k && (x.i == y.i && x.t.toList == y.t.toList)
theorem eqVal (x y : V) (w : World) : (binOp .eql 33 x.val y.val).run Tryd.prog w = .ok (.bool (eqV x y)) w := by
  obtain ⟨a, b, c⟩ := x
  obtain ⟨a', b', c'⟩ := y
  simp [go_sem, eqV]
  by_cases h1 : a = a' <;> by_cases h2 : b = b' <;> by_cases h3 : c.toList = c'.toList <;> simp [h1, h2, h3]
theorem neVal (x y : V) (w : World) : (binOp .neq 33 x.val y.val).run Tryd.prog w = .ok (.bool (!eqV x y)) w := by
  obtain ⟨a, b, c⟩ := x
  obtain ⟨a', b', c'⟩ := y
  simp [go_sem, eqV]
  by_cases h1 : a = a' <;> by_cases h2 : b = b' <;> by_cases h3 : c.toList = c'.toList <;> simp [h1, h2, h3]

/-- The numbers of some of the four columns as bits. -/
def mask4 (x y z u : Bool) : Int := (if x then 1 else 0) + (if y then 2 else 0) + (if z then 4 else 0) + (if u then 8 else 0)
def mask (p : Nat → Bool) : Int := mask4 (p 0) (p 1) (p 2) (p 3)
theorem mask_rng (p : Nat → Bool) : 0 ≤ mask p ∧ mask p < 16 := by
  unfold mask mask4; constructor <;> (split <;> split <;> split <;> split <;> omega)
theorem mask4_or : ∀ (i : Fin 4) (x y z u : Bool), bits .or .u8 (mask4 x y z u) (2 ^ i.val) = mask4 (x || 0 == i.val) (y || 1 == i.val) (z || 2 == i.val) (u || 3 == i.val) := by decide
theorem mask_or (p : Nat → Bool) (i : Nat) (hi : i < 4) : bits .or .u8 (mask p) (2 ^ i) = mask (fun j => p j || j == i) := mask4_or ⟨i, hi⟩ _ _ _ _
theorem mask4_andNot : ∀ (m : Fin 5) (x y z u : Bool), bits .andNot .u8 (2 ^ m.val - 1) (mask4 x y z u) = mask4 (decide (0 < m.val) && !x) (decide (1 < m.val) && !y) (decide (2 < m.val) && !z) (decide (3 < m.val) && !u) := by decide
theorem mask_andNot (p : Nat → Bool) (m : Nat) (hm : m < 5) : bits .andNot .u8 (2 ^ m - 1) (mask p) = mask (fun j => decide (j < m) && !p j) := mask4_andNot ⟨m, hm⟩ _ _ _ _

/-- Does the column hold two different values? -/
def dif (f : R) (l : List E) (m i : Nat) : Bool := decide (i < m) && l.any (fun e => !eqV (e.r.at i) (f.at i))
def shapeL (l : List E) (f : R) : Int :=
  if l.all (fun e => e.r.w == f.w) then f.w * 16 + mask (fun i => decide (i < f.w.toNat) && !dif f l f.w.toNat i) else 0

theorem take_snoc_of {l : List E} {k : Nat} {e : E} (h : k < l.length) (he : l[k] = e) : l.take (k + 1) = l.take k ++ [e] := by
  rw [List.take_succ_eq_append_getElem h, he]
theorem dif_snoc (f : R) (l : List E) (e : E) (m i : Nat) : dif f (l ++ [e]) m i = (dif f l m i || (decide (i < m) && !eqV (e.r.at i) (f.at i))) := by
  unfold dif
  rw [List.any_append]
  cases decide (i < m) <;> simp
/-- Behind j columns of one entry more. -/
def difTo (f : R) (l : List E) (e : E) (m j i : Nat) : Bool := if i < j then dif f (l ++ [e]) m i else dif f l m i
theorem difTo_zero (f : R) (l : List E) (e : E) (m : Nat) : difTo f l e m 0 = dif f l m := by funext i; simp [difTo]
theorem difTo_all (f : R) (l : List E) (e : E) (m : Nat) : difTo f l e m m = dif f (l ++ [e]) m := by
  funext i
  unfold difTo
  split
  · rfl
  · rename_i h; simp [dif, h]
theorem difTo_same (f : R) (l : List E) (e : E) (m j : Nat) (hj : j < m) (h : eqV (e.r.at j) (f.at j) = true) : difTo f l e m (j + 1) = difTo f l e m j := by
  funext i
  unfold difTo
  by_cases h1 : i < j
  · simp [h1, Nat.lt_succ_of_lt h1]
  · by_cases h2 : i = j
    · subst h2; simp [dif_snoc, h]
    · simp [h1, show ¬ i < j + 1 from by omega]
theorem difTo_hit (f : R) (l : List E) (e : E) (m j : Nat) (hj : j < m) (h : eqV (e.r.at j) (f.at j) = false) : difTo f l e m (j + 1) = fun i => difTo f l e m j i || i == j := by
  funext i
  unfold difTo
  by_cases h1 : i < j
  · simp [h1, Nat.lt_succ_of_lt h1, show i ≠ j from by omega]
  · by_cases h2 : i = j
    · subst h2; simp [dif_snoc, h, hj]
    · simp [h1, h2, show ¬ i < j + 1 from by omega]

theorem findShape_any (l : List E) (b o cap : Nat) (w : World) (hl : ListAt w b o l) (hn : 0 < l.length) (hn2 : l.length ≤ 128) (hw : ∀ e ∈ l, 1 ≤ e.r.w ∧ e.r.w ≤ 4) :
    Calls Tryd.prog 36 #[.slice (some ⟨b, o, none⟩) l.length cap] w fun e w' => e = .returned (.int .u8 (shapeL l l[0].r)) ∧ Below w.heap.size w w' := by
  have hbl : b < w.heap.size := World.block_lt_of_cell? w _ (hl 0 hn).row.w0
  obtain ⟨c0, c1, c2, c3, c4, c5, c6, c7, c8, c9, c10, c11, c12⟩ := (hl 0 hn).row.flat
  simp only [Nat.zero_mul, Nat.add_zero] at c0 c1 c2 c3 c4 c5 c6 c7 c8 c9 c10 c11 c12
  obtain ⟨n, hN⟩ : ∃ n, l.length = n := ⟨_, rfl⟩
  obtain ⟨f, hf⟩ : ∃ f, l[0] = f := ⟨_, rfl⟩
  rw [hf] at c0 c1 c2 c3 c4 c5 c6 c7 c8 c9 c10 c11 c12 ⊢
  have hfw : 1 ≤ f.r.w ∧ f.r.w ≤ 4 := hf ▸ hw _ (List.getElem_mem hn)
  have HN : Hid (l.length = n) := hN
  rw [hN] at hn2 ⊢
  have hni : (0 : Int) < n := by omega
  clear hN hf
  obtain ⟨hfw1, hfw4⟩ := hfw
  obtain ⟨m, hm⟩ : ∃ m : Nat, f.r.w = m := ⟨f.r.w.toNat, by omega⟩
  have HM : Hid (f.r.w = m) := hm
  have hm4 : m ≤ 4 := by omega
  clear hm
  have HS : Hid (l.all (fun e => e.r.w == f.r.w) = true → shapeL l f.r = m * 16 + mask (fun i => decide (i < m) && !dif f.r l m i)) := by
    intro h; unfold shapeL; rw [if_pos h, HM.out]; rfl
  have HS0 : Hid (l.all (fun e => e.r.w == f.r.w) = false → shapeL l f.r = 0) := by
    intro h; unfold shapeL; rw [h]; rfl
  generalize shapeL l f.r = S at HS HS0 ⊢
  go_enter Tryd.func36, Tryd.ntmps36
  go_wp2
  clear c0 c1 c2 c3 c4 c5 c6 c7 c8 c9 c10 c11 c12
  go_loopw [4, 15] (fun d i wr => ∃ (k : Nat), i = .int .i64 k ∧ k ≤ n ∧ d = .int .u8 (mask (dif f.r (l.take k) m)) ∧ (∀ e ∈ l.take k, e.r.w = f.r.w) ∧ RowAt wr w.heap.size 0 f.r ∧ Below w.heap.size w wr ∧ w.heap.size < wr.heap.size) (fun _ i _ => n - (intOf i).toNat)
  case atStart => exact ⟨0, rfl, Nat.zero_le _, by simp [dif, mask, mask4], by simp, RowAt.box w f.r _, (Below.refl _ _).alloc (Nat.le_refl _) _, by simp⟩
  case round =>
    obtain ⟨k, rfl, hk, rfl, hall, hX, hB, hsz⟩ := hrel
    have HALL : Hid (∀ e ∈ l.take k, e.r.w = f.r.w) := hall
    clear hall
    obtain ⟨wo, hwo⟩ : ∃ x, x = wr := ⟨wr, rfl⟩
    subst hwo
    by_cases hlt : k < n
    · have hlt' : k < l.length := by have := HN.out; omega
      have hki : (k : Int) < n := by omega
      have hC : ∀ b o, b < w.heap.size → wo.cell? ⟨b, o, none⟩ = w.cell? ⟨b, o, none⟩ := fun b o h => hB.cell (p := ⟨b, o, none⟩) h
      have hE := (hl k hlt').kept hC hbl
      obtain ⟨e, he⟩ : ∃ e, l[k] = e := ⟨_, rfl⟩
      have hmem : e ∈ l := he ▸ List.getElem_mem hlt'
      rw [he] at hE
      have HT : Hid (l.take (k + 1) = l.take k ++ [e]) := take_snoc_of hlt' he
      clear he hC
      obtain ⟨c0, c1, c2, c3, c4, c5, c6, c7, c8, c9, c10, c11, c12⟩ := hE.row.flat
      have c13 := hE.wt
      have x0 := hX.w0
      by_cases hwd : e.r.w = f.r.w
      · have hwq : (e.r.w != f.r.w) = false := by simpa using hwd
        have HWD : Hid (e.r.w = f.r.w) := hwd
        clear hwd
        go_wp2
        clear c0 c1 c2 c3 c4 c5 c6 c7 c8 c9 c10 c11 c12 c13
        go_loopw [4, 27] (fun d i wi => ∃ (j : Nat), i = .int .i64 j ∧ j ≤ m ∧ d = .int .u8 (mask (difTo f.r (l.take k) e m j)) ∧ RowAt wi w.heap.size 0 f.r ∧ RowAt wi wo.heap.size 0 e.r ∧ Below w.heap.size w wi ∧ wo.heap.size < wi.heap.size) (fun _ i _ => m - (intOf i).toNat)
        case atStart => exact ⟨0, rfl, Nat.zero_le _, by rw [difTo_zero], hX.alloc _ hsz, (EAt.box wo e _).row, hB.alloc (by omega) _, by simp⟩
        case round =>
          obtain ⟨j, rfl, hj, rfl, hX2, hY2, hB2, hsz2⟩ := hrel
          have y0 := hX2.w0
          by_cases hjm : j < m
          · have hj4 : j < 4 := by omega
            have hji : (j : Int) < 4 := by omega
            have hjm' : (j : Int) < f.r.w := by have := HM.out; omega
            have hj0 : (0 : Int) ≤ j := by omega
            have a0 : wr.cell? ⟨w.heap.size, 1 + j * 3, none⟩ = some (.int .i64 (f.r.at j).k) := by have := hX2.ck j hj4; rwa [Nat.zero_add] at this
            have a1 : wr.cell? ⟨w.heap.size, 1 + j * 3 + 1, none⟩ = some (.int .i64 (f.r.at j).i) := by have := hX2.ci j hj4; rwa [Nat.zero_add] at this
            have a2 : wr.cell? ⟨w.heap.size, 1 + j * 3 + 2, none⟩ = some (.string (f.r.at j).t) := by have := hX2.ct j hj4; rwa [Nat.zero_add] at this
            have b0 : wr.cell? ⟨wo.heap.size, 1 + j * 3, none⟩ = some (.int .i64 (e.r.at j).k) := by have := hY2.ck j hj4; rwa [Nat.zero_add] at this
            have b1 : wr.cell? ⟨wo.heap.size, 1 + j * 3 + 1, none⟩ = some (.int .i64 (e.r.at j).i) := by have := hY2.ci j hj4; rwa [Nat.zero_add] at this
            have b2 : wr.cell? ⟨wo.heap.size, 1 + j * 3 + 2, none⟩ = some (.string (e.r.at j).t) := by have := hY2.ct j hj4; rwa [Nat.zero_add] at this
            have hnv := fun w' => neVal (e.r.at j) (f.r.at j) w'
            have hmr := mask_rng (difTo f.r (l.take k) e m j)
            cases hq : eqV (e.r.at j) (f.r.at j)
            · have HQ : Hid (eqV (e.r.at j) (f.r.at j) = false) := hq
              have hor := mask_or (difTo f.r (l.take k) e m j) j hj4
              have hsh : IntKind.u8.wrap (2 ^ j) = 2 ^ j := by rcases lt4 hj4 with rfl | rfl | rfl | rfl <;> decide
              rw [hq] at hnv
              clear hq
              go_wp2_with fail
              go_region_held3 (fun w' => w'.cell? ⟨w.heap.size, 1 + j * 3, none⟩ = some (.int .i64 (f.r.at j).k) ∧ w'.cell? ⟨w.heap.size, 1 + j * 3 + 1, none⟩ = some (.int .i64 (f.r.at j).i) ∧ w'.cell? ⟨w.heap.size, 1 + j * 3 + 2, none⟩ = some (.string (f.r.at j).t) ∧
                  w'.cell? ⟨wo.heap.size, 1 + j * 3, none⟩ = some (.int .i64 (e.r.at j).k) ∧ w'.cell? ⟨wo.heap.size, 1 + j * 3 + 1, none⟩ = some (.int .i64 (e.r.at j).i) ∧ w'.cell? ⟨wo.heap.size, 1 + j * 3 + 2, none⟩ = some (.string (e.r.at j).t))
                (simp [*]) (fail)
              go_wp2
              go_roundw
              case rel => exact ⟨j + 1, by go_num, by omega, by rw [difTo_hit f.r (l.take k) e m j hjm HQ.out], hX2.drew, hY2.drew, hB2.drew, hsz2⟩
              case measure => simp [intOf]; omega
            · have HQ : Hid (eqV (e.r.at j) (f.r.at j) = true) := hq
              rw [hq] at hnv
              clear hq
              go_wp2_with fail
              go_region_held3 (fun w' => w'.cell? ⟨w.heap.size, 1 + j * 3, none⟩ = some (.int .i64 (f.r.at j).k) ∧ w'.cell? ⟨w.heap.size, 1 + j * 3 + 1, none⟩ = some (.int .i64 (f.r.at j).i) ∧ w'.cell? ⟨w.heap.size, 1 + j * 3 + 2, none⟩ = some (.string (f.r.at j).t) ∧
                  w'.cell? ⟨wo.heap.size, 1 + j * 3, none⟩ = some (.int .i64 (e.r.at j).k) ∧ w'.cell? ⟨wo.heap.size, 1 + j * 3 + 1, none⟩ = some (.int .i64 (e.r.at j).i) ∧ w'.cell? ⟨wo.heap.size, 1 + j * 3 + 2, none⟩ = some (.string (e.r.at j).t))
                (simp [*]) (fail)
              go_wp2
              go_roundw
              case rel => exact ⟨j + 1, by go_num, by omega, by rw [difTo_same f.r (l.take k) e m j hjm HQ.out], hX2.drew, hY2.drew, hB2.drew, hsz2⟩
              case measure => simp [intOf]; omega
          · have hjm' : f.r.w ≤ (j : Int) := by have := HM.out; omega
            have HJ : Hid (j = m) := by show j = m; omega
            go_wp2
            go_roundw
            case rel =>
              refine ⟨k + 1, by go_num, by omega, by rw [HJ.out, difTo_all, HT.out], ?_, hX2, hB2, by omega⟩
              intro x hx
              rw [HT.out] at hx
              rcases List.mem_append.1 hx with h | h
              · exact HALL.out x h
              · rw [List.mem_singleton.1 h]; exact HWD.out
            case measure => simp [intOf]; omega
      · have hwq : (e.r.w != f.r.w) = true := by simpa using hwd
        have HZ : Hid (S = 0) := HS0.out (by
          rw [List.all_eq_false]
          exact ⟨e, hmem, by simpa using hwd⟩)
        clear hwd
        go_wp2
        go_ret
        exact ⟨by rw [HZ.out]; rfl, hB.alloc (by omega) _⟩
    · have hkn : (n : Int) ≤ k := by omega
      have hT : l.take k = l := List.take_of_length_le (by have := HN.out; omega)
      have HSS : Hid (S = m * 16 + mask (fun i => decide (i < m) && !dif f.r l m i)) := HS.out (by
        rw [List.all_eq_true]
        intro x hx
        have := HALL.out x (by rw [hT]; exact hx)
        simpa using this)
      rw [hT]
      clear hT
      have x0 := hX.w0
      have hm5 : m < 5 := by omega
      have hmm : f.r.w.toNat = m := by have := HM.out; omega
      have hp : ((2 : Int) ^ m - 1) % 256 = 2 ^ m - 1 := by
        have : m = 0 ∨ m = 1 ∨ m = 2 ∨ m = 3 ∨ m = 4 := by omega
        rcases this with rfl | rfl | rfl | rfl | rfl <;> decide
      have hand : bits .andNot .u8 ((2 ^ f.r.w.toNat - 1) % 256) (mask (dif f.r l m)) = mask (fun j => decide (j < m) && !dif f.r l m j) := by
        rw [hmm, hp]; exact mask_andNot (dif f.r l m) m hm5
      have hmr := mask_rng (fun j => decide (j < m) && !dif f.r l m j)
      clear hmm hp
      go_wp2_with (first | (go_at_call 38; refine (shapeOf_any f.r.w (mask (fun j => decide (j < m) && !dif f.r l m j)) (by omega) (by omega) hmr.1 hmr.2 _).mono ?_; rintro e wo ⟨rfl, rfl⟩))
      go_ret
      exact ⟨by rw [HSS.out, ← HM.out]; rfl, hB⟩
end Go.Proofs.YtcbjoogkodcgkaaDoor

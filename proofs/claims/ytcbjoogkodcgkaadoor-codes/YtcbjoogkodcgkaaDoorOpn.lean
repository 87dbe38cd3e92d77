/-
  An argument that is a list of entries, opened.
-/
import Derived.Test.YtcbjoogkodcgkaaDoorRw
import Derived.OpenShut
import Derived.Deep.Slices
import Derived.ChangeArms
namespace Go.Proofs.YtcbjoogkodcgkaaDoor
open Go.ChangeShapes Go.WideShapes Go.Deep Go.RowKit
set_option maxRecDepth 100000
variable {tJ : TypeId}

section
variable {H : Type} {en : TypeId × Value → H} {P : Program} {w : World} {base : Nat} {sp : Nat → Bool} {held : Bool}

theorem i64_rng {n : Int} (h : (Lit.int .i64 n).wf = true) : -9223372036854775808 ≤ n ∧ n ≤ 9223372036854775807 := by
  simp only [Lit.wf, Bool.and_eq_true, decide_eq_true_eq] at h
  have h1 : IntKind.i64.min = -9223372036854775808 := by decide
  have h2 : IntKind.i64.max = 9223372036854775807 := by decide
  omega

theorem trod_V {n : Nat} {tV : TypeId} {f0 f1 f2 : Field} {cs : List Value} {x : DataW H × List MemPlace} (hV : P.underlying tV = some (.struct #[f0, f1, f2])) (c : P.cellsOf tV = 3)
    (o0 : f0.offset = 0) (o1 : f1.offset = 1) (o2 : f2.offset = 2) (u0 : P.underlying f0.type = some (.int .i64)) (u1 : P.underlying f1.type = some (.int .i64)) (u2 : P.underlying f2.type = some .string)
    (z0 : P.cellsOf f0.type = 1) (z1 : P.cellsOf f1.type = 1) (z2 : P.cellsOf f2.type = 1) (h : DataW.trod en P w base sp held n tV cs = some x) :
    ∃ v : V, cs = v.cells ∧ -9223372036854775808 ≤ v.i ∧ v.i ≤ 9223372036854775807 := by
  obtain ⟨xs, m, _, _, hl, hxl, hf⟩ := DataW.trod_struct hV h
  rw [c] at hl
  match xs, hxl, cs, hl with
  | [y0, y1, y2], _, [c0, c1, c2], _ =>
    have g0 := hf 0 f0 rfl
    have g1 := hf 1 f1 rfl
    have g2 := hf 2 f2 rfl
    simp [o0, o1, o2, z0, z1, z2] at g0 g1 g2
    obtain ⟨k, e0, _, _⟩ := DataW.trod_int u0 g0
    obtain ⟨i, e1, _, hi⟩ := DataW.trod_int u1 g1
    obtain ⟨t, e2, _, _⟩ := DataW.trod_string u2 g2
    simp only [List.cons.injEq, and_true] at e0 e1 e2
    subst e0 e1 e2
    have := i64_rng hi
    exact ⟨⟨k, i, t⟩, rfl, this.1, this.2⟩

theorem trod_R {n : Nat} {tR tA tV tI : TypeId} {g0 g1 f0 f1 f2 : Field} {cs : List Value} {x : DataW H × List MemPlace} (hR : P.underlying tR = some (.struct #[g0, g1])) (cR : P.cellsOf tR = 13)
    (q0 : g0.offset = 0) (q1 : g1.offset = 1) (tI' : g0.type = tI) (tA' : g1.type = tA) (uI : P.underlying tI = some (.int .i64)) (cI : P.cellsOf tI = 1) (hA : P.underlying tA = some (.array 4 tV)) (cA : P.cellsOf tA = 12)
    (hV : P.underlying tV = some (.struct #[f0, f1, f2])) (c : P.cellsOf tV = 3)
    (o0 : f0.offset = 0) (o1 : f1.offset = 1) (o2 : f2.offset = 2) (u0 : P.underlying f0.type = some (.int .i64)) (u1 : P.underlying f1.type = some (.int .i64)) (u2 : P.underlying f2.type = some .string)
    (z0 : P.cellsOf f0.type = 1) (z1 : P.cellsOf f1.type = 1) (z2 : P.cellsOf f2.type = 1) (h : DataW.trod en P w base sp held n tR cs = some x) :
    ∃ r : R, cs = r.cells ∧ ∀ i, i < 4 → -9223372036854775808 ≤ (r.at i).i ∧ (r.at i).i ≤ 9223372036854775807 := by
  subst tI' tA'
  obtain ⟨xs, m, _, _, hl, hxl, hf⟩ := DataW.trod_struct hR h
  rw [cR] at hl
  match xs, hxl, cs, hl with
  | [y0, y1], _, c0 :: cs', hl =>
    have hl' : cs'.length = 12 := by simpa using hl
    have k0 := hf 0 g0 rfl
    have k1 := hf 1 g1 rfl
    simp [q0, q1, cI, cA] at k0 k1
    rw [List.take_of_length_le (by omega)] at k1
    obtain ⟨wd, e0, _, _⟩ := DataW.trod_int uI k0
    simp only [List.cons.injEq, and_true] at e0
    subst e0
    obtain ⟨ys, m2, _, _, _, hyl, hel⟩ := DataW.trod_array hA k1
    have each : ∀ i, i < 4 → ∃ v : V, (cs'.drop (i * 3)).take 3 = v.cells ∧ -9223372036854775808 ≤ v.i ∧ v.i ≤ 9223372036854775807 := by
      intro i hi
      have := hel i hi
      rw [c, List.getElem?_eq_getElem (by omega)] at this
      exact trod_V hV c o0 o1 o2 u0 u1 u2 z0 z1 z2 this
    obtain ⟨va, ea, ra⟩ := each 0 (by omega)
    obtain ⟨vb, eb, rb⟩ := each 1 (by omega)
    obtain ⟨vc, ec, rc⟩ := each 2 (by omega)
    obtain ⟨vd, ed, rd⟩ := each 3 (by omega)
    refine ⟨⟨wd, va, vb, vc, vd⟩, ?_, ?_⟩
    · have hsplit : cs' = (cs'.drop (0 * 3)).take 3 ++ ((cs'.drop (1 * 3)).take 3 ++ ((cs'.drop (2 * 3)).take 3 ++ (cs'.drop (3 * 3)).take 3)) := by
        match cs', hl' with
        | [_, _, _, _, _, _, _, _, _, _, _, _], _ => rfl
      rw [hsplit, ea, eb, ec, ed]
      simp [R.cells]
    · intro i hi
      rcases lt4 hi with rfl | rfl | rfl | rfl
      · exact ra
      · exact rb
      · exact rc
      · exact rd

theorem trod_E {n : Nat} {tE tR tA tV tI : TypeId} {d0 d1 g0 g1 f0 f1 f2 : Field} {cs : List Value} {x : DataW H × List MemPlace} (hE : P.underlying tE = some (.struct #[d0, d1])) (cE : P.cellsOf tE = 14)
    (p0 : d0.offset = 0) (p1 : d1.offset = 13) (tR' : d0.type = tR) (tJ' : d1.type = tJ) (uJ : P.underlying tJ = some (.int .i64)) (cJ : P.cellsOf tJ = 1)
    (hR : P.underlying tR = some (.struct #[g0, g1])) (cR : P.cellsOf tR = 13)
    (q0 : g0.offset = 0) (q1 : g1.offset = 1) (tI' : g0.type = tI) (tA' : g1.type = tA) (uI : P.underlying tI = some (.int .i64)) (cI : P.cellsOf tI = 1) (hA : P.underlying tA = some (.array 4 tV)) (cA : P.cellsOf tA = 12)
    (hV : P.underlying tV = some (.struct #[f0, f1, f2])) (c : P.cellsOf tV = 3)
    (o0 : f0.offset = 0) (o1 : f1.offset = 1) (o2 : f2.offset = 2) (u0 : P.underlying f0.type = some (.int .i64)) (u1 : P.underlying f1.type = some (.int .i64)) (u2 : P.underlying f2.type = some .string)
    (z0 : P.cellsOf f0.type = 1) (z1 : P.cellsOf f1.type = 1) (z2 : P.cellsOf f2.type = 1) (h : DataW.trod en P w base sp held n tE cs = some x) :
    ∃ e : E, cs = e.cells ∧ Rng e := by
  subst tR' tJ'
  obtain ⟨xs, m, _, _, hl, hxl, hf⟩ := DataW.trod_struct hE h
  rw [cE] at hl
  match xs, hxl with
  | [y0, y1], _ =>
    have k0 := hf 0 d0 rfl
    have k1 := hf 1 d1 rfl
    simp [p0, p1, cR, cJ] at k0 k1
    obtain ⟨r, er, hr⟩ := trod_R hR cR q0 q1 tI' tA' uI cI hA cA hV c o0 o1 o2 u0 u1 u2 z0 z1 z2 k0
    obtain ⟨wt, ew, _, hw⟩ := DataW.trod_int uJ k1
    have := i64_rng hw
    refine ⟨⟨r, wt⟩, ?_, ⟨fun i hi => (hr i hi).1, fun i hi => (hr i hi).2, this.1, this.2⟩⟩
    have hs : cs = cs.take 13 ++ (cs.drop 13).take 1 := by
      rw [List.take_of_length_le (l := cs.drop 13) (by rw [List.length_drop]; omega), List.take_append_drop]
    rw [hs, er, ew]
    rfl
end

theorem EAt.of {w : World} {b o : Nat} {e : E} (hget : ∀ j u, j < 14 → (e.cells)[j]? = some u → w.cell? ⟨b, o + j, none⟩ = some u) : EAt w b o e := by
  refine ⟨⟨hget 0 _ (by decide) rfl, ?_, ?_, ?_⟩, hget 13 _ (by decide) rfl⟩
  · intro q hq; rcases lt4 hq with rfl | rfl | rfl | rfl
    · exact hget 1 _ (by decide) rfl
    · exact hget 4 _ (by decide) rfl
    · exact hget 7 _ (by decide) rfl
    · exact hget 10 _ (by decide) rfl
  · intro q hq; rcases lt4 hq with rfl | rfl | rfl | rfl
    · exact hget 2 _ (by decide) rfl
    · exact hget 5 _ (by decide) rfl
    · exact hget 8 _ (by decide) rfl
    · exact hget 11 _ (by decide) rfl
  · intro q hq; rcases lt4 hq with rfl | rfl | rfl | rfl
    · exact hget 3 _ (by decide) rfl
    · exact hget 6 _ (by decide) rfl
    · exact hget 9 _ (by decide) rfl
    · exact hget 12 _ (by decide) rfl

theorem Tryd.cE : Tryd.prog.cellsOf 38 = 14 := by kernel_rfl
theorem Tryd.cR : Tryd.prog.cellsOf 36 = 13 := by kernel_rfl
theorem Tryd.cA : Tryd.prog.cellsOf 34 = 12 := by kernel_rfl
theorem Tryd.cV : Tryd.prog.cellsOf 33 = 3 := by kernel_rfl
theorem Tryd.cI : Tryd.prog.cellsOf 3 = 1 := by kernel_rfl
theorem Tryd.cI64 : Tryd.prog.cellsOf 2 = 1 := by kernel_rfl
theorem Tryd.cS : Tryd.prog.cellsOf 9 = 1 := by kernel_rfl

/-- One entry, off its cells. -/
theorem entry_of {H : Type} {en : TypeId × Value → H} {w : World} {base : Nat} {sp : Nat → Bool} {held : Bool} {n : Nat} {cs : List Value} {x : DataW H × List MemPlace}
    (h : DataW.trod en Tryd.prog w base sp held n 38 cs = some x) : ∃ e : E, cs = e.cells ∧ Rng e :=
  trod_E Tryd.underlying38 Tryd.cE rfl rfl rfl rfl Tryd.underlying2 Tryd.cI64 Tryd.underlying36 Tryd.cR rfl rfl rfl rfl Tryd.underlying3 Tryd.cI Tryd.underlying34 Tryd.cA
    Tryd.underlying33 Tryd.cV rfl rfl rfl Tryd.underlying3 Tryd.underlying2 Tryd.underlying9 Tryd.cI Tryd.cI64 Tryd.cS h

theorem open_entries {H : Type} {en : TypeId × Value → H} {w : World} {base : Nat} {sp : Nat → Bool} {held : Bool} {n : Nat} {cs : List Value} {x : DataW H × List MemPlace}
    (h : DataW.trod en Tryd.prog w base sp held n 22 cs = some x) :
    ∃ v l, cs = [v] ∧ Sl w v l ∧ (∀ e ∈ l, Rng e) ∧ ((x.1 = .nil ∧ l = []) ∨ ∃ elems spare, x.1 = .slice elems spare ∧ elems.length = l.length) := by
  rcases open_slice Tryd.underlying22 h with ⟨rfl, rfl⟩ | ⟨a, len, cap, m, k, D, Pl, rfl, hb, hl, hm, hmm, rfl, hx⟩
  · exact ⟨_, [], rfl, .inl ⟨none, 0, rfl, rfl⟩, by simp, .inl ⟨rfl, rfl⟩⟩
  · have hlm : len ≤ m := by rw [hmm]; split <;> omega
    have each : ∀ i, i < len → ∃ e : E, (∀ j u, j < 14 → (e.cells)[j]? = some u → w.cell? (a.add (i * 14 + j)) = some u) ∧ Rng e := by
      intro i hi
      obtain ⟨cs', h1, h2⟩ := hx i (by omega)
      rw [Tryd.cE] at h1
      obtain ⟨_, hlen, hcell⟩ := World.cells?_some h1
      obtain ⟨e, he, hr⟩ := entry_of h2
      refine ⟨e, ?_, hr⟩
      intro j u hj hu
      have := hcell j hj
      rw [add_add] at this
      rw [this, he, hu]
    by_cases h0 : len = 0
    · subst h0
      exact ⟨_, [], rfl, .inl ⟨some a, cap, rfl, rfl⟩, by simp, .inr ⟨_, _, rfl, by simp⟩⟩
    · obtain ⟨b, o, spot⟩ := a
      obtain ⟨e0, he0, _⟩ := each 0 (by omega)
      have hspot : spot = none := by simpa [Addr.add] using World.cell?_spot (he0 0 _ (by omega) rfl)
      subst hspot
      have : Nonempty E := ⟨e0⟩
      have : Inhabited E := ⟨e0⟩
      obtain ⟨q, hq⟩ := choose_lt each
      refine ⟨_, (List.range len).map q, rfl, .inr ⟨b, o, cap, by simp, ?_, by simp; omega⟩, ?_, .inr ⟨_, _, rfl, by simp⟩⟩
      · intro i hi
        have hi' : i < len := by simpa using hi
        simp only [List.getElem_map, List.getElem_range]
        refine EAt.of (fun j u hj hu => ?_)
        have := (hq i hi').1 j u hj hu
        have ha : (⟨b, o, none⟩ : Addr).add (i * 14 + j) = ⟨b, o + i * 14 + j, none⟩ := by unfold Addr.add; split <;> simp_all [Nat.add_assoc]
        rwa [ha] at this
      · intro e he
        obtain ⟨i, hi, rfl⟩ := List.mem_map.1 he
        exact (hq i (List.mem_range.1 hi)).2
theorem Sl.kept {w w' : World} {v : Value} {l : List E} (h : Sl w v l) (hB : Below w.heap.size w w') : Sl w' v l := by
  rcases h with h | ⟨b, o, cap, rfl, hl, h0⟩
  · exact .inl h
  · exact .inr ⟨b, o, cap, rfl, hl.kept (fun c j h => (bcell hB).1 c j h) (World.block_lt_of_cell? w _ (hl 0 h0).row.w0), h0⟩
end Go.Proofs.YtcbjoogkodcgkaaDoor

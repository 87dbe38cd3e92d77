/-
  Walks: the law's same, lent, kept.
-/
import Derived.Test.YtcbjoogkodcgkaaDoorOpn
import Derived.Laws.CopyRow
import Derived.Laws.MakeOwn
import Derived.ChangeKeysEq
namespace Go.Proofs.YtcbjoogkodcgkaaDoor
open Go.RowKit Go.Extern
set_option maxHeartbeats 4000000
set_option maxRecDepth 100000

theorem infoV : ∃ i, Tryd.prog.info? 33 = some i := info_of_underlying Tryd.underlying33
theorem cV3 : Tryd.prog.cellsOf 33 = 3 := by kernel_rfl
theorem neE (e : E) (w : World) : (binOp .neq 38 e.val e.val).run Tryd.prog w = .ok (.bool false) w := by
  obtain ⟨i, hi⟩ := infoV
  have ha := fun (xs ys : Array Value) w => run_equalIn_array (P := Tryd.prog) w 9997 xs ys Tryd.underlying34 hi
  rw [cV3, show List.range 4 = [0, 1, 2, 3] from rfl] at ha
  simp [go_sem, ha, Op.eqItems]

theorem same_cons (l : List E) (b o cap b2 o2 cap2 : Nat) (w : World) (hl : ListAt w b o l) (hl2 : ListAt w b2 o2 l) (hn : 0 < l.length) (hn2 : l.length ≤ 1000000000003) :
    Calls Tryd.prog 10 #[.slice (some ⟨b, o, none⟩) l.length cap, .slice (some ⟨b2, o2, none⟩) l.length cap2] w fun e w' => e = .returned (.bool true) ∧ Below w.heap.size w w' := by
  have hbl : b < w.heap.size := World.block_lt_of_cell? w _ (hl 0 hn).row.w0
  have hbl2 : b2 < w.heap.size := World.block_lt_of_cell? w _ (hl2 0 hn).row.w0
  obtain ⟨n, hN⟩ : ∃ n, l.length = n := ⟨_, rfl⟩
  have HN : Hid (l.length = n) := hN
  rw [hN] at hn2 ⊢
  clear hN
  have hni : (n : Int) ≤ 1000000000003 := by omega
  go_enter Tryd.func10, Tryd.ntmps10
  go_wp2
  go_loopw [5] (fun i wr => ∃ k : Nat, i = .int .i64 k ∧ k ≤ n ∧ Below w.heap.size w wr) (fun i _ => n - (intOf i).toNat)
  case atStart => exact ⟨0, rfl, Nat.zero_le _, Below.refl _ _⟩
  case round =>
    obtain ⟨k, rfl, hk, hB⟩ := hrel
    by_cases hlt : k < n
    · have hlt' : k < l.length := by have := HN.out; omega
      have hki : (k : Int) < n := by omega
      have hk0 : (0 : Int) ≤ k := by omega
      have hE := ((hl k hlt').same (fun j => hB.cell (p := ⟨b, j, none⟩) hbl))
      have hE2 := ((hl2 k hlt').same (fun j => hB.cell (p := ⟨b2, j, none⟩) hbl2))
      obtain ⟨e, he⟩ : ∃ e, l[k] = e := ⟨_, rfl⟩
      rw [he] at hE hE2
      clear he
      have hne := fun w => neE e w
      obtain ⟨c0, c1, c2, c3, c4, c5, c6, c7, c8, c9, c10, c11, c12⟩ := hE.row.flat
      have c13 := hE.wt
      obtain ⟨d0, d1, d2, d3, d4, d5, d6, d7, d8, d9, d10, d11, d12⟩ := hE2.row.flat
      have d13 := hE2.wt
      go_wp2
      go_quiet (fail)
      go_wp2
      go_roundw
      case rel => exact ⟨k + 1, by go_num, by omega, below_drewN hB _⟩
      case measure => simp [intOf]; omega
    · have hkn : (n : Int) ≤ k := by omega
      go_wp2
      go_ret
      exact ⟨rfl, hB⟩
theorem same_nil (a a2 : Option Addr) (cap cap2 : Nat) (w : World) :
    Calls Tryd.prog 10 #[.slice a 0 cap, .slice a2 0 cap2] w fun e w' => e = .returned (.bool true) ∧ Below w.heap.size w w' := by
  go_enter Tryd.func10, Tryd.ntmps10
  go_wp2
  refine wp_loop_rounds 1 ?_
  rw [rounds_succ]
  go_wp2
  go_ret
  exact ⟨rfl, Below.refl _ _⟩
theorem same_all (v v2 : Value) (l : List E) (w : World) (h : Sl w v l) (h2 : Sl w v2 l) (hn : l.length ≤ 1000000000003) :
    Calls Tryd.prog 10 #[v, v2] w fun e w' => e = .returned (.bool true) ∧ Below w.heap.size w w' := by
  rcases h with ⟨a, cap, rfl, rfl⟩ | ⟨b, o, cap, rfl, hl, h0⟩
  · rcases h2 with ⟨a2, cap2, rfl, _⟩ | ⟨b2, o2, cap2, _, _, h0⟩
    · exact same_nil a a2 cap cap2 w
    · simp at h0
  · rcases h2 with ⟨a2, cap2, rfl, rfl⟩ | ⟨b2, o2, cap2, rfl, hl2, _⟩
    · simp at h0
    · exact same_cons l b o cap b2 o2 cap2 w hl hl2 h0 hn

theorem run_copy_wide {P : Program} (w : World) (dT sT ty elem : TypeId) (k : Nat) (g o dLen dCap : Nat) (a : Addr) (sLen sCap : Nat) (cur : Array Value) (t : TypeId) (cs : List Value)
    (hu : P.underlying dT = some (.slice elem)) (hs : (P.info? elem).map (·.size) = some k)
    (hg : w.heap[g]? = some (.cells cur t (0, 0))) (hn : cs.length = Nat.min sLen dLen * k)
    (hsrc : ∀ j v, cs[j]? = some v → w.cell? (a.add j) = some v) (hfit : o + cs.length ≤ cur.size) (h1 : ∀ v ∈ cs, v.oneCell' = true) :
    (Builtin.copy_ #[dT, sT] ty #[.slice (some ⟨g, o, none⟩) dLen dCap, .slice (some a) sLen sCap]).run P w =
      .ok (goInt (Nat.min sLen dLen)) (w.setRow g (cur.toList.take o ++ cs ++ cur.toList.drop (o + cs.length)).toArray) := by
  have hl := run_loadCells_list (P := P) w a cs hsrc
  have hst := run_storeCells_at P g o t cs 0 cur w hg (by simpa using hfit) h1
  cases hq : P.info? elem with
  | none => simp [hq] at hs
  | some i =>
    have hi : i.size = k := by simpa [hq] using hs
    simp [Builtin.copy_, run_underlying hu, Builtin.lenOf, Builtin.firstCells, sizeOf, typeInfo, hq, hi, ← hn, hl, hst]
theorem run_copy_empty {P : Program} (w : World) (dT sT ty elem : TypeId) (i : TypeInfo) (d a : Option Addr) (dLen dCap sCap : Nat) (hu : P.underlying dT = some (.slice elem)) (hq : P.info? elem = some i) :
    (Builtin.copy_ #[dT, sT] ty #[.slice d dLen dCap, .slice a 0 sCap]).run P w = .ok (goInt 0) w := by
  have hl : ∀ (x : Addr), (loadCells x 0).run P w = .ok #[] w := fun x => by simpa using run_loadCells_list (P := P) w x [] (by simp)
  cases d <;> cases a <;> simp [Builtin.copy_, run_underlying hu, Builtin.lenOf, Builtin.firstCells, sizeOf, typeInfo, hq, storeCells, hl]

/-- The entry that stands in the spare room. -/
def padE : E := ⟨⟨0, zeroV, zeroV, zeroV, zeroV⟩, -77⟩
theorem cells_len (l : List E) : (l.flatMap E.cells).length = l.length * 14 := by
  induction l with
  | nil => rfl
  | cons e t ih => rw [List.flatMap_cons, List.length_append, ih, List.length_cons, show e.cells.length = 14 from rfl]; omega
theorem cells_get (l : List E) (i : Nat) (hi : i < l.length) (j : Nat) (hj : j < 14) : (l.flatMap E.cells)[i * 14 + j]? = (l[i].cells)[j]? := by
  induction l generalizing i with
  | nil => simp at hi
  | cons x t ih =>
    have hxl : x.cells.length = 14 := rfl
    rw [List.flatMap_cons]
    cases i with
    | zero => rw [Nat.zero_mul, Nat.zero_add, List.getElem?_append_left (by omega)]; rfl
    | succ i =>
      rw [List.getElem?_append_right (by omega), hxl, show (i + 1) * 14 + j - 14 = i * 14 + j from by omega]
      exact ih i (by simpa using hi)
/-- A block whose first cells are a list's. -/
theorem ListAt.blk {w : World} {g t : Nat} {X : List Value} {l : List E} (h : w.heap[g]? = some (.cells X.toArray t (0, 0))) (hX : X.take (l.length * 14) = l.flatMap E.cells) : ListAt w g 0 l := by
  intro i hi
  refine EAt.of (fun j u hj hu => ?_)
  rw [(block_facts h).1, Nat.zero_add]
  have h1 := cells_get l i hi j hj
  rw [← hX, List.getElem?_take] at h1
  rw [if_pos (by omega)] at h1
  rw [List.getElem?_toArray, h1, hu]
theorem E.one (e : E) : ∀ v ∈ e.cells, v.oneCell' = true := by
  intro v hv
  simp only [E.cells, R.cells, V.cells, List.cons_append, List.nil_append, List.mem_cons, List.not_mem_nil, or_false] at hv
  rcases hv with rfl | rfl | rfl | rfl | rfl | rfl | rfl | rfl | rfl | rfl | rfl | rfl | rfl | rfl <;> rfl
theorem cells_one (l : List E) : ∀ v ∈ l.flatMap E.cells, v.oneCell' = true := by
  intro v hv
  obtain ⟨e, _, h⟩ := List.mem_flatMap.1 hv
  exact e.one v h
theorem ListAt.src {w : World} {b o : Nat} {l : List E} (h : ListAt w b o l) : ∀ j v, (l.flatMap E.cells)[j]? = some v → w.cell? ((⟨b, o, none⟩ : Addr).add j) = some v := by
  intro j v hv
  have hj : j < l.length * 14 := by
    rw [← cells_len]
    exact (List.getElem?_eq_some_iff.1 hv).1
  have hi : j / 14 < l.length := by omega
  have ha : (⟨b, o, none⟩ : Addr).add j = ⟨b, o + j, none⟩ := by unfold Addr.add; split <;> simp_all
  rw [ha]
  have hjj : j = j / 14 * 14 + j % 14 := by omega
  rw [hjj, cells_get l (j / 14) hi (j % 14) (by omega)] at hv
  rw [hjj, ← Nat.add_assoc]
  have hE := h (j / 14) hi
  generalize l[j / 14] = e at hv hE
  generalize o + j / 14 * 14 = q at hE ⊢
  have hm : j % 14 < 14 := by omega
  generalize j % 14 = m at hv hm ⊢
  obtain ⟨c0, c1, c2, c3, c4, c5, c6, c7, c8, c9, c10, c11, c12⟩ := hE.row.flat
  have c13 := hE.wt
  have hm14 : m = 0 ∨ m = 1 ∨ m = 2 ∨ m = 3 ∨ m = 4 ∨ m = 5 ∨ m = 6 ∨ m = 7 ∨ m = 8 ∨ m = 9 ∨ m = 10 ∨ m = 11 ∨ m = 12 ∨ m = 13 := by omega
  rcases hm14 with rfl | rfl | rfl | rfl | rfl | rfl | rfl | rfl | rfl | rfl | rfl | rfl | rfl | rfl <;> (cases hv; assumption)

/-- Cells laid one behind the other. -/
def setSeg (L : List Value) (o : Nat) : List Value → List Value
  | [] => L
  | v :: vs => setSeg (L.set o v) (o + 1) vs
theorem setSeg_eq : ∀ (vs L : List Value) (o : Nat), o + vs.length ≤ L.length → setSeg L o vs = L.take o ++ vs ++ L.drop (o + vs.length)
  | [], L, o, _ => by simp [setSeg]
  | v :: vs, L, o, h => by
    simp only [List.length_cons] at h
    rw [setSeg, setSeg_eq vs (L.set o v) (o + 1) (by simp; omega), List.length_cons]
    exact list_seg_step L o v vs (by omega)

theorem infoE14 : ∃ (i : TypeInfo) (z : Value), Tryd.prog.info? 38 = some i ∧ i.zero = some z ∧ i.size = 14 ∧ i.bytes = 144 := by
  obtain ⟨i, z, h1, h2, _, h4, h5⟩ := infoE_parts
  exact ⟨i, z, h1, h2, h4, h5⟩
theorem make_any (n : Nat) (hn : n ≤ 1000000000000) (w : World) : ∃ Z : List Value, Z.length = (n + 3) * 14 ∧
    (Instr.makeSlice 22 (.int .i64 ((n : Int) + 3)) (.int .i64 ((n : Int) + 3))).run Tryd.prog w = .ok (.slice (some ⟨w.heap.size, 0, none⟩) (n + 3) (n + 3)) (w.alloc (.cells Z.toArray 38)) := by
  obtain ⟨i, z, h1, h2, h3, h4⟩ := infoE14
  have := run_make (P := Tryd.prog) w 22 38 i z Tryd.underlying22 h1 h2 .i64 .i64 ((n : Int) + 3) ((n : Int) + 3) (by omega) (by omega) (by rw [h4]; omega) (by omega)
  rw [show ((n : Int) + 3).toNat = n + 3 from by omega, h3] at this
  refine ⟨(madeCells z.cells ((n + 3) * 14)).toList, by rw [Array.length_toList, size_madeCells], ?_⟩
  rw [Array.toArray_toList]
  exact this

/-- What copy makes of a new row. -/
theorem copy_any (v : Value) (l : List E) (w w1 : World) (h : Sl w v l) (hB : Below w.heap.size w w1) (g : Nat) (hgw : w.heap.size ≤ g) (Z : List Value) (hZ : Z.length = (l.length + 3) * 14) (hg : w1.heap[g]? = some (.cells Z.toArray 38 (0, 0))) :
    ∃ (w2 : World) (X : List Value), (Builtin.copy_ #[22, 22] 3 #[.slice (some ⟨g, 0, none⟩) (l.length + 3) (l.length + 3), v]).run Tryd.prog w1 = .ok (goInt l.length) w2 ∧
      w2.heap[g]? = some (.cells X.toArray 38 (0, 0)) ∧ X.length = (l.length + 3) * 14 ∧ X.take (l.length * 14) = l.flatMap E.cells ∧ Below w.heap.size w w2 := by
  obtain ⟨i, z, h1, h2, h3, h4⟩ := infoE14
  rcases h with ⟨a, cap, rfl, rfl⟩ | ⟨b, o, cap, rfl, hl, h0⟩
  · exact ⟨w1, Z, run_copy_empty w1 _ _ _ _ i _ a _ _ cap Tryd.underlying22 h1, hg, hZ, by simp, hB⟩
  · have hbl : b < w.heap.size := World.block_lt_of_cell? w _ (hl 0 h0).row.w0
    have hl1 : ListAt w1 b o l := hl.kept (fun c j h => hB.cell (p := ⟨c, j, none⟩) h) hbl
    have hm : Nat.min l.length (l.length + 3) = l.length := Nat.min_eq_left (by omega)
    have hr := run_copy_wide (P := Tryd.prog) w1 22 22 3 38 14 g 0 (l.length + 3) (l.length + 3) ⟨b, o, none⟩ l.length cap Z.toArray 38 (l.flatMap E.cells)
      Tryd.underlying22 (by rw [h1]; simp [h3]) hg (by rw [hm, cells_len]) hl1.src (by rw [cells_len]; simp; omega) (cells_one l)
    rw [hm] at hr
    refine ⟨_, _, hr, setRow_heap w1 g _ _ _ _ hg, ?_, ?_, hB.trans ⟨rfl, rfl, rfl, by simp [World.setRow], fun k hk => setRow_other w1 g k _ (by omega)⟩⟩
    · simp only [List.take_zero, List.nil_append, List.length_append, List.length_drop, cells_len]
      omega
    · rw [List.take_zero, List.nil_append, ← cells_len l, List.take_left]

theorem Sl.shape {w : World} {v : Value} {l : List E} (h : Sl w v l) : ∃ a cap, v = .slice a l.length cap := by
  rcases h with ⟨a, cap, rfl, rfl⟩ | ⟨b, o, cap, rfl, _, _⟩
  · exact ⟨a, cap, rfl⟩
  · exact ⟨_, cap, rfl⟩
theorem lent_any (v : Value) (l : List E) (w : World) (h : Sl w v l) (hn : l.length ≤ 1000000000000) :
    Calls Tryd.prog 5 #[v] w fun e w' => e = .returned (.slice (some ⟨w.heap.size, 0, none⟩) (l.length + 3) (l.length + 3)) ∧ ListAt w' w.heap.size 0 (l ++ [padE, padE, padE]) ∧ Below w.heap.size w w' := by
  obtain ⟨Z, hZ, hmk⟩ := make_any l.length hn w
  have hB1 : Below w.heap.size w (w.alloc (.cells Z.toArray 38)) := (Below.refl _ _).alloc (Nat.le_refl _) _
  obtain ⟨w2, X, hcp, hX, hXl, hXt, hB2⟩ := copy_any v l w _ h hB1 w.heap.size (Nat.le_refl _) Z hZ (heap_alloc_new w _)
  obtain ⟨a, cap, rfl⟩ := h.shape
  obtain ⟨n, hN⟩ : ∃ n, l.length = n := ⟨_, rfl⟩
  have HN : Hid (l.length = n) := hN
  have HX : Hid (X.length = (n + 3) * 14 ∧ X.take (n * 14) = l.flatMap E.cells) := by rw [← hN]; exact ⟨hXl, hXt⟩
  rw [hN] at hn hmk hcp ⊢
  clear hN hXl hXt hZ hB1 h
  have hni : (n : Int) ≤ 1000000000000 := by omega
  have hn3 : IntKind.i64.wrap ((n : Int) + 3) = n + 3 := by rw [IntKind.wrap_i64]; omega
  go_enter Tryd.func5, Tryd.ntmps5
  go_wp2
  go_loopw [4] (fun i wr => ∃ (k : Nat) (Y : List Value), i = .int .i64 k ∧ n ≤ k ∧ k ≤ n + 3 ∧ wr.heap[w.heap.size]? = some (.cells Y.toArray 38 (0, 0)) ∧ (Y.length = (n + 3) * 14 ∧ Y.take (k * 14) = (l ++ List.replicate (k - n) padE).flatMap E.cells) ∧ Below w.heap.size w wr) (fun i _ => n + 3 - (intOf i).toNat)
  case atStart => exact ⟨n, X, rfl, Nat.le_refl _, by omega, hX, ⟨HX.out.1, by rw [Nat.sub_self, List.replicate_zero, List.append_nil]; exact HX.out.2⟩, hB2⟩
  case round =>
    clear hX hB2 hcp hmk
    obtain ⟨k, Y, rfl, hk1, hk2, hY, hYY, hB⟩ := hrel
    have HY : Hid (wr.heap[w.heap.size]? = some (.cells Y.toArray 38 (0, 0))) := hY
    have HYY : Hid (Y.length = (n + 3) * 14 ∧ Y.take (k * 14) = (l ++ List.replicate (k - n) padE).flatMap E.cells) := hYY
    obtain ⟨q1, q2⟩ := block_facts hY
    have hex : ∀ j, j < 14 → k < n + 3 → ∃ y, wr.cell? ⟨w.heap.size, k * 14 + j, none⟩ = some y := fun j hj hk => by
      have hlt : k * 14 + j < Y.length := by rw [hYY.1]; omega
      exact ⟨Y[k * 14 + j], by rw [q1, List.getElem?_toArray, List.getElem?_eq_getElem hlt]⟩
    have hfr : ∀ j, wr.frozen? ⟨w.heap.size, j, none⟩ = false := q2
    clear hY hYY q1 q2
    by_cases hlt : k < n + 3
    · have hki : (k : Int) < (n : Int) + 3 := by omega
      have hk0 : (0 : Int) ≤ k := by omega
      obtain ⟨y0, c0⟩ := hex 0 (by omega) hlt
      rw [Nat.add_zero] at c0
      obtain ⟨y1, c1⟩ := hex 1 (by omega) hlt
      obtain ⟨y2, c2⟩ := hex 2 (by omega) hlt
      obtain ⟨y3, c3⟩ := hex 3 (by omega) hlt
      obtain ⟨y4, c4⟩ := hex 4 (by omega) hlt
      obtain ⟨y5, c5⟩ := hex 5 (by omega) hlt
      obtain ⟨y6, c6⟩ := hex 6 (by omega) hlt
      obtain ⟨y7, c7⟩ := hex 7 (by omega) hlt
      obtain ⟨y8, c8⟩ := hex 8 (by omega) hlt
      obtain ⟨y9, c9⟩ := hex 9 (by omega) hlt
      obtain ⟨y10, c10⟩ := hex 10 (by omega) hlt
      obtain ⟨y11, c11⟩ := hex 11 (by omega) hlt
      obtain ⟨y12, c12⟩ := hex 12 (by omega) hlt
      obtain ⟨y13, c13⟩ := hex 13 (by omega) hlt
      clear hex
      go_wp2
      go_roundw
      case rel =>
        have hfit : k * 14 + padE.cells.length ≤ Y.length := by rw [HYY.out.1, show padE.cells.length = 14 from rfl]; omega
        refine ⟨k + 1, setSeg Y (k * 14) padE.cells, by go_num, by omega, by omega, ?_, ⟨?_, ?_⟩, ?_⟩
        · exact heap_setCell_at (heap_setCell_at (heap_setCell_at (heap_setCell_at (heap_setCell_at (heap_setCell_at (heap_setCell_at (heap_setCell_at (heap_setCell_at (heap_setCell_at (heap_setCell_at (heap_setCell_at (heap_setCell_at (heap_setCell_at HY.out _) _) _) _) _) _) _) _) _) _) _) _) _) _
        · rw [setSeg_eq _ _ _ hfit]
          simp only [List.length_append, List.length_take, List.length_drop]
          have := HYY.out.1
          omega
        · rw [setSeg_eq _ _ _ hfit]
          have h1 : (Y.take (k * 14) ++ padE.cells).length = (k + 1) * 14 := by
            rw [List.length_append, List.length_take, show padE.cells.length = 14 from rfl] at *
            have := HYY.out.1
            omega
          rw [← h1, List.take_left, HYY.out.2, show k + 1 - n = (k - n) + 1 from by omega, List.replicate_succ', ← List.append_assoc, List.flatMap_append]
          simp
        · refine Below.setCell (Below.setCell (Below.setCell (Below.setCell (Below.setCell (Below.setCell (Below.setCell (Below.setCell (Below.setCell (Below.setCell (Below.setCell (Below.setCell (Below.setCell (Below.setCell hB ?_ _) ?_ _) ?_ _) ?_ _) ?_ _) ?_ _) ?_ _) ?_ _) ?_ _) ?_ _) ?_ _) ?_ _) ?_ _) ?_ _
          all_goals exact Nat.le_refl _
      case measure => simp [intOf]; omega
    · have hkn : (n : Int) + 3 ≤ k := by omega
      clear hex
      have HK : Hid (k = n + 3) := by show k = n + 3; omega
      go_wp2
      go_ret
      refine ⟨rfl, ListAt.blk (X := Y) HY.out ?_, hB⟩
      have h2 := HYY.out.2
      have e1 : k - n = 3 := by have := HK.out; omega
      rw [e1] at h2
      have e2 : (l ++ [padE, padE, padE]).length = k := by rw [List.length_append, HN.out, HK.out]; rfl
      rw [e2]
      exact h2

theorem kept_any (x v : Value) (l : List E) (w : World) (hx : Sl w x (l ++ [padE, padE, padE])) (h : Sl w v l) (hn : l.length ≤ 1000000000000) :
    Calls Tryd.prog 8 #[x, v] w fun e w' => e = .returned (.bool true) ∧ Below w.heap.size w w' := by
  have H1 : Hid (Calls Tryd.prog 5 #[v] w fun e w' => ∃ y, e = .returned y ∧ Sl w' y (l ++ [padE, padE, padE]) ∧ Below w.heap.size w w') := (lent_any v l w h hn).mono (by
    rintro e w' ⟨rfl, hl, hB⟩
    exact ⟨_, rfl, .inr ⟨w.heap.size, 0, l.length + 3, by simp, hl, by simp⟩, hB⟩)
  have H2 : Hid (∀ y w', Sl w' y (l ++ [padE, padE, padE]) → Below w.heap.size w w' → Calls Tryd.prog 10 #[x, y] w' fun e w'' => e = .returned (.bool true) ∧ Below w'.heap.size w' w'') := fun y w' hy hB =>
    same_all x y _ w' (hx.kept hB) hy (by rw [List.length_append]; simp; omega)
  go_enter Tryd.func8, Tryd.ntmps8
  go_wp2_with fail
  refine H1.out.mono ?_
  rintro e w1 ⟨y, rfl, hy, hB1⟩
  go_wp2_with fail
  refine (H2.out y w1 hy hB1).mono ?_
  rintro e w2 ⟨rfl, hB2⟩
  go_wp2
  go_ret
  exact ⟨rfl, hB1.trans (hB2.mono hB1.size)⟩
end Go.Proofs.YtcbjoogkodcgkaaDoor

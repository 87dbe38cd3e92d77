/-
  The row of the law Codes, proved: its arguments opened, its variables as they are laid, its walk, its arguments read again.
-/
import Derived.Test.YtcbjoogkodcgkaaDoorRows
import Derived.Test.YtcbjoogkodcgkaaDoorCds
import Derived.ProofKit
import Derived.LaidMore
import Derived.LaidHandle
import Derived.OpenShut
import Derived.Carry
import Derived.SizedLaws
import Derived.WideKeyArgs
import Derived.Stop.LaidErr
import Derived.Stop.Joined
namespace Go.Proofs.YtcbjoogkodcgkaaDoor
open Go.ChangeShapes Go.WideShapes Go.ChangeAt Go.WideElems Go.RowKit Go.ChangeMaps

theorem own : ownKnob Tryd.prog.godebug = none := by kernel_rfl
theorem laidOut : laidOutB Tryd.prog = true := by kernel_rfl
theorem gET : Tryd.prog.globalNamed "errors.errorType" = some 3 := by kernel_rfl
theorem gEB : Tryd.prog.globalNamed "tidings/code.ErrBytes" = some 0 := by kernel_rfl
theorem gEnd : Tryd.prog.globalNamed "tidings/code.errEnd" = some 4 := by kernel_rfl
theorem gLen : Tryd.prog.globalNamed "tidings/code.errLength" = some 1 := by kernel_rfl
theorem gTag : Tryd.prog.globalNamed "tidings/code.errTag" = some 5 := by kernel_rfl
theorem gNum : Tryd.prog.globalNamed "tidings/code.errNumber" = some 6 := by kernel_rfl
theorem gAga : Tryd.prog.globalNamed "tidings/code.errAgain" = some 2 := by kernel_rfl
theorem tEB : (Tryd.prog.globals[0]?).map (·.type) = some 41 := by kernel_rfl
theorem tEnd : (Tryd.prog.globals[4]?).map (·.type) = some 41 := by kernel_rfl
theorem tLen : (Tryd.prog.globals[1]?).map (·.type) = some 41 := by kernel_rfl
theorem tTag : (Tryd.prog.globals[5]?).map (·.type) = some 41 := by kernel_rfl
theorem tNum : (Tryd.prog.globals[6]?).map (·.type) = some 41 := by kernel_rfl
theorem tAga : (Tryd.prog.globals[2]?).map (·.type) = some 41 := by kernel_rfl
theorem rtT : (Tryd.prog.cutTypes.find? (·.1 == "internal/reflectlite.rtype")).map (·.2) = some 100 := by kernel_rfl
theorem oneErr : ((List.range 169).filter fun t => Tryd.prog.rowNamed t [101, 114, 114, 111, 114]) = [41] := by kernel_rfl
theorem sizeT : Tryd.prog.types.size = 169 := by kernel_rfl
theorem cES : Tryd.prog.cellsOf 157 = 1 := by kernel_rfl
theorem starES : "*" ++ "errors.errorString" = "*errors.errorString" := by decide
theorem rowES (u : TypeId) (h : Tryd.prog.typeName? 3 u = some "*errors.errorString") : u = 137 :=
  typeName_ptr_named (nm := "errors.errorString") (by rw [starES]; kernel_rfl) (by kernel_rfl) (by decide) u (by rw [starES]; exact h)

/-- What the row lists. -/
abbrev laidL : List (String × DataW Unit) := Rows.codesRow.laid
abbrev laidS : List (String × DataW Unit) := [("tidings/code.ErrBytes", Rows.laid_tidings_code_ErrBytes), ("tidings/code.errEnd", Rows.laid_tidings_code_errEnd), ("tidings/code.errLength", Rows.laid_tidings_code_errLength), ("tidings/code.errTag", Rows.laid_tidings_code_errTag), ("tidings/code.errNumber", Rows.laid_tidings_code_errNumber), ("tidings/code.errAgain", Rows.laid_tidings_code_errAgain)]
theorem partS : (laidL.filter fun x => x.2.handleName?.isNone) = laidS := by kernel_rfl
theorem partH : (laidL.filter fun x => x.2.handleName?.isSome) = [("errors.errorType", Rows.laid_errors_errorType)] := by kernel_rfl

/-- What the condition gives the walk. -/
theorem env_of_laid {W : World} (h : laidMetH Tryd.prog laidL W) : ∃ a, Env W a := by
  unfold laidMetH at h
  rw [partH, partS] at h
  obtain ⟨hS, hH⟩ := h
  have hq0 : W.var? Tryd.prog "errors.errorType" = some #[rty 41] := by
    obtain ⟨name, u, ty, e1, e2, e3, e4, e5⟩ := hH _ (List.mem_singleton.2 rfl)
    have en : name = [101, 114, 114, 111, 114] := (Option.some.inj e1).symm
    subst en
    obtain rfl := Option.some.inj (rtT.symm.trans e2)
    have hm : ty ∈ (List.range 169).filter fun t => Tryd.prog.rowNamed t [101, 114, 114, 111, 114] := List.mem_filter.2 ⟨List.mem_range.2 (by rw [← sizeT]; exact e3), e4⟩
    rw [oneErr] at hm
    obtain rfl := List.mem_singleton.1 hm
    have hh : typeHandle Tryd.prog 41 = .pointer (some ⟨8, 41, none⟩) := by kernel_rfl
    rw [hh] at e5
    exact e5
  have hq : W.cell? ⟨3, 0, none⟩ = some (rty 41) := by simpa using World.var?_cell gET hq0 0
  obtain ⟨a0, s0, v0, hs0, _, _⟩ := laid_sentinel hS gEB tEB Tryd.underlying41 rowES Tryd.underlying137 Tryd.underlying157 rfl rfl Tryd.underlying9 cES Tryd.cS
  have hS1 := hS.tail
  obtain ⟨a1, _, v1, _, _, _⟩ := laid_sentinel hS1 gEnd tEnd Tryd.underlying41 rowES Tryd.underlying137 Tryd.underlying157 rfl rfl Tryd.underlying9 cES Tryd.cS
  have hS2 := hS1.tail
  obtain ⟨a2, _, v2, _, _, _⟩ := laid_sentinel hS2 gLen tLen Tryd.underlying41 rowES Tryd.underlying137 Tryd.underlying157 rfl rfl Tryd.underlying9 cES Tryd.cS
  have hS3 := hS2.tail
  obtain ⟨a3, _, v3, _, _, _⟩ := laid_sentinel hS3 gTag tTag Tryd.underlying41 rowES Tryd.underlying137 Tryd.underlying157 rfl rfl Tryd.underlying9 cES Tryd.cS
  have hS4 := hS3.tail
  obtain ⟨a4, _, v4, _, _, _⟩ := laid_sentinel hS4 gNum tNum Tryd.underlying41 rowES Tryd.underlying137 Tryd.underlying157 rfl rfl Tryd.underlying9 cES Tryd.cS
  have hS5 := hS4.tail
  obtain ⟨a5, _, v5, _, _, _⟩ := laid_sentinel hS5 gAga tAga Tryd.underlying41 rowES Tryd.underlying137 Tryd.underlying157 rfl rfl Tryd.underlying9 cES Tryd.cS
  have c0 : W.cell? ⟨0, 0, none⟩ = some (tgt a0) := by simpa using World.var?_cell gEB v0 0
  have c1 : W.cell? ⟨4, 0, none⟩ = some (tgt a1) := by simpa using World.var?_cell gEnd v1 0
  have c2 : W.cell? ⟨1, 0, none⟩ = some (tgt a2) := by simpa using World.var?_cell gLen v2 0
  have c3 : W.cell? ⟨5, 0, none⟩ = some (tgt a3) := by simpa using World.var?_cell gTag v3 0
  have c4 : W.cell? ⟨6, 0, none⟩ = some (tgt a4) := by simpa using World.var?_cell gNum v4 0
  have c5 : W.cell? ⟨2, 0, none⟩ = some (tgt a5) := by simpa using World.var?_cell gAga v5 0
  have hz : 8 ≤ W.heap.size := by
    obtain ⟨b, o, spot⟩ := a0
    obtain rfl : spot = none := World.cell?_spot hs0
    have hb := World.block_lt_of_cell? W _ hs0
    have hno : ∀ (n : String) (g : Nat) (t : TypeId) (x : Value), Tryd.prog.globalNamed n = some g → W.var? Tryd.prog n = some #[.iface t x] → b ≠ g := by
      rintro n g t x hg hv rfl
      have hc := World.var?_cell hg hv o
      rw [hs0] at hc
      cases o with
      | zero => simp at hc
      | succ o => simp at hc
    have n0 := hno _ _ _ _ gEB v0
    have n1 := hno _ _ _ _ gEnd v1
    have n2 := hno _ _ _ _ gLen v2
    have n3 := hno _ _ _ _ gTag v3
    have n4 := hno _ _ _ _ gNum v4
    have n5 := hno _ _ _ _ gAga v5
    have n6 := hno _ _ _ _ gET hq0
    simp only at hb
    omega
  exact ⟨a0, ⟨⟨⟨_, _, c1, .inl ⟨_, rfl⟩⟩, ⟨_, _, c3, .inl ⟨_, rfl⟩⟩, ⟨_, _, c4, .inl ⟨_, rfl⟩⟩⟩, ⟨_, _, c2, .inl ⟨_, rfl⟩⟩, ⟨_, _, c5, .inl ⟨_, rfl⟩⟩, hz⟩, c0, hq⟩

theorem door_met (os : Os) (args : Array Value) : laidMetH Tryd.prog laidL ((World.doorLaid Tryd.prog 130 os).forCall (fun _ _ => 0) ⟨#[], args, []⟩).memory :=
  laidMetH_of_parts3 (fuel := 8) (laidMet_of_run' 8 (by kernel_rfl) (by kernel_rfl)) (by kernel_rfl) (by kernel_rfl)

set_option maxRecDepth 100000 in
theorem lifted (os : Os) (started : os.Started) (H : Type) (enc : TypeId × Value → H) :
    ReturnsInHanded {} Tryd.checked os 3 .any (fun w args => (Rows.codesSpec.pre enc Tryd.prog Tryd.f3 [] false w args ∧ laidMetH Tryd.prog laidL w) ∧ sizedMet enc Tryd.prog Tryd.f3 (OpenSpec.ofChange Rows.codesSpec) false w args)
      (Rows.codesSpec.post enc Tryd.prog Tryd.f3 false true false false) := by
  refine returnsInHanded_of_change_and (C := Tryd.checked) (X := fun w _ => laidMetH Tryd.prog laidL w) (fun _ _ _ hh h => h.of_heap hh) own started (by kernel_rfl) Tryd.func3
    (ChangeSpec.witness_shaped (enc := enc) (C := Tryd.checked) (os := os) (X := fun w _ => laidMetH Tryd.prog laidL w) false (World.doorLaid Tryd.prog 130 os) #[.slice none 0 0, .string ⟨#[]⟩] 8 rfl (World.shaped_of_RefB (by kernel_rfl) (by kernel_rfl)) (by kernel_rfl) (by kernel_rfl) (by kernel_rfl) (door_met os _)) ?_
  intro W base args ds gs before hval0 hW _ hsz hL _
  have hval : ∀ (j : Nat) t v, Tryd.f3.params[j]? = some t → args[j]? = some v → Value.okWide Tryd.prog W .any base t v := hval0
  have hW' := hW
  obtain ⟨p, q, hA0, hV, rfl, hfz, hnd⟩ := hW
  have hA : DataW.TrodAll enc Tryd.prog W 0 (fun _ => true) true Tryd.f3.params.toList args.toList ds p := hA0
  rw [Tryd.params3] at hA hval hsz
  obtain ⟨v0, v1, d0, d1, p0, p1, rfl, rfl, rfl, h0, h1⟩ := trodAll_two hA
  obtain ⟨rfl, rfl⟩ := trodVars_none hV
  obtain ⟨s, rfl, rfl, rfl, hs⟩ := open_string Tryd.underlying9 (hval 1 9 v1 rfl rfl) h1
  obtain ⟨av, len, cap, rfl⟩ := okWide_slice Tryd.underlying22 (hval 0 22 v0 rfl rfl)
  obtain ⟨fuel, hf⟩ := h0
  obtain ⟨v, l, hv, hS, hr, hd⟩ := open_entries hf
  obtain rfl : Value.slice av len cap = v := by simpa [Value.cells] using hv
  have hb144 : Tryd.checked.prog.bytesOf 38 = 144 := by kernel_rfl
  have hn : l.length ≤ 1000000000000 := by
    rcases hd with ⟨_, rfl⟩ | ⟨elems, sp, hd, hle⟩
    · simp
    · simp only at hd
      subst hd
      have := sized_slice hsz (j := 0) (t := 22) (e := 38) (elems := elems) (spare := sp) rfl rfl Tryd.underlying22
      rw [hb144] at this
      simp only [reachBytes] at this
      omega
  obtain ⟨a, hE⟩ := env_of_laid hL
  have hlt : ∀ x ∈ p0, x.block < W.heap.size := fun x hx => hW'.lt x (by simp [hx])
  have hcall := codes_any _ l s.data.toList W a hE hS hn hr
  rw [mk_data] at hcall
  refine hcall.mono fun e W' ⟨he, hB⟩ => ?_
  subst he
  have e1 : Rows.codesSpec.fn H ([d0, .lit (.string s.data.toList)] ++ []) = { results := [.lit (.bool true)], args := [d0, .lit (.string s.data.toList)] } := rfl
  refine ⟨_, rfl, _, _, _, [], p0 ++ [], [], hW', ?_, ?_, ?_, hB.frame _, fun h => by cases h⟩
  · rw [e1]; exact trodAll_mk1 (shut_bool Tryd.underlying4 true)
  · rw [e1]; exact trodAll_mk2 (Below.trod laidOut (by kernel_rfl) (of_decide_eq_true (by kernel_rfl)) ⟨fuel, hf⟩ hB hlt) (shut_string Tryd.underlying9 hs)
  · rw [e1]; rfl

theorem codes_said : Rows.CodesSaid :=
  OpenClaim.holds_of_wide 3 Tryd.f3 rfl rfl rfl rfl rfl rfl rfl ⟨rfl, rfl, rfl, rfl, rfl⟩ rfl rfl rfl rfl rfl (by kernel_rfl) Tryd.func3 (by kernel_rfl)
    (of_decide_eq_true (by kernel_rfl)) (by unfold Func.isWrapper; first | (rw [if_pos (by decide +kernel)]; kernel_rfl) | (rw [if_neg (by decide +kernel)]; exact ⟨rfl, rfl⟩))
    (fun os started H enc _ => lifted os started H enc)
end Go.Proofs.YtcbjoogkodcgkaaDoor

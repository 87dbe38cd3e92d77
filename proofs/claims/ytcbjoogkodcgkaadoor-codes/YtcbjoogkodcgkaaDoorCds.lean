/-
  Walks: the law Codes itself.
-/
import Derived.Test.YtcbjoogkodcgkaaDoorEnc
import Derived.Test.YtcbjoogkodcgkaaDoorLnt
import Derived.Test.YtcbjoogkodcgkaaDoorMst
namespace Go.Proofs.YtcbjoogkodcgkaaDoor
open Go.RowKit Go.Extern
set_option maxHeartbeats 4000000
set_option maxRecDepth 100000

theorem Sent.kept {w w' : World} {g : Nat} (h : Sent w g) (hB : Below w.heap.size w w') : Sent w' g := by
  obtain ⟨t, x, hc, hl⟩ := h
  exact ⟨t, x, (hB.cell (World.block_lt_of_cell? w _ hc)).trans hc, hl⟩
theorem AllS.kept {w w' : World} (h : AllS w) (hB : Below w.heap.size w w') : AllS w' :=
  ⟨h.s.kept (rb := 8) (grownBy_of_below hB (some 8)) (Nat.le_refl _), h.l.kept hB, h.g.kept hB, Nat.le_trans h.z hB.size⟩
/-- What the package-level variables hold. -/
structure Env (w : World) (a : Addr) : Prop where
  s : AllS w
  g : w.cell? ⟨0, 0, none⟩ = some (tgt a)
  q : w.cell? ⟨3, 0, none⟩ = some (rty 41)
theorem Env.kept {w w' : World} {a : Addr} (h : Env w a) (hB : Below w.heap.size w w') : Env w' a :=
  ⟨h.s.kept hB, (hB.cell (World.block_lt_of_cell? w _ h.g)).trans h.g, (hB.cell (World.block_lt_of_cell? w _ h.q)).trans h.q⟩

/-- What Decode answers, and the list that it stands for. -/
def DecE (bs : List UInt8) (s : Value) (n : Int) (es : List E) : Prop := (n = 0 ∧ Decodes bs es) ∨ (n = 5 ∧ s = .slice none 0 0 ∧ es = [] ∧ ∀ es', ¬ Decodes bs es')
theorem Decodes.uniq {bs : List UInt8} {es es' : List E} (h : Decodes bs es) (h' : Decodes bs es') : es = es' := by
  have := h.list
  rw [h'.list] at this
  exact (Option.some.inj this).symm
theorem decode_env (bs : List UInt8) (w : World) (a : Addr) (h : Env w a) :
    Calls Tryd.prog 4 #[.string (mk bs)] w fun e w' => ∃ s n es, e = .returned (.tuple #[s, .int .i64 n]) ∧ DecE bs s n es ∧ Sl w' s es ∧ Below w.heap.size w w' := by
  refine (decode_any bs w h.s a h.g).mono ?_
  rintro e w' ⟨s, n, rfl, ⟨hn, es, hD, hE⟩ | ⟨hn, rfl, hN⟩, hB⟩
  · exact ⟨s, n, es, rfl, .inl ⟨hn, hD⟩, hE.sl, hB⟩
  · exact ⟨_, n, [], rfl, .inr ⟨hn, rfl, rfl, hN⟩, .inl ⟨none, 0, rfl, rfl⟩, hB⟩
/-- The entry that is none. -/
def zeroE : E := ⟨zeroR 0, 0⟩
theorem chk_zeroE : chk [zeroE] = 1 := by decide
theorem zeroE_rng : ∀ e ∈ [zeroE], Rng e := by
  intro e he
  rw [List.mem_singleton.1 he]
  have h := zeroR_rng 0
  exact ⟨fun i _ => (h.at i).1, fun i _ => (h.at i).2, by decide, by decide⟩

theorem zeroE_sl (w' : World) : Sl (w'.alloc (.cells #[.int .i64 0, .int .i64 0, .int .i64 0, .string ⟨#[]⟩, .int .i64 0, .int .i64 0, .string ⟨#[]⟩, .int .i64 0, .int .i64 0, .string ⟨#[]⟩, .int .i64 0, .int .i64 0, .string ⟨#[]⟩, .int .i64 0] 38)) (.slice (some ⟨w'.heap.size, 0, none⟩) 1 1) [zeroE] := by
  refine .inr ⟨w'.heap.size, 0, 1, rfl, fun i hi => ?_, by simp⟩
  obtain rfl : i = 0 := by simpa using hi
  exact EAt.box w' zeroE 38
theorem EncD_zeroE (s : Value) (n : Int) (h : EncD [zeroE] s n) : n = 1 ∧ s = .string ⟨#[]⟩ := by
  unfold EncD at h
  rw [chk_zeroE] at h
  rcases h with h | h | h
  · exact absurd h.1 (by decide)
  · exact ⟨h.2.1, h.2.2⟩
  · exact absurd h.1 (by decide)
theorem DecE.same {bs : List UInt8} {s s' : Value} {n n' : Int} {es es' : List E} (h : DecE bs s n es) (h' : DecE bs s' n' es') : n' = n ∧ es' = es := by
  rcases h with ⟨h1, h2⟩ | ⟨h1, _, h3, h4⟩ <;> rcases h' with ⟨k1, k2⟩ | ⟨k1, _, k3, k4⟩
  · exact ⟨by rw [h1, k1], k2.uniq h2⟩
  · exact absurd h2 (k4 _)
  · exact absurd k2 (h4 _)
  · exact ⟨by rw [h1, k1], by rw [h3, k3]⟩
theorem DecE.len {bs : List UInt8} {s : Value} {n : Int} {es : List E} (h : DecE bs s n es) : es.length ≤ 1000000000000 := by
  rcases h with ⟨_, h2⟩ | ⟨_, _, h3, _⟩
  · have := rList_len h2.list; omega
  · rw [h3]; simp
theorem EncD.of {bs : List UInt8} {es : List E} (h : Decodes bs es) (s : Value) (n : Int) (hE : EncD es s n) : n = 0 ∧ s = .string (mk bs) := by
  rcases hE with h1 | h1 | h1
  · exact ⟨h1.2.2.1, by rw [h1.2.2.2, h.enc]⟩
  · exact absurd h.chk h1.1
  · exact absurd h.ord h1.2.1

theorem codes_good (v : Value) (l : List E) (bs : List UInt8) (w : World) (a : Addr) (hE : Env w a) (h : Sl w v l) (hn : l.length ≤ 1000000000000) (hr : ∀ e ∈ l, Rng e) (hc : chk l = 0) (hO : InOrd l) :
    Calls Tryd.prog 3 #[v, .string (mk bs)] w fun e w' => e = .returned (.bool true) ∧ Below w.heap.size w w' := by
  have HD : Hid (∀ bs w', Below w.heap.size w w' → Calls Tryd.prog 4 #[.string (mk bs)] w' fun e w'' => ∃ s n es, e = .returned (.tuple #[s, .int .i64 n]) ∧ DecE bs s n es ∧ Sl w'' s es ∧ Below w'.heap.size w' w'') :=
    fun bs w' hB => decode_env bs w' a (hE.kept hB)
  have HL : Hid (∀ w', Below w.heap.size w w' → Calls Tryd.prog 5 #[v] w' fun e w'' => e = .returned (.slice (some ⟨w'.heap.size, 0, none⟩) (l.length + 3) (l.length + 3)) ∧ ListAt w'' w'.heap.size 0 (l ++ [padE, padE, padE]) ∧ Below w'.heap.size w' w'') :=
    fun w' hB => lent_any v l w' (h.kept hB) hn
  have HE : Hid (∀ x l' w', Below w.heap.size w w' → Sl w' x l' → l'.length ≤ 1000000000000 → (∀ e ∈ l', Rng e) → Calls Tryd.prog 6 #[x] w' fun e w'' => ∃ s n, e = .returned (.tuple #[s, .int .i64 n]) ∧ EncD l' s n ∧ Below w'.heap.size w' w'') :=
    fun x l' w' hB hs hn' hr' => encode_any x l' w' hs hn' hr' a (hE.kept hB).g (hE.kept hB).q
  have HC : Hid (∀ w', Below w.heap.size w w' → Calls Tryd.prog 7 #[v] w' fun e w'' => e = .returned (.int .i64 0) ∧ Below w'.heap.size w' w'') := fun w' hB => (code_any v l w' (h.kept hB) hn).mono (by
    rintro e w'' ⟨⟨f, rfl, h1 | h1 | h1⟩, hB2⟩
    · exact ⟨by rw [h1.2.2], hB2⟩
    · exact absurd hc h1.1
    · exact absurd hO h1.2.1)
  have HK : Hid (∀ x w', Below w.heap.size w w' → Sl w' x (l ++ [padE, padE, padE]) → Calls Tryd.prog 8 #[x, v] w' fun e w'' => e = .returned (.bool true) ∧ Below w'.heap.size w' w'') :=
    fun x w' hB hx => kept_any x v l w' hx (h.kept hB) hn
  have HM : Hid (∀ w', Below w.heap.size w w' → Calls Tryd.prog 11 #[v] w' fun e w'' => e = .returned (.int .i64 (mostL l)) ∧ Below w'.heap.size w' w'') := fun w' hB => most_all v l w' (h.kept hB) hc
  have HS : Hid (∀ x l' w', Below w.heap.size w w' → Sl w' x l' → l'.length ≤ 1000000000003 → ∀ y, Sl w' y l' → Calls Tryd.prog 10 #[x, y] w' fun e w'' => e = .returned (.bool true) ∧ Below w'.heap.size w' w'') :=
    fun x l' w' _ hx hl' y hy => same_all x y l' w' hx hy hl'
  have HW : Hid (∀ w', Below w.heap.size w w' → Sl w' v l) := fun w' hB => h.kept hB
  have hmost : ((mk (enc l)).size : Int) ≤ mostL l := by
    rw [mk_size]
    exact enc_most l (fun e he => EOk.of ((chk_zero hc).1 e he) (hr e he))
  have HX : Hid (Decodes (enc l) l) := decodes_enc l hc hO hr
  have HG : Hid (∀ s n, EncD l s n → n = 0 ∧ s = .string (mk (enc l))) := by
    rintro s n (h1 | h1 | h1)
    · exact ⟨h1.2.2.1, h1.2.2.2⟩
    · exact absurd hc h1.1
    · exact absurd hO h1.2.1
  have HR : Hid (∀ e ∈ l, Rng e) := hr
  obtain ⟨av, cap, rfl⟩ := h.shape
  have HP : Hid (∀ g w', ListAt w' g 0 (l ++ [padE, padE, padE]) → Sl w' (.slice (some ⟨g, 0, none⟩) l.length (l.length + 3)) l) := by
    intro g w' hg
    by_cases h0 : l.length = 0
    · exact .inl ⟨some ⟨g, 0, none⟩, l.length + 3, by rw [h0], List.eq_nil_of_length_eq_zero h0⟩
    · refine .inr ⟨g, 0, l.length + 3, rfl, fun i hi => ?_, by omega⟩
      have := hg i (by rw [List.length_append]; omega)
      rwa [List.getElem_append_left hi] at this
  have HQ : Hid (∀ g w', ListAt w' g 0 (l ++ [padE, padE, padE]) → Sl w' (.slice (some ⟨g, 0, none⟩) (l.length + 3) (l.length + 3)) (l ++ [padE, padE, padE])) := fun g w' hg => .inr ⟨g, 0, l.length + 3, by simp, hg, by simp⟩
  have HZ : Hid (∀ w' : World, Sl (w'.alloc (.cells #[.int .i64 0, .int .i64 0, .int .i64 0, .string ⟨#[]⟩, .int .i64 0, .int .i64 0, .string ⟨#[]⟩, .int .i64 0, .int .i64 0, .string ⟨#[]⟩, .int .i64 0, .int .i64 0, .string ⟨#[]⟩, .int .i64 0] 38)) (.slice (some ⟨w'.heap.size, 0, none⟩) 1 1) [zeroE]) := zeroE_sl
  have HEz : Hid (∀ s n, EncD [zeroE] s n → n = 1 ∧ s = .string ⟨#[]⟩) := EncD_zeroE
  clear hE h hr hc hO
  generalize hY : enc l = Y at HX HG hmost
  clear hY
  generalize mostL l = M at HM hmost
  obtain ⟨n, hN⟩ : ∃ n, l.length = n := ⟨_, rfl⟩
  have HN : Hid (l.length ≤ 1000000000000) := hn
  rw [hN] at HL HP HQ HC HM HK HW hn ⊢
  clear hN
  have hni : (n : Int) ≤ 1000000000000 := by omega
  go_enter Tryd.func3, Tryd.ntmps3
  go_wp2_with fail
  refine (HD.out bs w (Below.refl _ _)).mono ?_
  rintro e w1 ⟨s1, n1, es1, rfl, hD1, hS1, hB1⟩
  have HD1 : Hid (DecE bs s1 n1 es1) := hD1
  have HS1 : Hid (∀ w', Below w1.heap.size w1 w' → Sl w' s1 es1) := fun w' hB => hS1.kept hB
  clear hD1 hS1
  go_wp2_with fail
  refine (HL.out w1 hB1).mono ?_
  rintro e w2 ⟨rfl, hL2, hB2⟩
  have HL2 : Hid (∀ w', Below w2.heap.size w2 w' → ListAt w' w1.heap.size 0 (l ++ [padE, padE, padE])) := fun w' hB =>
    hL2.kept (fun c j h => hB.cell (p := ⟨c, j, none⟩) h) (World.block_lt_of_cell? w2 _ (hL2 0 (by simp)).row.w0)
  clear hL2
  have hB02 : Below w.heap.size w w2 := hB1.trans (hB2.mono hB1.size)
  have hB12 : Below w1.heap.size w1 w2 := hB2
  clear hB2
  go_wp2_with fail
  refine (HE.out _ l w2 hB02 (HP.out _ w2 (HL2.out w2 (Below.refl _ _))) HN.out HR.out).mono ?_
  rintro e w3 ⟨s3, n3, rfl, hE3, hB3⟩
  obtain ⟨rfl, rfl⟩ := HG.out s3 n3 hE3
  clear hE3
  have hB03 : Below w.heap.size w w3 := hB02.trans (hB3.mono hB02.size)
  have hB13 : Below w1.heap.size w1 w3 := hB12.trans (hB3.mono hB12.size)
  have hB23 : Below w2.heap.size w2 w3 := hB3
  clear hB3 hB02 hB12
  go_wp2_with fail
  refine (HC.out w3 hB03).mono ?_
  rintro e w4 ⟨rfl, hB4⟩
  have hB04 : Below w.heap.size w w4 := hB03.trans (hB4.mono hB03.size)
  have hB14 : Below w1.heap.size w1 w4 := hB13.trans (hB4.mono hB13.size)
  have hB24 : Below w2.heap.size w2 w4 := hB23.trans (hB4.mono hB23.size)
  clear hB4 hB03 hB13 hB23
  go_wp2_with fail
  refine (HK.out _ w4 hB04 (HQ.out _ w4 (HL2.out w4 hB24))).mono ?_
  rintro e w5 ⟨rfl, hB5⟩
  have hB05 : Below w.heap.size w w5 := hB04.trans (hB5.mono hB04.size)
  have hB15 : Below w1.heap.size w1 w5 := hB14.trans (hB5.mono hB14.size)
  clear hB5 hB04 hB14 hB24
  go_wp2_with fail
  refine (num_any 0 w5).mono ?_
  rintro e w6 ⟨rfl, rfl⟩
  go_wp2_with fail
  refine (HD.out Y _ hB05).mono ?_
  rintro e w7 ⟨s7, n7, es7, rfl, hD7, hS7, hB7⟩
  obtain ⟨rfl, rfl⟩ : n7 = 0 ∧ es7 = l := by
    rcases hD7 with ⟨h1, h2⟩ | ⟨_, _, _, h2⟩
    · exact ⟨h1, h2.uniq HX.out⟩
    · exact absurd HX.out (h2 l)
  clear hD7
  have hB07 : Below w.heap.size w w7 := hB05.trans (hB7.mono hB05.size)
  have hB17 : Below w1.heap.size w1 w7 := hB15.trans (hB7.mono hB15.size)
  clear hB7 hB05 hB15
  go_wp2_with fail
  refine (HS.out _ _ w7 hB07 hS7 (by have := HN.out; omega) _ (HW.out w7 hB07)).mono ?_
  rintro e w8 ⟨rfl, hB8⟩
  clear hS7
  have hB08 : Below w.heap.size w w8 := hB07.trans (hB8.mono hB07.size)
  have hB18 : Below w1.heap.size w1 w8 := hB17.trans (hB8.mono hB17.size)
  clear hB8 hB07 hB17
  go_wp2_with fail
  refine (HM.out w8 hB08).mono ?_
  rintro e w9 ⟨rfl, hB9⟩
  have hB09 : Below w.heap.size w w9 := hB08.trans (hB9.mono hB08.size)
  have hB19 : Below w1.heap.size w1 w9 := hB18.trans (hB9.mono hB18.size)
  clear hB9 hB08 hB18
  go_wp2_with fail
  refine (HE.out _ [zeroE] _ (hB09.alloc hB09.size _) (HZ.out w9) (by simp) zeroE_rng).mono ?_
  rintro e w11 ⟨s11, n11, rfl, hE11, hB11⟩
  obtain ⟨rfl, rfl⟩ := HEz.out s11 n11 hE11
  clear hE11
  have hB011 : Below w.heap.size w w11 := (hB09.alloc hB09.size _).trans (hB11.mono (by have := hB09.size; rw [size_al]; omega))
  have hB111 : Below w1.heap.size w1 w11 := (hB19.alloc hB19.size _).trans (hB11.mono (by have := hB19.size; rw [size_al]; omega))
  clear hB11 hB09 hB19
  go_wp2_with fail
  refine (HD.out bs w11 hB011).mono ?_
  rintro e w12 ⟨s12, n12, es12, rfl, hD12, hS12, hB12⟩
  obtain ⟨rfl, rfl⟩ := HD1.out.same hD12
  have hB012 : Below w.heap.size w w12 := hB011.trans (hB12.mono hB011.size)
  have hB112 : Below w1.heap.size w1 w12 := hB111.trans (hB12.mono hB111.size)
  clear hB12 hB011 hB111
  have HS12 : Hid (∀ w', Below w12.heap.size w12 w' → Sl w' s12 es12) := fun w' hB => hS12.kept hB
  have HD12 : Hid (DecE bs s12 n12 es12) := hD12
  clear hD12 hS12
  go_wp2_with fail
  refine (HS.out s1 es12 w12 hB012 (HS1.out w12 hB112) (by have := HD12.out.len; omega) s12 (HS12.out w12 (Below.refl _ _))).mono ?_
  rintro e w13 ⟨rfl, hB13⟩
  have hB013 : Below w.heap.size w w13 := hB012.trans (hB13.mono hB012.size)
  rcases HD12.out with ⟨rfl, hdec⟩ | ⟨rfl, rfl, _, _⟩
  · have HX12 : Hid (Decodes bs es12) := hdec
    clear hdec
    go_wp2_with fail
    refine (HE.out s12 es12 w13 hB013 (HS12.out w13 hB13) HD12.out.len (rList_rng HX12.out.list)).mono ?_
    rintro e w14 ⟨s14, n14, rfl, hE14, hB14⟩
    obtain ⟨rfl, rfl⟩ := EncD.of HX12.out s14 n14 hE14
    clear hE14
    go_wp2
    go_ret
    exact ⟨rfl, hB013.trans (hB14.mono hB013.size)⟩
  · go_wp2
    go_ret
    exact ⟨rfl, hB013⟩
theorem codes_bad (v : Value) (l : List E) (bs : List UInt8) (w : World) (a : Addr) (hE : Env w a) (h : Sl w v l) (hn : l.length ≤ 1000000000000) (hr : ∀ e ∈ l, Rng e) (C : Int) (hC : C ≠ 0) (hcode : ∀ f, CodeIs l f → f = C) (hG : ∀ s n, EncD l s n → n = C ∧ s = .string ⟨#[]⟩) :
    Calls Tryd.prog 3 #[v, .string (mk bs)] w fun e w' => e = .returned (.bool true) ∧ Below w.heap.size w w' := by
  have HD : Hid (∀ bs w', Below w.heap.size w w' → Calls Tryd.prog 4 #[.string (mk bs)] w' fun e w'' => ∃ s n es, e = .returned (.tuple #[s, .int .i64 n]) ∧ DecE bs s n es ∧ Sl w'' s es ∧ Below w'.heap.size w' w'') :=
    fun bs w' hB => decode_env bs w' a (hE.kept hB)
  have HL : Hid (∀ w', Below w.heap.size w w' → Calls Tryd.prog 5 #[v] w' fun e w'' => e = .returned (.slice (some ⟨w'.heap.size, 0, none⟩) (l.length + 3) (l.length + 3)) ∧ ListAt w'' w'.heap.size 0 (l ++ [padE, padE, padE]) ∧ Below w'.heap.size w' w'') :=
    fun w' hB => lent_any v l w' (h.kept hB) hn
  have HE : Hid (∀ x l' w', Below w.heap.size w w' → Sl w' x l' → l'.length ≤ 1000000000000 → (∀ e ∈ l', Rng e) → Calls Tryd.prog 6 #[x] w' fun e w'' => ∃ s n, e = .returned (.tuple #[s, .int .i64 n]) ∧ EncD l' s n ∧ Below w'.heap.size w' w'') :=
    fun x l' w' hB hs hn' hr' => encode_any x l' w' hs hn' hr' a (hE.kept hB).g (hE.kept hB).q
  have HC : Hid (∀ w', Below w.heap.size w w' → Calls Tryd.prog 7 #[v] w' fun e w'' => e = .returned (.int .i64 C) ∧ Below w'.heap.size w' w'') := fun w' hB => (code_any v l w' (h.kept hB) hn).mono (by
    rintro e w'' ⟨⟨f, rfl, h1⟩, hB2⟩
    exact ⟨by rw [hcode f h1], hB2⟩)
  have HK : Hid (∀ x w', Below w.heap.size w w' → Sl w' x (l ++ [padE, padE, padE]) → Calls Tryd.prog 8 #[x, v] w' fun e w'' => e = .returned (.bool true) ∧ Below w'.heap.size w' w'') :=
    fun x w' hB hx => kept_any x v l w' hx (h.kept hB) hn
  have HS : Hid (∀ x l' w', Below w.heap.size w w' → Sl w' x l' → l'.length ≤ 1000000000003 → ∀ y, Sl w' y l' → Calls Tryd.prog 10 #[x, y] w' fun e w'' => e = .returned (.bool true) ∧ Below w'.heap.size w' w'') :=
    fun x l' w' _ hx hl' y hy => same_all x y l' w' hx hy hl'
  have HG : Hid (∀ s n, EncD l s n → n = C ∧ s = .string ⟨#[]⟩) := hG
  have hCb : (C == 0) = false := by simpa using hC
  have hCb2 : (C != 0) = true := by simpa using hC
  have HR : Hid (∀ e ∈ l, Rng e) := hr
  obtain ⟨av, cap, rfl⟩ := h.shape
  have HP : Hid (∀ g w', ListAt w' g 0 (l ++ [padE, padE, padE]) → Sl w' (.slice (some ⟨g, 0, none⟩) l.length (l.length + 3)) l) := by
    intro g w' hg
    by_cases h0 : l.length = 0
    · exact .inl ⟨some ⟨g, 0, none⟩, l.length + 3, by rw [h0], List.eq_nil_of_length_eq_zero h0⟩
    · refine .inr ⟨g, 0, l.length + 3, rfl, fun i hi => ?_, by omega⟩
      have := hg i (by rw [List.length_append]; omega)
      rwa [List.getElem_append_left hi] at this
  have HQ : Hid (∀ g w', ListAt w' g 0 (l ++ [padE, padE, padE]) → Sl w' (.slice (some ⟨g, 0, none⟩) (l.length + 3) (l.length + 3)) (l ++ [padE, padE, padE])) := fun g w' hg => .inr ⟨g, 0, l.length + 3, by simp, hg, by simp⟩
  have HZ : Hid (∀ w' : World, Sl (w'.alloc (.cells #[.int .i64 0, .int .i64 0, .int .i64 0, .string ⟨#[]⟩, .int .i64 0, .int .i64 0, .string ⟨#[]⟩, .int .i64 0, .int .i64 0, .string ⟨#[]⟩, .int .i64 0, .int .i64 0, .string ⟨#[]⟩, .int .i64 0] 38)) (.slice (some ⟨w'.heap.size, 0, none⟩) 1 1) [zeroE]) := zeroE_sl
  have HEz : Hid (∀ s n, EncD [zeroE] s n → n = 1 ∧ s = .string ⟨#[]⟩) := EncD_zeroE
  clear hE h hr hC hcode hG
  obtain ⟨n, hN⟩ : ∃ n, l.length = n := ⟨_, rfl⟩
  have HN : Hid (l.length ≤ 1000000000000) := hn
  rw [hN] at HL HP HQ HC HK hn ⊢
  clear hN
  have hni : (n : Int) ≤ 1000000000000 := by omega
  go_enter Tryd.func3, Tryd.ntmps3
  go_wp2_with fail
  refine (HD.out bs w (Below.refl _ _)).mono ?_
  rintro e w1 ⟨s1, n1, es1, rfl, hD1, hS1, hB1⟩
  have HD1 : Hid (DecE bs s1 n1 es1) := hD1
  have HS1 : Hid (∀ w', Below w1.heap.size w1 w' → Sl w' s1 es1) := fun w' hB => hS1.kept hB
  clear hD1 hS1
  go_wp2_with fail
  refine (HL.out w1 hB1).mono ?_
  rintro e w2 ⟨rfl, hL2, hB2⟩
  have HL2 : Hid (∀ w', Below w2.heap.size w2 w' → ListAt w' w1.heap.size 0 (l ++ [padE, padE, padE])) := fun w' hB =>
    hL2.kept (fun c j h => hB.cell (p := ⟨c, j, none⟩) h) (World.block_lt_of_cell? w2 _ (hL2 0 (by simp)).row.w0)
  clear hL2
  have hB02 : Below w.heap.size w w2 := hB1.trans (hB2.mono hB1.size)
  have hB12 : Below w1.heap.size w1 w2 := hB2
  clear hB2
  go_wp2_with fail
  refine (HE.out _ l w2 hB02 (HP.out _ w2 (HL2.out w2 (Below.refl _ _))) HN.out HR.out).mono ?_
  rintro e w3 ⟨s3, n3, rfl, hE3, hB3⟩
  obtain ⟨h3, rfl⟩ := HG.out s3 n3 hE3
  obtain rfl := h3.symm
  clear hE3
  have hB03 : Below w.heap.size w w3 := hB02.trans (hB3.mono hB02.size)
  have hB13 : Below w1.heap.size w1 w3 := hB12.trans (hB3.mono hB12.size)
  have hB23 : Below w2.heap.size w2 w3 := hB3
  clear hB3 hB02 hB12
  go_wp2_with fail
  refine (HC.out w3 hB03).mono ?_
  rintro e w4 ⟨rfl, hB4⟩
  have hB04 : Below w.heap.size w w4 := hB03.trans (hB4.mono hB03.size)
  have hB14 : Below w1.heap.size w1 w4 := hB13.trans (hB4.mono hB13.size)
  have hB24 : Below w2.heap.size w2 w4 := hB23.trans (hB4.mono hB23.size)
  clear hB4 hB03 hB13 hB23
  go_wp2_with fail
  refine (HK.out _ w4 hB04 (HQ.out _ w4 (HL2.out w4 hB24))).mono ?_
  rintro e w5 ⟨rfl, hB5⟩
  have hB05 : Below w.heap.size w w5 := hB04.trans (hB5.mono hB04.size)
  have hB15 : Below w1.heap.size w1 w5 := hB14.trans (hB5.mono hB14.size)
  clear hB5 hB04 hB14 hB24
  go_wp2_with fail
  refine (num_any C w5).mono ?_
  rintro e w6 ⟨rfl, rfl⟩
  go_wp2_with fail
  refine (HE.out _ [zeroE] _ (hB05.alloc hB05.size _) (HZ.out _) (by simp) zeroE_rng).mono ?_
  rintro e w11 ⟨s11, n11, rfl, hE11, hB11⟩
  obtain ⟨rfl, rfl⟩ := HEz.out s11 n11 hE11
  clear hE11
  have hB011 : Below w.heap.size w w11 := (hB05.alloc hB05.size _).trans (hB11.mono (by have := hB05.size; rw [size_al]; omega))
  have hB111 : Below w1.heap.size w1 w11 := (hB15.alloc hB15.size _).trans (hB11.mono (by have := hB15.size; rw [size_al]; omega))
  clear hB11 hB05 hB15
  go_wp2_with fail
  refine (HD.out bs w11 hB011).mono ?_
  rintro e w12 ⟨s12, n12, es12, rfl, hD12, hS12, hB12⟩
  obtain ⟨rfl, rfl⟩ := HD1.out.same hD12
  have hB012 : Below w.heap.size w w12 := hB011.trans (hB12.mono hB011.size)
  have hB112 : Below w1.heap.size w1 w12 := hB111.trans (hB12.mono hB111.size)
  clear hB12 hB011 hB111
  have HS12 : Hid (∀ w', Below w12.heap.size w12 w' → Sl w' s12 es12) := fun w' hB => hS12.kept hB
  have HD12 : Hid (DecE bs s12 n12 es12) := hD12
  clear hD12 hS12
  go_wp2_with fail
  refine (HS.out s1 es12 w12 hB012 (HS1.out w12 hB112) (by have := HD12.out.len; omega) s12 (HS12.out w12 (Below.refl _ _))).mono ?_
  rintro e w13 ⟨rfl, hB13⟩
  have hB013 : Below w.heap.size w w13 := hB012.trans (hB13.mono hB012.size)
  rcases HD12.out with ⟨rfl, hdec⟩ | ⟨rfl, rfl, _, _⟩
  · have HX12 : Hid (Decodes bs es12) := hdec
    clear hdec
    go_wp2_with fail
    refine (HE.out s12 es12 w13 hB013 (HS12.out w13 hB13) HD12.out.len (rList_rng HX12.out.list)).mono ?_
    rintro e w14 ⟨s14, n14, rfl, hE14, hB14⟩
    obtain ⟨rfl, rfl⟩ := EncD.of HX12.out s14 n14 hE14
    clear hE14
    go_wp2
    go_ret
    exact ⟨rfl, hB013.trans (hB14.mono hB013.size)⟩
  · go_wp2
    go_ret
    exact ⟨rfl, hB013⟩

/-- The law: true, whatever it is given. -/
theorem codes_any (v : Value) (l : List E) (bs : List UInt8) (w : World) (a : Addr) (hE : Env w a) (h : Sl w v l) (hn : l.length ≤ 1000000000000) (hr : ∀ e ∈ l, Rng e) :
    Calls Tryd.prog 3 #[v, .string (mk bs)] w fun e w' => e = .returned (.bool true) ∧ Below w.heap.size w w' := by
  by_cases hc : chk l = 0
  · by_cases hO : InOrd l
    · exact codes_good v l bs w a hE h hn hr hc hO
    · refine codes_bad v l bs w a hE h hn hr 4 (by decide) ?_ ?_
      · rintro f (h1 | h1 | h1)
        · exact absurd h1.2.1 hO
        · exact absurd hc h1.1
        · exact h1.2.2
      · rintro s n (h1 | h1 | h1)
        · exact absurd h1.2.1 hO
        · exact absurd hc h1.1
        · exact h1.2.2
  · refine codes_bad v l bs w a hE h hn hr (chk l) hc ?_ ?_
    · rintro f (h1 | h1 | h1)
      · exact absurd h1.1 hc
      · exact h1.2
      · exact absurd h1.1 hc
    · rintro s n (h1 | h1 | h1)
      · exact absurd h1.1 hc
      · exact h1.2
      · exact absurd h1.1 hc
end Go.Proofs.YtcbjoogkodcgkaaDoor

/-
  Walks: code.readWhole, code.Read.
-/
import Derived.Test.YtcbjoogkodcgkaaDoorRl
import Derived.Test.YtcbjoogkodcgkaaDoorWr
namespace Go.Proofs.YtcbjoogkodcgkaaDoor
open Go.RowKit
set_option maxHeartbeats 1000000
set_option maxRecDepth 100000

theorem rNum_lt : ∀ (f k u : Nat) (l : List UInt8) (v : Nat) (l' : List UInt8), k + f = 10 → u < 2 ^ (7 * k) → rNum f k u l = some (v, l') → v < 18446744073709551616
  | 0, _, _, _, _, _, _, _, h => by simp [rNum] at h
  | _ + 1, _, _, [], _, _, _, _, h => by simp [rNum] at h
  | f + 1, k, u, c :: l, v, l', hf, hu, h => by
    have ha := addB_lt k u c (by omega) hu
    simp only [rNum] at h
    split at h
    · cases h; exact ha.2
    · exact rNum_lt f (k + 1) _ l v l' (by omega) ha.1 h
theorem unzz_rng (u : Nat) (h : u < 18446744073709551616) : -9223372036854775808 ≤ unzz u ∧ unzz u ≤ 9223372036854775807 := by
  unfold unzz; split <;> omega
/-- The number of a value is one of 64 bits. -/
def VRng (v : V) : Prop := -9223372036854775808 ≤ v.i ∧ v.i ≤ 9223372036854775807
theorem zeroV_rng : VRng zeroV := by unfold VRng zeroV; exact ⟨by decide, by decide⟩
theorem rVal_rng {l : List UInt8} {v : V} {l' : List UInt8} (h : rVal l = some (v, l')) : VRng v := by
  cases l with
  | nil => simp [rVal] at h
  | cons c l =>
    simp only [rVal] at h
    split at h
    · cases h; exact zeroV_rng
    split at h
    · cases h; unfold VRng; simp only; omega
    split at h
    · cases hn : rNum 10 0 0 l with
      | none => rw [hn] at h; cases h
      | some p =>
        rw [hn] at h
        cases h
        exact unzz_rng _ (rNum_lt 10 0 0 l p.1 p.2 (by omega) (by decide) hn)
    split at h
    · split at h
      · cases h; unfold VRng; simp only; omega
      · cases h
    · cases h
/-- All four numbers of a row. -/
def RRng (r : R) : Prop := VRng r.a ∧ VRng r.b ∧ VRng r.c ∧ VRng r.d
theorem RRng.put {r : R} (h : RRng r) {v : V} (hv : VRng v) (i : Nat) : RRng (r.put i v) := by
  obtain ⟨h0, h1, h2, h3⟩ := h
  unfold R.put
  split <;> simp [RRng, *]
theorem RRng.at {r : R} (h : RRng r) (i : Nat) : VRng (r.at i) := by
  obtain ⟨h0, h1, h2, h3⟩ := h
  unfold R.at
  split <;> assumption
theorem rCells_rng (s : Int) (same : Bool) : ∀ (n i : Nat) (r : R) (l : List UInt8) (r' : R) (l' : List UInt8), RRng r → rCells s same n i r l = some (r', l') → RRng r'
  | 0, _, _, _, _, _, hr, h => by simp only [rCells] at h; cases h; exact hr
  | n + 1, i, r, l, r', l', hr, h => by
    simp only [rCells] at h
    split at h
    · cases hv : rVal l with
      | none => rw [hv] at h; cases h
      | some p =>
        rw [hv] at h
        exact rCells_rng s same n (i + 1) _ _ r' l' (hr.put (rVal_rng hv) i) h
    · exact rCells_rng s same n (i + 1) r l r' l' hr h
theorem rBody_rng {r : R} {s : Int} {l : List UInt8} {e : E} {l' : List UInt8} (hr : RRng r) (h : rBody r s l = some (e, l')) : Rng e := by
  unfold rBody at h
  cases hc : rCells s false (s / 16).toNat 0 r l with
  | none => rw [hc] at h; cases h
  | some p =>
    obtain ⟨r1, l1⟩ := p
    rw [hc] at h
    simp only at h
    cases hn : rNum 10 0 0 l1 with
    | none => rw [hn] at h; cases h
    | some q =>
      rw [hn] at h
      cases h
      have h1 := rCells_rng s false _ 0 r l r1 l1 hr hc
      have h2 := unzz_rng _ (rNum_lt 10 0 0 l1 q.1 q.2 (by omega) (by decide) hn)
      exact ⟨fun i _ => (h1.at i).1, fun i _ => (h1.at i).2, h2.1, h2.2⟩
theorem rEntry_rng {sh : R} {s : Int} {l : List UInt8} {e : E} {l' : List UInt8} (hr : RRng sh) (h : rEntry sh s l = some (e, l')) : Rng e := by
  unfold rEntry at h
  split at h
  · cases l with
    | nil => cases h
    | cons c l1 =>
      simp only at h
      split at h
      · cases h
      · exact rBody_rng (r := { sh with w := c.toNat }) hr h
  · exact rBody_rng hr h
theorem rEnts_rng (sh : R) (s : Int) (hr : RRng sh) : ∀ (n : Nat) (l : List UInt8) (es : List E), rEnts sh s n l = some es → ∀ e ∈ es, Rng e
  | 0, _, _, h => by simp only [rEnts] at h; cases h; simp
  | n + 1, l, es, h => by
    simp only [rEnts] at h
    cases he : rEntry sh s l with
    | none => rw [he] at h; cases h
    | some p =>
      obtain ⟨e, l'⟩ := p
      rw [he] at h
      simp only at h
      cases hm : rEnts sh s n l' with
      | none => rw [hm] at h; cases h
      | some es' =>
        rw [hm] at h
        cases h
        intro x hx
        rcases List.mem_cons.1 hx with rfl | hx
        · exact rEntry_rng hr he
        · exact rEnts_rng sh s hr n l' es' hm x hx
theorem zeroR_rng (w : Int) : RRng (zeroR w) := ⟨zeroV_rng, zeroV_rng, zeroV_rng, zeroV_rng⟩
theorem rList_rng {l : List UInt8} {es : List E} (h : rList l = some es) : ∀ e ∈ es, Rng e := by
  cases l with
  | nil => simp [rList] at h
  | cons c l =>
    simp only [rList] at h
    split at h
    · cases h; simp
    cases l with
    | nil => cases h
    | cons s l1 =>
      simp only at h
      split at h
      · cases h
      cases hc : rCells s.toNat true (s.toNat / 16) 0 (zeroR (s.toNat / 16 : Nat)) l1 with
      | none => rw [hc] at h; cases h
      | some p =>
        rw [hc] at h
        exact rEnts_rng p.1 _ (rCells_rng _ _ _ _ _ _ _ _ (zeroR_rng _) hc) _ _ _ h

/-- Bytes that a list is written as. -/
structure Decodes (bs : List UInt8) (es : List E) : Prop where
  len : bs.length ≤ 11544
  list : rList bs = some es
  chk : chk es = 0
  ord : InOrd es
  enc : enc es = bs

theorem EBuf.sl {w : World} {base : Nat} {v : Value} {es : List E} (h : EBuf w base v es) : Sl w v es := by
  rcases h.2 with ⟨rfl, h0⟩ | ⟨g, cap, cur, rfl, hb, hg, hn, hc, hs, ht⟩
  · left
    exact ⟨none, 0, rfl, List.eq_nil_of_length_eq_zero h0⟩
  · by_cases h0 : es.length = 0
    · left
      rw [h0]
      exact ⟨_, cap, rfl, List.eq_nil_of_length_eq_zero h0⟩
    · right
      refine ⟨g, 0, cap, rfl, ?_, by omega⟩
      have hcell := World.ownsRow.cells h (g := g) rfl
      have hfl : ∀ (l : List E) (i : Nat) (hi : i < l.length) (j : Nat), j < 14 → (l.flatMap E.cells)[i * 14 + j]? = (l[i].cells)[j]? := by
        intro l
        induction l with
        | nil => intro i hi; simp at hi
        | cons x t ih =>
          intro i hi j hj
          have hxl : x.cells.length = 14 := rfl
          rw [List.flatMap_cons]
          cases i with
          | zero => rw [Nat.zero_mul, Nat.zero_add, List.getElem?_append_left (by omega)]; rfl
          | succ i =>
            rw [List.getElem?_append_right (by omega), hxl, show (i + 1) * 14 + j - 14 = i * 14 + j from by omega]
            exact ih i (by simpa using hi) j hj
      intro i hi
      have hget : ∀ j u, j < 14 → (es[i].cells)[j]? = some u → w.cell? ⟨g, 0 + i * 14 + j, none⟩ = some u := by
        intro j u hj hu
        have := hcell (i * 14 + j) u (by rw [hfl es i hi j hj]; exact hu)
        have ha : (⟨g, 0, none⟩ : Addr).add (i * 14 + j) = ⟨g, 0 + i * 14 + j, none⟩ := by unfold Addr.add; split <;> simp_all
        rwa [ha] at this
      refine ⟨⟨hget 0 _ (by decide) rfl, ?_, ?_, ?_⟩, hget 13 _ (by decide) rfl⟩
      · intro q hq; rcases lt4 hq with rfl | rfl | rfl | rfl
        · exact hget 1 _ (by decide) rfl
        · exact hget 4 _ (by decide) rfl
        · exact hget 7 _ (by decide) rfl
        · exact hget 10 _ (by decide) rfl
      · intro q hq; rcases lt4 hq with rfl | rfl | rfl | rfl
        · exact hget 2 _ (by decide) rfl
        · exact hget 5 _ (by decide) rfl
        · exact hget 8 _ (by decide) rfl
        · exact hget 11 _ (by decide) rfl
      · intro q hq; rcases lt4 hq with rfl | rfl | rfl | rfl
        · exact hget 3 _ (by decide) rfl
        · exact hget 6 _ (by decide) rfl
        · exact hget 9 _ (by decide) rfl
        · exact hget 12 _ (by decide) rfl

/-- What Write answers, in all. -/
def GotW (l : List E) (w' : World) (e : Ending) : Prop :=
  (chk l = 0 ∧ InOrd l ∧ e = .returned (.tuple #[.string (mk (enc l)), .nilIface])) ∨
  (chk l ≠ 0 ∧ ∃ d x, d ≤ 2 ∧ e = .returned (.tuple #[.string ⟨#[]⟩, x]) ∧ ErrNo w' d x (chk l)) ∨
  (chk l = 0 ∧ ¬ InOrd l ∧ ∃ d x, d ≤ 2 ∧ e = .returned (.tuple #[.string ⟨#[]⟩, x]) ∧ ErrNo w' d x 4)
theorem InOrd_nil : InOrd [] := by intro i e h; simp at h
theorem write_any (v : Value) (l : List E) (w : World) (h : Sl w v l) (hn : l.length ≤ 1000000000000) (hr : ∀ e ∈ l, Rng e) :
    Calls Tryd.prog 14 #[v] w fun e w' => GotW l w' e ∧ Below w.heap.size w w' := by
  by_cases hc : chk l = 0
  · rcases h with ⟨a, cap, rfl, rfl⟩ | ⟨b, o, cap, rfl, hl, h0⟩
    · refine (write_nil a cap w).mono ?_
      rintro e w' ⟨rfl, hB⟩
      exact ⟨.inl ⟨hc, InOrd_nil, rfl⟩, hB⟩
    · by_cases hO : InOrd l
      · refine (write_good l b o cap w hl h0 hc hO hr).mono ?_
        rintro e w' ⟨rfl, hB⟩
        exact ⟨.inl ⟨hc, hO, rfl⟩, hB⟩
      · refine (write_order l b o cap w hl h0 hc hO).mono ?_
        rintro e w' ⟨hE, hB⟩
        exact ⟨.inr (.inr ⟨hc, hO, hE⟩), hB⟩
  · refine (write_bad v l w h hn hc).mono ?_
    rintro e w' ⟨hE, hB⟩
    exact ⟨.inr (.inl ⟨hc, hE⟩), hB⟩

theorem rEnts_len (sh : R) (s : Int) : ∀ (n : Nat) (l : List UInt8) (es : List E), rEnts sh s n l = some es → es.length = n
  | 0, _, _, h => by simp only [rEnts] at h; cases h; rfl
  | n + 1, l, es, h => by
    simp only [rEnts] at h
    cases he : rEntry sh s l with
    | none => rw [he] at h; cases h
    | some p =>
      rw [he] at h
      simp only at h
      cases hm : rEnts sh s n p.2 with
      | none => rw [hm] at h; cases h
      | some es' =>
        rw [hm] at h
        cases h
        simp [rEnts_len sh s n p.2 es' hm]
theorem rList_len {l : List UInt8} {es : List E} (h : rList l = some es) : es.length < 256 := by
  cases l with
  | nil => simp [rList] at h
  | cons c l =>
    have hcl := c.toNat_lt
    simp only [rList] at h
    split at h
    · cases h; simp
    cases l with
    | nil => cases h
    | cons s l1 =>
      simp only at h
      split at h
      · cases h
      cases hc : rCells s.toNat true (s.toNat / 16) 0 (zeroR (s.toNat / 16 : Nat)) l1 with
      | none => rw [hc] at h; cases h
      | some p =>
        rw [hc] at h
        have := rEnts_len p.1 _ _ _ _ h
        omega

theorem list_any (rb : Nat) (l : List UInt8) (w : World) (h : Rd w rb l) (hS : Sents w) (hrb : 8 ≤ rb) :
    Calls Tryd.prog 26 #[.pointer (some ⟨rb, 0, none⟩)] w fun e w' => GotL (rList l) w.heap.size e w' ∧ w.grownBy w' (some rb) := by
  cases l with
  | nil => exact list_nil rb w h hS
  | cons c l => exact list_cons rb c l w h hS hrb

structure AllS (w : World) : Prop where
  s : Sents w
  l : Sent w 1
  g : Sent w 2
  z : 8 ≤ w.heap.size

theorem chk_ne6 (l : List E) : chk l ≠ 6 := by
  unfold chk
  split
  · split <;> decide
  · decide

/-- What readWhole and Read answer. -/
def GotD (bs : List UInt8) (base : Nat) (e : Ending) (w' : World) : Prop :=
  (∃ es v, Decodes bs es ∧ e = .returned (.tuple #[v, .nilIface]) ∧ EBuf w' base v es) ∨
  ((∀ es, ¬ Decodes bs es) ∧ ∃ t x, e = .returned (.tuple #[.slice none 0 0, .iface t x]) ∧ Bd w' 0 2 (.iface t x))

theorem readWhole_any (bs : List UInt8) (w : World) (hA : AllS w) :
    Calls Tryd.prog 17 #[.string (mk bs)] w fun e w' => GotD bs w.heap.size e w' ∧ Below w.heap.size w w' := by
  have hz := hA.z
  by_cases hlen : bs.length ≤ 11544
  · have hli : ((mk bs).size : Int) ≤ 11544 := by rw [mk_size]; omega
    have hS1 : ∀ o, Sents (w.alloc o) := fun o => hA.s.kept (rb := w.heap.size) (World.grownBy_alloc w o _) hz
    go_enter Tryd.func17, Tryd.ntmps17
    go_wp2_with fail
    refine (list_any w.heap.size bs _ ((heap_alloc_new w _).trans rfl) (hS1 _) hz).mono ?_
    rintro e w1 ⟨hgot, hg1⟩
    have hB1 : Below w.heap.size w w1 := ⟨hg1.os, hg1.tape, hg1.output, by have := hg1.size; simp at this; omega, fun k hk => (hg1.block k (by simp; omega) (by simp; omega)).trans (Below.heap_alloc w _ k hk)⟩
    cases hr : rList bs with
    | none =>
      rw [hr] at hgot
      obtain ⟨t, x, rfl, hbd⟩ := hgot
      have HBd : Hid (Bd w1 0 2 (.iface t x)) := hbd
      clear hbd
      have HN : Hid (∀ es, ¬ Decodes bs es) := fun es hd => by rw [hd.list] at hr; cases hr
      go_wp2
      go_ret2
      exact ⟨.inr ⟨HN.out, t, x, rfl, HBd.out⟩, hB1⟩
    | some es =>
      rw [hr] at hgot
      obtain ⟨v, rfl, hE⟩ := hgot
      have hrn := rList_rng hr
      have hln := rList_len hr
      have HR : Hid (rList bs = some es) := hr
      clear hr
      have HW : Hid (Calls Tryd.prog 14 #[v] w1 fun e w' => GotW es w' e ∧ Below w1.heap.size w1 w') := write_any v es w1 hE.sl (by omega) hrn
      clear hrn
      go_wp2_with fail
      refine HW.out.mono ?_
      rintro e w2 ⟨hgw, hB2⟩
      have hB12 : Below w.heap.size w w2 := hB1.trans (hB2.mono hB1.size)
      rcases hgw with ⟨hc, hO, rfl⟩ | ⟨hc, d, x, hd2, rfl, hErr⟩ | ⟨hc, hO, d, x, hd2, rfl, hErr⟩
      · by_cases heq : enc es = bs
        · have HD : Hid (Decodes bs es) := ⟨hlen, HR.out, hc, hO, heq⟩
          have hE2 : EBuf w2 w.heap.size v es := World.ownsRow.kept (EBuf.mono (base := w.heap.size) hE (by simp)) (grownBy_of_below hB2 none) (by cases v.ownBlock <;> simp)
          have hq : ((mk (enc es)).toList != (mk bs).toList) = false := by rw [heq]; simp
          have hq2 : (!((mk (enc es)).toList == (mk bs).toList)) = false := by rw [heq]; simp
          rw [heq]
          go_wp2
          go_ret2
          exact ⟨.inl ⟨es, v, HD.out, rfl, hE2⟩, hB12⟩
        · have HD : Hid (∀ es', ¬ Decodes bs es') := fun es' hd => by
            have := hd.list
            rw [HR.out] at this
            cases this
            exact heq hd.enc
          have hne : ((mk (enc es)).toList == (mk bs).toList) = false := by
            rw [ByteArray.toList_eq, ByteArray.toList_eq]
            simpa [mk] using heq
          obtain ⟨t, x, hcg, hl⟩ := hA.g
          have HLf : Hid (Lf (.iface t x)) := hl
          clear hl
          have hcg2 : w2.cell? ⟨2, 0, none⟩ = some (.iface t x) := (hB12.cell (p := ⟨2, 0, none⟩) (by show 2 < w.heap.size; omega)).trans hcg
          go_wp2
          go_quiet (fail)
          go_wp2
          go_ret2
          exact ⟨.inr ⟨HD.out, t, x, rfl, HLf.out.bd _ _ _⟩, below_drewN hB12 _⟩
      · have HD : Hid (∀ es', ¬ Decodes bs es') := fun es' hd => by
          have := hd.list
          rw [HR.out] at this
          cases this
          exact hc hd.chk
        obtain ⟨t, y, rfl⟩ := hErr.some
        have HBd : Hid (Bd w2 0 2 (.iface t y)) := ⟨d, hd2, ErrNo.bad (chk_ne6 es) hErr⟩
        clear hErr
        go_wp2
        go_ret2
        exact ⟨.inr ⟨HD.out, t, y, rfl, HBd.out⟩, hB12⟩
      · have HD : Hid (∀ es', ¬ Decodes bs es') := fun es' hd => by
          have := hd.list
          rw [HR.out] at this
          cases this
          exact hO hd.ord
        obtain ⟨t, y, rfl⟩ := hErr.some
        have HBd : Hid (Bd w2 0 2 (.iface t y)) := ⟨d, hd2, ErrNo.bad (by decide) hErr⟩
        clear hErr
        go_wp2
        go_ret2
        exact ⟨.inr ⟨HD.out, t, y, rfl, HBd.out⟩, hB12⟩
  · have hli : (11544 : Int) < (mk bs).size := by rw [mk_size]; omega
    have HD : Hid (∀ es', ¬ Decodes bs es') := fun es' hd => hlen hd.len
    obtain ⟨t, x, hcg, hl⟩ := hA.l
    have HLf : Hid (Lf (.iface t x)) := hl
    clear hl
    go_enter Tryd.func17, Tryd.ntmps17
    go_wp2
    go_quiet (fail)
    go_wp2
    go_ret2
    exact ⟨.inr ⟨HD.out, t, x, rfl, HLf.out.bd _ _ _⟩, below_drewN (Below.refl _ _) _⟩

theorem under_nil (h : Value) (w : World) :
    Calls Tryd.prog 18 #[h, .nilIface] w fun e w' => e = .returned .nilIface ∧ w' = w := by
  go_enter Tryd.func18, Tryd.ntmps18
  go_wp2
  go_ret
  exact ⟨rfl, rfl⟩
theorem under_any (t0 : Nat) (h : Value) (t : Nat) (x : Value) (w : World) :
    Calls Tryd.prog 18 #[.iface t0 h, .iface t x] w fun e w' => e = .returned (.iface 64 (.pointer (some ⟨w.heap.size, 0, none⟩))) ∧ w' = w.alloc (.cells #[.iface t0 h, .iface t x] 66) := by
  go_enter Tryd.func18, Tryd.ntmps18
  go_wp2
  go_ret
  exact ⟨rfl, rfl⟩

theorem read_any (bs : List UInt8) (w : World) (hA : AllS w) (a : Addr) (hg : w.cell? ⟨0, 0, none⟩ = some (.iface 137 (.pointer (some a)))) :
    Calls Tryd.prog 12 #[.string (mk bs)] w fun e w' => ((∃ es v, Decodes bs es ∧ e = .returned (.tuple #[v, .nilIface]) ∧ EBuf w' w.heap.size v es) ∨
      ((∀ es, ¬ Decodes bs es) ∧ ∃ b x, e = .returned (.tuple #[.slice none 0 0, .iface 64 (.pointer (some ⟨b, 0, none⟩))]) ∧ w'.cell? ⟨b, 0, none⟩ = some (.iface 137 (.pointer (some a))) ∧ w'.cell? ⟨b, 1, none⟩ = some x ∧ Bd w' 0 2 x)) ∧ Below w.heap.size w w' := by
  go_enter Tryd.func12, Tryd.ntmps12
  go_wp2_with fail
  refine (readWhole_any bs _ hA).mono ?_
  rintro e w1 ⟨hgot, hB⟩
  have hg1 : w1.cell? ⟨0, 0, none⟩ = some (.iface 137 (.pointer (some a))) := (hB.cell (World.block_lt_of_cell? w _ hg)).trans hg
  rcases hgot with ⟨es, v, hD, rfl, hE⟩ | ⟨hD, t, x, rfl, hbd⟩
  · have HD : Hid (Decodes bs es) := hD
    clear hD
    go_wp2_with fail
    refine (under_nil _ _).mono ?_
    rintro e w2 ⟨rfl, rfl⟩
    go_wp2
    go_ret2
    exact ⟨.inl ⟨es, v, HD.out, rfl, hE⟩, hB⟩
  · have HD : Hid (∀ es, ¬ Decodes bs es) := hD
    have HBd : Hid (Bd w1 0 2 (.iface t x)) := hbd
    clear hD hbd
    go_wp2_with fail
    refine (under_any _ _ _ _ _).mono ?_
    rintro e w2 ⟨rfl, rfl⟩
    go_wp2
    go_ret2
    exact ⟨.inr ⟨HD.out, w1.heap.size, _, rfl, by simp [go_sem], by simp [go_sem], HBd.out.al _⟩, hB.alloc hB.size _⟩
end Go.Proofs.YtcbjoogkodcgkaaDoor

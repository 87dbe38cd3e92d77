/-
  Walks: strings.Clone, reader.take, reader.value.
-/
import Derived.Test.YtcbjoogkodcgkaaDoorRd
import Derived.Shelf.Pu.Clone
namespace Go.Proofs.YtcbjoogkodcgkaaDoor
open Go.RowKit Go.Shelf
set_option maxHeartbeats 1000000
set_option maxRecDepth 100000

def renClone : Ren := ⟨fun x => if x = 25 then 65 else 0, fun x => if x = 3 then 3 else if x = 4 then 4 else if x = 5 then 5 else if x = 9 then 9 else if x = 37 then 56 else if x = 47 then 136 else 0, fun _ => 0⟩
theorem laysClone : LaysPu.n25 Tryd.prog renClone := by
  constructor <;> first | kernel_rfl | (intro w; kernel_rfl)

theorem cloneLite_any (s : ByteArray) (w : World) (h : s.size ≤ 281474976710656) :
    Calls Tryd.prog 65 #[.string s] w fun e w' => e = .returned (.string s) ∧ Below w.heap.size w w' :=
  AnyPu.stringslite_Clone laysClone s w h
theorem clone_any (s : ByteArray) (w : World) (h : s.size ≤ 281474976710656) :
    Calls Tryd.prog 63 #[.string s] w fun e w' => e = .returned (.string s) ∧ Below w.heap.size w w' := by
  go_enter Tryd.func63, Tryd.ntmps63
  go_wp2_with fail
  refine (cloneLite_any s _ h).mono ?_
  rintro e w1 ⟨rfl, hB⟩
  go_wp2
  go_ret
  exact ⟨rfl, hB⟩

theorem Rd.below {w w1 : World} {rb : Nat} {l : List UInt8} (h : Rd w rb l) (hB : Below w.heap.size w w1) : Rd w1 rb l := (hB.block rb h.lt).trans h

theorem take_no (rb n : Nat) (l : List UInt8) (w : World) (h : Rd w rb l) (he : Sent w 4) (hn : l.length < n) :
    Calls Tryd.prog 60 #[.pointer (some ⟨rb, 0, none⟩), .int .i64 n] w fun e w' => (∃ t x, e = .returned (.tuple #[.string ⟨#[]⟩, .iface t x]) ∧ Lf (.iface t x)) ∧ w.grownBy w' (some rb) := by
  obtain ⟨t, x, hc, hl⟩ := he
  have HLf : Hid (Lf (.iface t x)) := hl
  clear hl
  have c0 := h.cell
  have hs : ((mk l).size : Int) < n := by rw [mk_size]; omega
  go_enter Tryd.func60, Tryd.ntmps60
  go_wp2
  go_quiet (fail)
  go_wp2
  go_ret2
  exact ⟨⟨t, x, rfl, HLf.out⟩, grownBy_drewN (grownBy_refl _ _) _⟩

theorem take_yes (rb n : Nat) (l : List UInt8) (w : World) (h : Rd w rb l) (hn : n ≤ l.length) (hn2 : n ≤ 16) :
    Calls Tryd.prog 60 #[.pointer (some ⟨rb, 0, none⟩), .int .i64 n] w fun e w' => e = .returned (.tuple #[.string (mk (l.take n)), .nilIface]) ∧ Rd w' rb (l.drop n) ∧ w.grownBy w' (some rb) := by
  have c0 := h.cell
  have f0 := h.free
  have hs : (n : Int) ≤ (mk l).size := by rw [mk_size]; omega
  have hs2 : n ≤ (mk l).size := by rw [mk_size]; omega
  have hh := mk_head l n
  have ht := mk_tail l n
  have hsz : (mk (l.take n)).size ≤ 281474976710656 := by rw [mk_size, List.length_take]; omega
  have HSZ : Hid ((mk (l.take n)).size ≤ 281474976710656) := hsz
  clear hsz
  go_enter Tryd.func60, Tryd.ntmps60
  go_wp2_with fail
  refine (clone_any (mk (l.take n)) _ HSZ.out).mono ?_
  rintro e w1 ⟨rfl, hB⟩
  have hR1 : Rd w1 rb l := h.below hB
  have c1 := hR1.cell
  have f1 := hR1.free
  go_wp2
  go_ret2
  exact ⟨rfl, one_setCell hR1, grownBy_step (grownBy_of_below hB _) (grownBy_setCell _ _ _ _) (.inl rfl)⟩

/-- Reading a value. -/
def rVal : List UInt8 → Option (V × List UInt8)
  | [] => none
  | c :: l =>
    if c.toNat = 0 then some (zeroV, l)
    else if c.toNat ≤ 2 then some (⟨1, c.toNat - 1, ByteArray.empty⟩, l)
    else if c.toNat = 3 then (rNum 10 0 0 l).map (fun p => (⟨2, unzz p.1, ByteArray.empty⟩, p.2))
    else if c.toNat ≤ 20 then (if c.toNat - 4 ≤ l.length then some (⟨3, 0, mk (l.take (c.toNat - 4))⟩, l.drop (c.toNat - 4)) else none)
    else none

structure Sents (w : World) : Prop where
  e1 : Sent w 4
  e2 : Sent w 5
  e3 : Sent w 6
theorem Sents.kept {w w1 : World} {rb : Nat} (h : Sents w) (hg : w.grownBy w1 (some rb)) (hrb : 8 ≤ rb) : Sents w1 := by
  have hk : ∀ g, g < 8 → Sent w g → Sent w1 g := fun g hg1 ⟨t, x, hc, hl⟩ => ⟨t, x, hg.cell hc (by simp; omega), hl⟩
  exact ⟨hk _ (by decide) h.e1, hk _ (by decide) h.e2, hk _ (by decide) h.e3⟩

theorem block_facts {w : World} {b : Nat} {C : Array Value} {t : Nat} (h : w.heap[b]? = some (.cells C t (0, 0))) : (∀ j, w.cell? ⟨b, j, none⟩ = C[j]?) ∧ (∀ j, w.frozen? ⟨b, j, none⟩ = false) :=
  ⟨fun j => by simp [World.cell?, h], fun j => by simp [World.frozen?, h]⟩
theorem set3 {w w1 : World} {rb : Nat} {x y z : Value} (h : w.grownBy w1 (some rb)) : w.grownBy (((w1.setCell ⟨w.heap.size, 0, none⟩ x).setCell ⟨w.heap.size, 1, none⟩ y).setCell ⟨w.heap.size, 2, none⟩ z) (some rb) :=
  ⟨h.os, h.tape, h.output, by simpa [World.setCell] using h.size, fun k hk hne => by
    rw [Below.heap_setCell _ _ _ _ (by simp; omega), Below.heap_setCell _ _ _ _ (by simp; omega), Below.heap_setCell _ _ _ _ (by simp; omega)]
    exact h.block k hk hne⟩
theorem rd3 {w1 : World} {rb B : Nat} {l : List UInt8} {x y z : Value} (h : Rd w1 rb l) (hne : rb ≠ B) : Rd (((w1.setCell ⟨B, 0, none⟩ x).setCell ⟨B, 1, none⟩ y).setCell ⟨B, 2, none⟩ z) rb l := by
  unfold Rd
  rw [Below.heap_setCell _ _ _ _ hne, Below.heap_setCell _ _ _ _ hne, Below.heap_setCell _ _ _ _ hne]
  exact h

theorem value_any (rb : Nat) (l : List UInt8) (w : World) (h : Rd w rb l) (hS : Sents w) (hrb : 8 ≤ rb) :
    Calls Tryd.prog 54 #[.pointer (some ⟨rb, 0, none⟩)] w fun e w' =>
      Got 0 (rVal l) (fun v => ∃ x : V, v = x.val) V.val rb e w' ∧ w.grownBy w' (some rb) := by
  have hrl := h.lt
  have hne : rb ≠ w.heap.size := by omega
  have hRA : ∀ o, Rd (w.alloc o) rb l := fun o => (Below.heap_alloc w o rb hrl).trans h
  have hSA : ∀ o, Sents (w.alloc o) := fun o => hS.kept (rb := rb) (World.grownBy_alloc w o _) hrb
  have hgA : ∀ o, w.grownBy (w.alloc o) (some rb) := fun o => World.grownBy_alloc w o _
  cases l with
  | nil =>
    go_enter Tryd.func54, Tryd.ntmps54
    go_wp2_with fail
    refine (next_nil rb _ (hRA _) (hSA _).e1).mono ?_
    rintro e w1 ⟨⟨t, x, rfl, hl⟩, hg1⟩
    have HLf : Hid (Lf (.iface t x)) := hl
    clear hl
    have hG : w.grownBy w1 (some rb) := grownBy_step (hgA _) hg1 (.inl rfl)
    obtain ⟨bc, bf⟩ := block_facts ((hg1.block w.heap.size (by simp) (by simp; omega)).trans (heap_alloc_new w _))
    have b0 := bc 0
    have b1 := bc 1
    have b2 := bc 2
    simp at b0 b1 b2
    clear bc
    go_wp2
    refine bodyPost_ret (v := .tuple #[zeroV.val, .iface t x]) (by simp [results, Tryd.results54, go_sem, zeroV, b0, b1, b2]; rfl) rfl ?_
    exact ⟨Got.bad (z := fun v => ∃ x : V, v = x.val) rfl ⟨zeroV, rfl⟩ t x (HLf.out.bd _ _ _), set3 hG⟩
  | cons c l2 =>
    have hcl := c.toNat_lt
    have hci : (c.toNat : Int) < 256 := by omega
    by_cases h0 : c.toNat = 0
    · have HV : Hid (rVal (c :: l2) = some (zeroV, l2)) := by show _ = _; simp only [rVal, if_pos h0]
      have hq : ((c.toNat : Int) == 0) = true := by simpa using h0
      clear h0
      go_enter Tryd.func54, Tryd.ntmps54
      go_wp2_with fail
      refine (next_cons rb c l2 _ (hRA _)).mono ?_
      rintro e w1 ⟨rfl, hR1, hg1⟩
      have hG : w.grownBy w1 (some rb) := grownBy_step (hgA _) hg1 (.inl rfl)
      obtain ⟨bc, bf⟩ := block_facts ((hg1.block w.heap.size (by simp) (by simp; omega)).trans (heap_alloc_new w _))
      have b0 := bc 0
      have b1 := bc 1
      have b2 := bc 2
      simp at b0 b1 b2
      clear bc
      go_wp2
      refine bodyPost_ret (v := .tuple #[zeroV.val, .nilIface]) (by simp [results, Tryd.results54, go_sem, zeroV, b0, b1, b2]; rfl) rfl ?_
      exact ⟨Got.good HV.out (rd3 hR1 hne), set3 hG⟩
    have q0 : ((c.toNat : Int) == 0) = false := by simpa using h0
    by_cases h2 : c.toNat ≤ 2
    · have HV : Hid (rVal (c :: l2) = some (⟨1, c.toNat - 1, ByteArray.empty⟩, l2)) := by show _ = _; simp only [rVal, if_neg h0, if_pos h2]
      have hq : (c.toNat : Int) ≤ 2 := by omega
      have hw1 : IntKind.u8.wrap ((c.toNat : Int) - 1) = (c.toNat : Int) - 1 := by rw [IntKind.wrap_u8]; omega
      clear h0
      go_enter Tryd.func54, Tryd.ntmps54
      go_wp2_with fail
      refine (next_cons rb c l2 _ (hRA _)).mono ?_
      rintro e w1 ⟨rfl, hR1, hg1⟩
      have hG : w.grownBy w1 (some rb) := grownBy_step (hgA _) hg1 (.inl rfl)
      obtain ⟨bc, bf⟩ := block_facts ((hg1.block w.heap.size (by simp) (by simp; omega)).trans (heap_alloc_new w _))
      have b0 := bc 0
      have b1 := bc 1
      have b2 := bc 2
      simp at b0 b1 b2
      clear bc
      go_wp2
      refine bodyPost_ret (v := .tuple #[(⟨1, c.toNat - 1, ByteArray.empty⟩ : V).val, .nilIface]) (by simp [results, Tryd.results54, go_sem, b0, b1, b2]; rfl) rfl ?_
      exact ⟨Got.good HV.out (rd3 hR1 hne), set3 hG⟩
    have q2 : ¬ (c.toNat : Int) ≤ 2 := by omega
    by_cases h3 : c.toNat = 3
    · have hq : ((c.toNat : Int) == 3) = true := by simp; omega
      have HV : Hid (rVal (c :: l2) = (rNum 10 0 0 l2).map (fun p => (⟨2, unzz p.1, ByteArray.empty⟩, p.2))) := by show _ = _; simp only [rVal, if_neg h0, if_neg h2, if_pos h3]
      clear h0 h3
      go_enter Tryd.func54, Tryd.ntmps54
      go_wp2_with fail
      refine (next_cons rb c l2 _ (hRA _)).mono ?_
      rintro e w1 ⟨rfl, hR1, hg1⟩
      have hG : w.grownBy w1 (some rb) := grownBy_step (hgA _) hg1 (.inl rfl)
      have hS1 : Sents w1 := hS.kept hG hrb
      have hsz1 : w.heap.size + 1 ≤ w1.heap.size := by have := hg1.size; simpa using this
      have hb1 := ((hg1.block w.heap.size (by simp) (by simp; omega)).trans (heap_alloc_new w _))
      go_wp2_with fail
      refine (number_any rb l2 _ hR1 hS1.e1 hS1.e3 hrb).mono ?_
      rintro e w2 ⟨hgot, hg2⟩
      have hG2 : w.grownBy w2 (some rb) := grownBy_step hG hg2 (.inl rfl)
      have hb2 := (hg2.block w.heap.size (by omega) (by simp; omega)).trans hb1
      obtain ⟨bc, bf⟩ := block_facts hb2
      have b0 := bc 0
      have b1 := bc 1
      have b2 := bc 2
      simp at b0 b1 b2
      clear bc
      cases hn : rNum 10 0 0 l2 with
      | none =>
        rw [hn] at hgot HV
        obtain ⟨v, t, x, rfl, rfl, hbd⟩ := hgot
        have HLf : Hid (Lf (.iface t x)) := hbd.zero
        clear hbd
        go_wp2
        refine bodyPost_ret (v := .tuple #[(⟨2, 0, ByteArray.empty⟩ : V).val, .iface t x]) (by simp [results, Tryd.results54, go_sem, b0, b1, b2]; rfl) rfl ?_
        exact ⟨Got.bad (z := fun v => ∃ x : V, v = x.val) HV.out ⟨_, rfl⟩ t x (HLf.out.bd _ _ _), set3 hG2⟩
      | some p =>
        obtain ⟨u, l3⟩ := p
        rw [hn] at hgot HV
        obtain ⟨rfl, hR2⟩ := hgot
        go_wp2
        refine bodyPost_ret (v := .tuple #[(⟨2, unzz u, ByteArray.empty⟩ : V).val, .nilIface]) (by simp [results, Tryd.results54, go_sem, b0, b1, b2]; rfl) rfl ?_
        exact ⟨Got.good HV.out (rd3 hR2 hne), set3 hG2⟩
    have q3 : ((c.toNat : Int) == 3) = false := by simp; omega
    by_cases h20 : c.toNat ≤ 20
    · have hq : (c.toNat : Int) ≤ 20 := by omega
      have hw1 : IntKind.u8.wrap ((c.toNat : Int) - 4) = ((c.toNat - 4 : Nat) : Int) := by rw [IntKind.wrap_u8]; omega
      have hw2 : ((c.toNat : Int) - 4) = ((c.toNat - 4 : Nat) : Int) := by omega
      have HV : Hid (rVal (c :: l2) = if c.toNat - 4 ≤ l2.length then some (⟨3, 0, mk (l2.take (c.toNat - 4))⟩, l2.drop (c.toNat - 4)) else none) := by show _ = _; simp only [rVal, if_neg h0, if_neg h2, if_neg h3, if_pos h20]
      clear h0 h3
      by_cases hle : c.toNat - 4 ≤ l2.length
      · have HV2 : Hid (rVal (c :: l2) = some (⟨3, 0, mk (l2.take (c.toNat - 4))⟩, l2.drop (c.toNat - 4))) := by show _ = _; rw [HV.out, if_pos hle]
        go_enter Tryd.func54, Tryd.ntmps54
        go_wp2_with fail
        refine (next_cons rb c l2 _ (hRA _)).mono ?_
        rintro e w1 ⟨rfl, hR1, hg1⟩
        have hG : w.grownBy w1 (some rb) := grownBy_step (hgA _) hg1 (.inl rfl)
        have hS1 : Sents w1 := hS.kept hG hrb
        have hsz1 : w.heap.size + 1 ≤ w1.heap.size := by have := hg1.size; simpa using this
        have hb1 := ((hg1.block w.heap.size (by simp) (by simp; omega)).trans (heap_alloc_new w _))
        go_wp2_with fail
        refine (take_yes rb (c.toNat - 4) l2 _ hR1 hle (by omega)).mono ?_
        rintro e w2 ⟨rfl, hR2, hg2⟩
        have hG2 : w.grownBy w2 (some rb) := grownBy_step hG hg2 (.inl rfl)
        have hb2 := (hg2.block w.heap.size (by omega) (by simp; omega)).trans hb1
        obtain ⟨bc, bf⟩ := block_facts hb2
        have b0 := bc 0
        have b1 := bc 1
        have b2 := bc 2
        simp at b0 b1 b2
        clear bc
        go_wp2
        refine bodyPost_ret (v := .tuple #[(⟨3, 0, mk (l2.take (c.toNat - 4))⟩ : V).val, .nilIface]) (by simp [results, Tryd.results54, go_sem, b0, b1, b2]) rfl ?_
        exact ⟨Got.good HV2.out (rd3 hR2 hne), set3 hG2⟩
      · have HV2 : Hid (rVal (c :: l2) = none) := by show _ = _; rw [HV.out, if_neg hle]
        go_enter Tryd.func54, Tryd.ntmps54
        go_wp2_with fail
        refine (next_cons rb c l2 _ (hRA _)).mono ?_
        rintro e w1 ⟨rfl, hR1, hg1⟩
        have hG : w.grownBy w1 (some rb) := grownBy_step (hgA _) hg1 (.inl rfl)
        have hS1 : Sents w1 := hS.kept hG hrb
        have hsz1 : w.heap.size + 1 ≤ w1.heap.size := by have := hg1.size; simpa using this
        have hb1 := ((hg1.block w.heap.size (by simp) (by simp; omega)).trans (heap_alloc_new w _))
        go_wp2_with fail
        refine (take_no rb (c.toNat - 4) l2 _ hR1 hS1.e1 (by omega)).mono ?_
        rintro e w2 ⟨⟨t, x, rfl, hl⟩, hg2⟩
        have HLf : Hid (Lf (.iface t x)) := hl
        clear hl
        have hG2 : w.grownBy w2 (some rb) := grownBy_step hG hg2 (.inl rfl)
        have hb2 := (hg2.block w.heap.size (by omega) (by simp; omega)).trans hb1
        obtain ⟨bc, bf⟩ := block_facts hb2
        have b0 := bc 0
        have b1 := bc 1
        have b2 := bc 2
        simp at b0 b1 b2
        clear bc
        go_wp2
        refine bodyPost_ret (v := .tuple #[(⟨3, 0, ByteArray.empty⟩ : V).val, .iface t x]) (by simp [results, Tryd.results54, go_sem, b0, b1, b2]; rfl) rfl ?_
        exact ⟨Got.bad (z := fun v => ∃ x : V, v = x.val) HV2.out ⟨_, rfl⟩ t x (HLf.out.bd _ _ _), set3 hG2⟩
    have q20 : ¬ (c.toNat : Int) ≤ 20 := by omega
    have HV2 : Hid (rVal (c :: l2) = none) := by show _ = _; simp only [rVal, if_neg h0, if_neg h2, if_neg h3, if_neg h20]
    clear h0 h3
    go_enter Tryd.func54, Tryd.ntmps54
    go_wp2_with fail
    refine (next_cons rb c l2 _ (hRA _)).mono ?_
    rintro e w1 ⟨rfl, hR1, hg1⟩
    have hG : w.grownBy w1 (some rb) := grownBy_step (hgA _) hg1 (.inl rfl)
    have hS1 : Sents w1 := hS.kept hG hrb
    have hsz1 : w.heap.size + 1 ≤ w1.heap.size := by have := hg1.size; simpa using this
    have hb1 := ((hg1.block w.heap.size (by simp) (by simp; omega)).trans (heap_alloc_new w _))
    obtain ⟨t, x, hct, hl⟩ := hS1.e2
    have HLf : Hid (Lf (.iface t x)) := hl
    clear hl
    have hb2 := hb1
    obtain ⟨bc, bf⟩ := block_facts hb2
    have b0 := bc 0
    have b1 := bc 1
    have b2 := bc 2
    simp at b0 b1 b2
    clear bc
    go_wp2
    go_region
    all_goals
      go_wp2
      refine bodyPost_ret (v := .tuple #[zeroV.val, .iface t x]) (by simp [results, Tryd.results54, go_sem, zeroV, b0, b1, b2]; rfl) rfl ?_
      exact ⟨Got.bad (z := fun v => ∃ x : V, v = x.val) HV2.out ⟨_, rfl⟩ t x (HLf.out.bd _ _ _), grownBy_drew (set3 hG)⟩
end Go.Proofs.YtcbjoogkodcgkaaDoor

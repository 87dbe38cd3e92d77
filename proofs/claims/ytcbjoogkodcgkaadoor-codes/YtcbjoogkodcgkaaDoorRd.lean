/-
  Walks: the reader: next, strings.Clone, take, number.
-/
import Derived.Test.YtcbjoogkodcgkaaDoorChk2
import Derived.Test.YtcbjoogkodcgkaaDoorZz
import Derived.Lib.Strings
namespace Go.Proofs.YtcbjoogkodcgkaaDoor
open Go.RowKit
set_option maxHeartbeats 1000000
set_option maxRecDepth 100000

/-- A string of these bytes. -/
def mk (l : List UInt8) : ByteArray := ⟨l.toArray⟩
theorem mk_size (l : List UInt8) : (mk l).size = l.length := by simp [mk, ByteArray.size]
theorem mk_empty (l : List UInt8) : (mk l).toList.isEmpty = l.isEmpty := by
  rw [ByteArray.toList_eq]
  cases l <;> simp [mk]
theorem mk_extract (l : List UInt8) (a b : Nat) : (mk l).extract a b = mk ((l.drop a).take (b - a)) := Lib.extract_eq (mk l) a b
theorem mk_tail (l : List UInt8) (a : Nat) : (mk l).extract a (mk l).size = mk (l.drop a) := by
  rw [mk_extract, mk_size, List.take_of_length_le (by simp)]
theorem mk_head (l : List UInt8) (a : Nat) : (mk l).extract 0 a = mk (l.take a) := by
  rw [mk_extract]; rfl
theorem grownBy_setCell (w : World) (b j : Nat) (v : Value) : w.grownBy (w.setCell ⟨b, j, none⟩ v) (some b) :=
  ⟨rfl, rfl, rfl, by simp [World.setCell], fun k _ hne => Below.heap_setCell _ _ _ _ (by simpa using hne)⟩
/-- The reader's one cell: what is still to be read. -/
def Rd (w : World) (rb : Nat) (l : List UInt8) : Prop := w.heap[rb]? = some (.cells #[.string (mk l)] 62 (0, 0))
theorem Rd.cell {w : World} {rb : Nat} {l : List UInt8} (h : Rd w rb l) : w.cell? ⟨rb, 0, none⟩ = some (.string (mk l)) := cell_of_one h
theorem Rd.free {w : World} {rb : Nat} {l : List UInt8} (h : Rd w rb l) : w.frozen? ⟨rb, 0, none⟩ = false := free_of_one h
theorem Rd.lt {w : World} {rb : Nat} {l : List UInt8} (h : Rd w rb l) : rb < w.heap.size := lt_of_block h

/-- The errors of package code: each is there, and is no nil. -/
def Sent (w : World) (g : Nat) : Prop := ∃ t x, w.cell? ⟨g, 0, none⟩ = some (.iface t x) ∧ Lf (.iface t x)

theorem grownBy_drewN {w w1 : World} {r : Option Nat} (h : w.grownBy w1 r) (n : Nat) : w.grownBy (w1.drewN n) r := ⟨h.os, h.tape, h.output, h.size, h.block⟩

theorem next_nil (rb : Nat) (w : World) (h : Rd w rb []) (hg : Sent w 4) :
    Calls Tryd.prog 42 #[.pointer (some ⟨rb, 0, none⟩)] w fun e w' => (∃ t x, e = .returned (.tuple #[.int .u8 0, .iface t x]) ∧ Lf (.iface t x)) ∧ w.grownBy w' (some rb) := by
  obtain ⟨t, x, hc, hl⟩ := hg
  have HLf : Hid (Lf (.iface t x)) := hl
  clear hl
  have c0 := h.cell
  have hm : (mk []).toList.isEmpty = true := mk_empty []
  go_enter Tryd.func42, Tryd.ntmps42
  go_wp2
  go_quiet (fail)
  go_wp2
  go_ret2
  exact ⟨⟨t, x, rfl, HLf.out⟩, grownBy_drewN (grownBy_refl _ _) _⟩

theorem next_cons (rb : Nat) (c : UInt8) (l : List UInt8) (w : World) (h : Rd w rb (c :: l)) :
    Calls Tryd.prog 42 #[.pointer (some ⟨rb, 0, none⟩)] w fun e w' => e = .returned (.tuple #[.int .u8 c.toNat, .nilIface]) ∧ Rd w' rb l ∧ w.grownBy w' (some rb) := by
  have c0 := h.cell
  have f0 := h.free
  have hm : (mk (c :: l)).toList.isEmpty = false := mk_empty _
  have hs : (0 : Int) < (mk (c :: l)).size := by rw [mk_size]; simp
  have hs1 : (1 : Int) ≤ (mk (c :: l)).size := by omega
  go_enter Tryd.func42, Tryd.ntmps42
  go_wp2
  go_ret2
  refine ⟨rfl, ?_, grownBy_setCell _ _ _ _⟩
  rw [mk_tail]
  exact one_setCell h
/-- What a reading function answers: z ahead of an error, or f of what was read, and the rest. -/
def Got {α : Type} (q : Nat) (o : Option (α × List UInt8)) (z : Value → Prop) (f : α → Value) (rb : Nat) (e : Ending) (w' : World) : Prop :=
  match o with
  | none => ∃ v t x, z v ∧ e = .returned (.tuple #[v, .iface t x]) ∧ Bd w' 0 q (.iface t x)
  | some (a, l') => e = .returned (.tuple #[f a, .nilIface]) ∧ Rd w' rb l'
theorem Got.bad {α : Type} {q : Nat} {o : Option (α × List UInt8)} (h : o = none) {z : Value → Prop} {f : α → Value} {rb : Nat} {w' : World} {v : Value} (hz : z v) (t : Nat) (x : Value) (hb : Bd w' 0 q (.iface t x)) : Got q o z f rb (.returned (.tuple #[v, .iface t x])) w' := by
  subst h; exact ⟨v, t, x, hz, rfl, hb⟩
theorem Got.good {α : Type} {q : Nat} {o : Option (α × List UInt8)} {a : α} {l' : List UInt8} (h : o = some (a, l')) {z : Value → Prop} {f : α → Value} {rb : Nat} {w' : World} (hr : Rd w' rb l') : Got q o z f rb (.returned (.tuple #[f a, .nilIface])) w' := by
  subst h; exact ⟨rfl, hr⟩

theorem number_any (rb : Nat) (l : List UInt8) (w : World) (h : Rd w rb l) (he : Sent w 4) (hn : Sent w 6) (hrb : 8 ≤ rb) :
    Calls Tryd.prog 55 #[.pointer (some ⟨rb, 0, none⟩)] w fun e w' =>
      Got 0 (rNum 10 0 0 l) (fun v => v = .int .i64 0) (fun u => .int .i64 (unzz u)) rb e w' ∧ w.grownBy w' (some rb) := by
  have hrl := h.lt
  go_enter Tryd.func55, Tryd.ntmps55
  go_wp2
  go_loopw [4, 5] (fun uv sv wr => ∃ (k u : Nat) (l1 : List UInt8), uv = .int .u64 u ∧ sv = .int .i64 ((7 * k : Nat) : Int) ∧ k ≤ 10 ∧ u < 2 ^ (7 * k) ∧ u < 18446744073709551616 ∧ Rd wr rb l1 ∧ rNum 10 0 0 l = rNum (10 - k) k u l1 ∧ w.grownBy wr (some rb)) (fun _ s _ => 70 - (intOf s).toNat)
  case atStart => exact ⟨0, 0, l, rfl, rfl, by omega, by decide, by decide, h, rfl, grownBy_refl _ _⟩
  case round =>
    obtain ⟨k, u, l1, rfl, rfl, hk, hu, hu2, hR, hq, hgr⟩ := hrel
    have HQ : Hid (rNum 10 0 0 l = rNum (10 - k) k u l1) := hq
    have HU : Hid (u < 2 ^ (7 * k) ∧ u < 18446744073709551616) := ⟨hu, hu2⟩
    clear hq hu hu2
    have hsl : ∀ g, g < 8 → Sent w g → Sent wr g := fun g hg ⟨t, x, hc, hl⟩ => ⟨t, x, hgr.cell hc (by simp; omega), hl⟩
    by_cases hlt : k < 10
    · have hsi : ((7 * k : Nat) : Int) < 64 := by omega
      have hs0 : (0 : Int) ≤ ((7 * k : Nat) : Int) := by omega
      cases l1 with
      | nil =>
        go_wp2_with fail
        refine (next_nil rb _ hR (hsl _ (by decide) he)).mono ?_
        rintro e w1 ⟨⟨t, x, rfl, hl⟩, hg1⟩
        have HLf : Hid (Lf (.iface t x)) := hl
        clear hl
        go_wp2
        go_ret2
        exact ⟨Got.bad (o := rNum 10 0 0 l) (z := fun v => v = .int .i64 0) (by rw [HQ.out, show 10 - k = (9 - k) + 1 from by omega]; rfl) rfl t x (HLf.out.bd _ _ _), grownBy_step hgr hg1 (.inl rfl)⟩
      | cons c l2 =>
        go_wp2_with fail
        refine (next_cons rb c l2 _ hR).mono ?_
        rintro e w1 ⟨rfl, hR1, hg1⟩
        have hor := or_addB k u c hlt HU.out.1 HU.out.2
        have HA : Hid (addB k u c < 2 ^ (7 * (k + 1)) ∧ addB k u c < 18446744073709551616) := addB_lt k u c hlt HU.out.1
        have HA2 : Hid (addB k u c = addB k u c) := rfl
        by_cases hc : c.toNat < 128
        · have hci : (c.toNat : Int) < 128 := by omega
          have hux := unzz_bits (addB k u c) HA.out.2
          have HG : Hid (rNum 10 0 0 l = some (addB k u c, l2)) := by
            show _ = _
            rw [HQ.out, show 10 - k = (9 - k) + 1 from by omega]
            simp only [rNum, if_pos hc]
          clear HA2
          go_wp2
          go_ret2
          exact ⟨Got.good HG.out hR1, grownBy_step hgr hg1 (.inl rfl)⟩
        · have hci : ¬ (c.toNat : Int) < 128 := by omega
          have HG : Hid (rNum 10 0 0 l = rNum (10 - (k + 1)) (k + 1) (addB k u c) l2) := by
            show _ = _
            rw [HQ.out, show 10 - k = (10 - (k + 1)) + 1 from by omega]
            simp only [rNum, if_neg hc]
          go_wp2
          go_roundw
          case rel => exact ⟨k + 1, addB k u c, l2, rfl, by go_num, by omega, HA.out.1, HA.out.2, hR1, HG.out, grownBy_step hgr hg1 (.inl rfl)⟩
          case measure => simp [intOf]; omega
    · have hk10 : (64 : Int) ≤ 7 * (k : Int) := by omega
      have hk10' : ¬ ((7 * k : Nat) : Int) < 64 := by omega
      have HG : Hid (rNum 10 0 0 l = none) := by
        show _ = _
        rw [HQ.out, show 10 - k = 0 from by omega]
        rfl
      obtain ⟨t, x, hcn, hl⟩ := hsl _ (by decide) hn
      have HLf : Hid (Lf (.iface t x)) := hl
      clear hl
      go_wp2
      go_quiet (fail)
      go_wp2
      go_ret2
      exact ⟨Got.bad (z := fun v => v = .int .i64 0) HG.out rfl t x (HLf.out.bd _ _ _), grownBy_drewN hgr _⟩
end Go.Proofs.YtcbjoogkodcgkaaDoor

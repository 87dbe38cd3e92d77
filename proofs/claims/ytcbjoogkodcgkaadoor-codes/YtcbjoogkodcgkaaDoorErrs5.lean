/-
  Walks: errors.As of the program's own errors.
-/
import Derived.Test.YtcbjoogkodcgkaaDoorErrs4
namespace Go.Proofs.YtcbjoogkodcgkaaDoor
open Go.RowKit Go.Extern.Stop Go.Stop Go.Extern
set_option maxHeartbeats 4000000
set_option maxRecDepth 100000

/-- The world in which errors.As calls errors.as. -/
abbrev AsW (w : World) (ta : Addr) : World := (w.alloc (.cells #[.pointer (some ta)] 53)).alloc (.cells #[hdl 53, .pointer (some ⟨w.heap.size, 0, none⟩), .int .u64 150] 75)

theorem As_cell (ta : Addr) (w : World) : (AsW w ta).cell? ⟨w.heap.size, 0, none⟩ = some (.pointer (some ta)) := by
  refine cell_al _ ?_
  rw [World.cell?_alloc_at _ _ _ _ rfl]; rfl

theorem As_isNil (ta : Addr) (w : World) : (callFunc 31 #[.agg #[hdl 53, .pointer (some ⟨w.heap.size, 0, none⟩), .int .u64 150]]).run Tryd.prog (AsW w ta) = .ok (.value (.bool false)) (AsW w ta) :=
  isNil_ptr _ ta _ (As_cell ta w)

theorem As_of (t : Nat) (v : Value) (ta : Addr) (w : World) (r : Bool) (K : World → Prop) (hg : w.cell? ⟨3, 0, none⟩ = some (rty 41))
    (h : Calls Tryd.prog 32 #[.iface t v, .iface 53 (.pointer (some ta)), .agg #[hdl 53, .pointer (some ⟨w.heap.size, 0, none⟩), .int .u64 150], rty 50] (AsW w ta) fun e w' => e = .returned (.bool r) ∧ K w') :
    Calls Tryd.prog 20 #[.iface t v, .iface 53 (.pointer (some ta))] w fun e w' => e = .returned (.bool r) ∧ K w' := by
  have H : Hid (Calls Tryd.prog 32 #[.iface t v, .iface 53 (.pointer (some ta)), .agg #[hdl 53, .pointer (some ⟨w.heap.size, 0, none⟩), .int .u64 150], rty 50] (AsW w ta) fun e w' => e = .returned (.bool r) ∧ K w') := h
  clear h
  have h1 := valueOf_ptr ta w
  have h2 := type_ptr ⟨w.heap.size, 0, none⟩
  have h3 := method_kind
  have h4 := kind_ptr
  have h5 := As_isNil ta w
  have h6 := method_elem
  have h7 := elem_ptr
  have h8 := kind_num
  have h9 := method_impl
  have h10 := impl_num
  have hg1 : (AsW w ta).cell? ⟨3, 0, none⟩ = some (rty 41) := cell_al _ (cell_al _ hg)
  go_enter Tryd.func20, Tryd.ntmps20
  go_wp2_with fail
  refine H.out.mono ?_
  rintro e w1 ⟨rfl, hK⟩
  go_wp2
  go_ret
  exact ⟨rfl, hK⟩
end Go.Proofs.YtcbjoogkodcgkaaDoor

/-
  Walks: errors.Is, errors.As, tidings.errnoOf.
-/
import Derived.Test.YtcbjoogkodcgkaaDoorErrs
namespace Go.Proofs.YtcbjoogkodcgkaaDoor
open Go.RowKit Go.Extern.Stop Go.Stop Go.Extern
set_option maxHeartbeats 4000000
set_option maxRecDepth 100000

/-- The handle of a type. -/
abbrev hdl (t : Nat) : Value := .pointer (some ⟨8, t, none⟩)
abbrev rty (t : Nat) : Value := .iface 100 (.agg #[hdl t])

theorem typeOf_err (v : Value) (w : World) : (callFunc 27 #[.iface 137 v]).run Tryd.prog w = .ok (.value (rty 137)) w := by kernel_rfl
theorem typeOf_num (v : Value) (w : World) : (callFunc 27 #[.iface 50 v]).run Tryd.prog w = .ok (.value (rty 50)) w := by kernel_rfl
theorem typeOf_place (v : Value) (w : World) : (callFunc 27 #[.iface 115 v]).run Tryd.prog w = .ok (.value (rty 115)) w := by kernel_rfl
theorem method_cmp (h : Value) (w : World) : (Go.method 269 100 (.agg #[h]) "Comparable").run Tryd.prog w = .ok (91, .agg #[h]) w := by kernel_rfl
theorem cmp_err (w : World) : (callFunc 91 #[.agg #[hdl 137]]).run Tryd.prog w = .ok (.value (.bool true)) w := by kernel_rfl

theorem cmp_num (w : World) : (callFunc 91 #[.agg #[hdl 50]]).run Tryd.prog w = .ok (.value (.bool true)) w := by kernel_rfl
theorem Is6_nil (w : World) :
    Calls Tryd.prog 19 #[.nilIface, six] w fun e w' => e = .returned (.bool false) ∧ w' = w := by
  have h1 := fun w => run_eql_iface_nil_left (P := Tryd.prog) w 50 (.int .i64 6) Tryd.underlying41
  go_enter Tryd.func19, Tryd.ntmps19
  go_wp2
  go_ret
  exact ⟨rfl, rfl⟩
theorem Is6_of (t : Nat) (v : Value) (w : World) (r : Bool) (K : World → Prop) (h : Calls Tryd.prog 28 #[.iface t v, six, .bool true] w fun e w' => e = .returned (.bool r) ∧ K w') :
    Calls Tryd.prog 19 #[.iface t v, six] w fun e w' => e = .returned (.bool r) ∧ K w' := by
  have H : Hid (Calls Tryd.prog 28 #[.iface t v, six, .bool true] w fun e w' => e = .returned (.bool r) ∧ K w') := h
  clear h
  have h2 := typeOf_num
  have h3 := method_cmp
  have h4 := cmp_num
  go_enter Tryd.func19, Tryd.ntmps19
  go_wp2_with fail
  refine H.out.mono ?_
  rintro e w1 ⟨rfl, hK⟩
  go_wp2
  go_ret
  exact ⟨rfl, hK⟩

theorem Is_nil (a : Addr) (w : World) :
    Calls Tryd.prog 19 #[.nilIface, tgt a] w fun e w' => e = .returned (.bool false) ∧ w' = w := by
  have h1 := fun w => run_eql_iface_nil_left (P := Tryd.prog) w 137 (.pointer (some a)) Tryd.underlying41
  go_enter Tryd.func19, Tryd.ntmps19
  go_wp2
  go_ret
  exact ⟨rfl, rfl⟩

theorem Is_of (t : Nat) (v : Value) (a : Addr) (w : World) (r : Bool) (K : World → Prop) (h : Calls Tryd.prog 28 #[.iface t v, tgt a, .bool true] w fun e w' => e = .returned (.bool r) ∧ K w') :
    Calls Tryd.prog 19 #[.iface t v, tgt a] w fun e w' => e = .returned (.bool r) ∧ K w' := by
  have H : Hid (Calls Tryd.prog 28 #[.iface t v, tgt a, .bool true] w fun e w' => e = .returned (.bool r) ∧ K w') := h
  clear h
  have h2 := typeOf_err
  have h3 := method_cmp
  have h4 := cmp_err
  go_enter Tryd.func19, Tryd.ntmps19
  go_wp2_with fail
  refine H.out.mono ?_
  rintro e w1 ⟨rfl, hK⟩
  go_wp2
  go_ret
  exact ⟨rfl, hK⟩

theorem valueOf_ptr (t : Addr) (w : World) : (callFunc 29 #[.iface 53 (.pointer (some t))]).run Tryd.prog w
    = .ok (.value (.agg #[hdl 53, .pointer (some ⟨w.heap.size, 0, none⟩), .int .u64 150])) (w.alloc (.cells #[.pointer (some t)] 53)) := by kernel_rfl
theorem type_ptr (a : Addr) (w : World) : (callFunc 30 #[.agg #[hdl 53, .pointer (some a), .int .u64 150]]).run Tryd.prog w = .ok (.value (rty 53)) w := by kernel_rfl
theorem method_kind (h : Value) (w : World) : (Go.method 269 100 (.agg #[h]) "Kind").run Tryd.prog w = .ok (80, h) w := by kernel_rfl
theorem method_elem (h : Value) (w : World) : (Go.method 269 100 (.agg #[h]) "Elem").run Tryd.prog w = .ok (92, .agg #[h]) w := by kernel_rfl
theorem method_impl (h : Value) (w : World) : (Go.method 269 100 (.agg #[h]) "Implements").run Tryd.prog w = .ok (93, .agg #[h]) w := by kernel_rfl
theorem method_asgn (h : Value) (w : World) : (Go.method 269 100 (.agg #[h]) "AssignableTo").run Tryd.prog w = .ok (90, .agg #[h]) w := by kernel_rfl
theorem kind_ptr (w : World) : (callFunc 80 #[hdl 53]).run Tryd.prog w = .ok (.value (.int .u8 22)) w := by kernel_rfl
theorem kind_num (w : World) : (callFunc 80 #[hdl 50]).run Tryd.prog w = .ok (.value (.int .u8 2)) w := by kernel_rfl
theorem elem_ptr (w : World) : (callFunc 92 #[.agg #[hdl 53]]).run Tryd.prog w = .ok (.value (rty 50)) w := by kernel_rfl
theorem impl_num (w : World) : (callFunc 93 #[.agg #[hdl 50], rty 41]).run Tryd.prog w = .ok (.value (.bool true)) w := by kernel_rfl
theorem asgn_num (w : World) : (callFunc 90 #[.agg #[hdl 50], rty 50]).run Tryd.prog w = .ok (.value (.bool true)) w := by kernel_rfl
theorem asgn_place (w : World) : (callFunc 90 #[.agg #[hdl 115], rty 50]).run Tryd.prog w = .ok (.value (.bool false)) w := by kernel_rfl
theorem valueOf_num (n : Int) (w : World) : (callFunc 29 #[.iface 50 (.int .i64 n)]).run Tryd.prog w
    = .ok (.value (.agg #[hdl 50, .pointer (some ⟨w.heap.size, 0, none⟩), .int .u64 130])) (w.alloc (.cells #[.int .i64 n] 50)) := by kernel_rfl
end Go.Proofs.YtcbjoogkodcgkaaDoor

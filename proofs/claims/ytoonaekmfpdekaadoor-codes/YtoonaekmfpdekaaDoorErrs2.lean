/-
  Walks: errors.Is, errors.As, tidings.errnoOf.
-/
import Derived.Test.YtoonaekmfpdekaaDoorErrs
namespace Go.Proofs.YtoonaekmfpdekaaDoor
open Go.RowKit Go.Extern.Stop Go.Stop Go.Extern
set_option maxHeartbeats 4000000
set_option maxRecDepth 100000

/-- The handle of a type. -/
abbrev hdl (t : Nat) : Value := .pointer (some ⟨8, t, none⟩)
abbrev rty (t : Nat) : Value := .iface 99 (.agg #[hdl t])

theorem typeOf_err (v : Value) (w : World) : (callFunc 26 #[.iface 136 v]).run Tryd.prog w = .ok (.value (rty 136)) w := by kernel_rfl
theorem typeOf_num (v : Value) (w : World) : (callFunc 26 #[.iface 52 v]).run Tryd.prog w = .ok (.value (rty 52)) w := by kernel_rfl
theorem typeOf_place (v : Value) (w : World) : (callFunc 26 #[.iface 114 v]).run Tryd.prog w = .ok (.value (rty 114)) w := by kernel_rfl
theorem method_cmp (h : Value) (w : World) : (Go.method 268 99 (.agg #[h]) "Comparable").run Tryd.prog w = .ok (90, .agg #[h]) w := by kernel_rfl
theorem cmp_err (w : World) : (callFunc 90 #[.agg #[hdl 136]]).run Tryd.prog w = .ok (.value (.bool true)) w := by kernel_rfl

theorem Is_nil (a : Addr) (w : World) :
    Calls Tryd.prog 18 #[.nilIface, tgt a] w fun e w' => e = .returned (.bool false) ∧ w' = w := by
  have h1 := fun w => run_eql_iface_nil_left (P := Tryd.prog) w 136 (.pointer (some a)) Tryd.underlying41
  go_enter Tryd.func18, Tryd.ntmps18
  go_wp2
  go_ret
  exact ⟨rfl, rfl⟩

theorem Is_of (t : Nat) (v : Value) (a : Addr) (w : World) (r : Bool) (K : World → Prop) (h : Calls Tryd.prog 27 #[.iface t v, tgt a, .bool true] w fun e w' => e = .returned (.bool r) ∧ K w') :
    Calls Tryd.prog 18 #[.iface t v, tgt a] w fun e w' => e = .returned (.bool r) ∧ K w' := by
  have H : Hid (Calls Tryd.prog 27 #[.iface t v, tgt a, .bool true] w fun e w' => e = .returned (.bool r) ∧ K w') := h
  clear h
  have h2 := typeOf_err
  have h3 := method_cmp
  have h4 := cmp_err
  go_enter Tryd.func18, Tryd.ntmps18
  go_wp2_with fail
  refine H.out.mono ?_
  rintro e w1 ⟨rfl, hK⟩
  go_wp2
  go_ret
  exact ⟨rfl, hK⟩

theorem valueOf_ptr (t : Addr) (w : World) : (callFunc 28 #[.iface 55 (.pointer (some t))]).run Tryd.prog w
    = .ok (.value (.agg #[hdl 55, .pointer (some ⟨w.heap.size, 0, none⟩), .int .u64 150])) (w.alloc (.cells #[.pointer (some t)] 55)) := by kernel_rfl
theorem type_ptr (a : Addr) (w : World) : (callFunc 29 #[.agg #[hdl 55, .pointer (some a), .int .u64 150]]).run Tryd.prog w = .ok (.value (rty 55)) w := by kernel_rfl
theorem method_kind (h : Value) (w : World) : (Go.method 268 99 (.agg #[h]) "Kind").run Tryd.prog w = .ok (79, h) w := by kernel_rfl
theorem method_elem (h : Value) (w : World) : (Go.method 268 99 (.agg #[h]) "Elem").run Tryd.prog w = .ok (91, .agg #[h]) w := by kernel_rfl
theorem method_impl (h : Value) (w : World) : (Go.method 268 99 (.agg #[h]) "Implements").run Tryd.prog w = .ok (92, .agg #[h]) w := by kernel_rfl
theorem method_asgn (h : Value) (w : World) : (Go.method 268 99 (.agg #[h]) "AssignableTo").run Tryd.prog w = .ok (89, .agg #[h]) w := by kernel_rfl
theorem kind_ptr (w : World) : (callFunc 79 #[hdl 55]).run Tryd.prog w = .ok (.value (.int .u8 22)) w := by kernel_rfl
theorem kind_num (w : World) : (callFunc 79 #[hdl 52]).run Tryd.prog w = .ok (.value (.int .u8 2)) w := by kernel_rfl
theorem elem_ptr (w : World) : (callFunc 91 #[.agg #[hdl 55]]).run Tryd.prog w = .ok (.value (rty 52)) w := by kernel_rfl
theorem impl_num (w : World) : (callFunc 92 #[.agg #[hdl 52], rty 41]).run Tryd.prog w = .ok (.value (.bool true)) w := by kernel_rfl
theorem asgn_num (w : World) : (callFunc 89 #[.agg #[hdl 52], rty 52]).run Tryd.prog w = .ok (.value (.bool true)) w := by kernel_rfl
theorem asgn_place (w : World) : (callFunc 89 #[.agg #[hdl 114], rty 52]).run Tryd.prog w = .ok (.value (.bool false)) w := by kernel_rfl
theorem valueOf_num (n : Int) (w : World) : (callFunc 28 #[.iface 52 (.int .i64 n)]).run Tryd.prog w
    = .ok (.value (.agg #[hdl 52, .pointer (some ⟨w.heap.size, 0, none⟩), .int .u64 130])) (w.alloc (.cells #[.int .i64 n] 52)) := by kernel_rfl
end Go.Proofs.YtoonaekmfpdekaaDoor

/-
  Walks: errors.as over the program's own numbered errors.
-/
import Derived.Test.YtcbjoogkodcgkaaDoorErrs3
namespace Go.Proofs.YtcbjoogkodcgkaaDoor
open Go.RowKit Go.Extern.Stop Go.Stop Go.Extern
set_option maxHeartbeats 4000000
set_option maxRecDepth 100000

theorem noAs_place (v : Value) (xT : TypeId) (w : World) : (Instr.typeAssert (.iface 115 v) xT 112 true).run Tryd.prog w = .ok (.tuple #[.nilIface, .bool false]) w := run_typeAssert_lacksB Tryd.underlying112 (by kernel_rfl) (by kernel_rfl) v xT w

/-- The world past errors.as, where the number was found. -/
abbrev asW (w : World) (tv ta : Addr) (n : Int) : World :=
  ((w.alloc (.cells #[hdl 53, .pointer (some tv), .int .u64 150] 75)).alloc (.cells #[.int .i64 n] 50)).setCell ta (.int .i64 n)

theorem size_al (w : World) (o : Obj) : (w.alloc o).heap.size = w.heap.size + 1 := Array.size_push ..
theorem cell_al {w : World} {a : Addr} {v : Value} (o : Obj) (h : w.cell? a = some v) : (w.alloc o).cell? a = some v := by
  rw [World.cell?_alloc_some w a o (by rw [h]; rfl), h]

theorem as_elem (tv ta : Addr) (w : World) (hv : w.cell? tv = some (.pointer (some ta))) : (callFunc 46 #[.agg #[hdl 53, .pointer (some tv), .int .u64 150]]).run Tryd.prog (w.alloc (.cells #[hdl 53, .pointer (some tv), .int .u64 150] 75))
    = .ok (.value (.agg #[hdl 50, .pointer (some ta), .int .u64 386])) (w.alloc (.cells #[hdl 53, .pointer (some tv), .int .u64 150] 75)) := elemV_ptr tv ta _ (cell_al _ hv)
theorem as_set (tv ta : Addr) (n : Int) (old : Value) (w : World) (ht : w.cell? ta = some old) (hf : w.frozen? ta = false) :
    (callFunc 47 #[.agg #[hdl 50, .pointer (some ta), .int .u64 386], .agg #[hdl 50, .pointer (some ⟨w.heap.size + 1, 0, none⟩), .int .u64 130]]).run Tryd.prog ((w.alloc (.cells #[hdl 53, .pointer (some tv), .int .u64 150] 75)).alloc (.cells #[.int .i64 n] 50))
      = .ok (.value (.tuple #[])) (asW w tv ta n) := by
  refine set_num ta _ n old _ ?_ (cell_al _ (cell_al _ ht)) ?_
  · rw [World.cell?_alloc_at _ _ _ _ (size_al _ _).symm]; rfl
  · rw [frozen?_alloc_cells, frozen?_alloc_cells]; exact hf
theorem as_val (n : Int) (tv : Addr) (w : World) : (callFunc 29 #[.iface 50 (.int .i64 n)]).run Tryd.prog (w.alloc (.cells #[hdl 53, .pointer (some tv), .int .u64 150] 75))
    = .ok (.value (.agg #[hdl 50, .pointer (some ⟨w.heap.size + 1, 0, none⟩), .int .u64 130])) ((w.alloc (.cells #[hdl 53, .pointer (some tv), .int .u64 150] 75)).alloc (.cells #[.int .i64 n] 50)) := by
  rw [valueOf_num, size_al]

theorem as_num (tv ta : Addr) (n : Int) (old tg : Value) (w : World) (hv : w.cell? tv = some (.pointer (some ta))) (ht : w.cell? ta = some old) (hf : w.frozen? ta = false) :
    Calls Tryd.prog 32 #[.iface 50 (.int .i64 n), tg, .agg #[hdl 53, .pointer (some tv), .int .u64 150], rty 50] w fun e w' => e = .returned (.bool true) ∧ w' = asW w tv ta n := by
  have h1 := typeOf_num (.int .i64 n)
  have h2 := method_asgn
  have h3 := asgn_num
  have h4 := as_elem tv ta w hv
  have h5 := as_val n tv w
  have h6 := as_set tv ta n old w ht hf
  go_enter Tryd.func32, Tryd.ntmps32
  go_wp2
  refine wp_loop_rounds 1 ?_
  rw [rounds_succ]
  go_wp2
  go_ret
  exact ⟨rfl, rfl⟩

theorem as_one (b : Nat) (tv ta : Addr) (n : Int) (old tg : Value) (w : World) (hb : w.cell? ⟨b, 2, none⟩ = some (.iface 50 (.int .i64 n))) (hv : w.cell? tv = some (.pointer (some ta))) (ht : w.cell? ta = some old) (hf : w.frozen? ta = false) :
    Calls Tryd.prog 32 #[.iface 115 (.pointer (some ⟨b, 0, none⟩)), tg, .agg #[hdl 53, .pointer (some tv), .int .u64 150], rty 50] w fun e w' => e = .returned (.bool true) ∧ w' = asW w tv ta n := by
  have h1 := typeOf_num (.int .i64 n)
  have h2 := method_asgn
  have h3 := asgn_num
  have h4 := as_elem tv ta w hv
  have h5 := as_val n tv w
  have h6 := as_set tv ta n old w ht hf
  have g1 := typeOf_place (.pointer (some ⟨b, 0, none⟩))
  have g2 := asgn_place
  have g3 := noAs_place (.pointer (some ⟨b, 0, none⟩))
  have g4 := uw_place (.pointer (some ⟨b, 0, none⟩))
  have g5 := method_uw ⟨b, 0, none⟩
  have hb1 := cell_al (.cells #[hdl 53, .pointer (some tv), .int .u64 150] 75) hb
  go_enter Tryd.func32, Tryd.ntmps32
  go_wp2
  refine wp_loop_rounds 2 ?_
  rw [rounds_succ]
  go_wp2
  rw [rounds_succ]
  go_wp2
  go_ret
  exact ⟨rfl, rfl⟩
theorem as_two (b1 b2 : Nat) (tv ta : Addr) (n : Int) (old tg : Value) (w : World) (hc : w.cell? ⟨b1, 2, none⟩ = some (.iface 115 (.pointer (some ⟨b2, 0, none⟩)))) (hb : w.cell? ⟨b2, 2, none⟩ = some (.iface 50 (.int .i64 n))) (hv : w.cell? tv = some (.pointer (some ta))) (ht : w.cell? ta = some old) (hf : w.frozen? ta = false) :
    Calls Tryd.prog 32 #[.iface 115 (.pointer (some ⟨b1, 0, none⟩)), tg, .agg #[hdl 53, .pointer (some tv), .int .u64 150], rty 50] w fun e w' => e = .returned (.bool true) ∧ w' = asW w tv ta n := by
  have h1 := typeOf_num (.int .i64 n)
  have h2 := method_asgn
  have h3 := asgn_num
  have h4 := as_elem tv ta w hv
  have h5 := as_val n tv w
  have h6 := as_set tv ta n old w ht hf
  have g1 := typeOf_place
  have g2 := asgn_place
  have g3 := noAs_place
  have g4 := uw_place
  have g5 := method_uw
  have hc1 := cell_al (.cells #[hdl 53, .pointer (some tv), .int .u64 150] 75) hc
  have hb1 := cell_al (.cells #[hdl 53, .pointer (some tv), .int .u64 150] 75) hb
  go_enter Tryd.func32, Tryd.ntmps32
  go_wp2
  refine wp_loop_rounds 3 ?_
  rw [rounds_succ]
  go_wp2
  rw [rounds_succ]
  go_wp2
  rw [rounds_succ]
  go_wp2
  go_ret
  exact ⟨rfl, rfl⟩
end Go.Proofs.YtcbjoogkodcgkaaDoor

/-
  Walks: errors.As, tidings.errnoOf.
-/
import Derived.Test.YtcbjoogkodcgkaaDoorErrs2
namespace Go.Proofs.YtcbjoogkodcgkaaDoor
open Go.RowKit Go.Extern.Stop Go.Stop Go.Extern
set_option maxHeartbeats 4000000
set_option maxRecDepth 100000

theorem As_nil (t : Value) (w : World) :
    Calls Tryd.prog 20 #[.nilIface, t] w fun e w' => e = .returned (.bool false) ∧ w' = w := by
  go_enter Tryd.func20, Tryd.ntmps20
  go_wp2
  go_ret
  exact ⟨rfl, rfl⟩

theorem parts_ptr (a : Addr) (w : World) : (ReflectliteValue.parts (.agg #[hdl 53, .pointer (some a), .int .u64 150])).run Tryd.prog w = .ok (some (53, a, 150)) w := by kernel_rfl
theorem parts_num (a : Addr) (w : World) : (ReflectliteValue.parts (.agg #[hdl 50, .pointer (some a), .int .u64 130])).run Tryd.prog w = .ok (some (50, a, 130)) w := by kernel_rfl
theorem parts_numA (a : Addr) (w : World) : (ReflectliteValue.parts (.agg #[hdl 50, .pointer (some a), .int .u64 386])).run Tryd.prog w = .ok (some (50, a, 386)) w := by kernel_rfl
theorem elemOf_ptr (w : World) : (Rtype.elem? 53).run Tryd.prog w = .ok (some 50) w := by kernel_rfl
theorem mk_num (p : Addr) (w : World) : (ReflectliteValue.mk 50 p ReflectliteValue.flagAddr).run Tryd.prog w = .ok (.agg #[hdl 50, .pointer (some p), .int .u64 386]) w := by kernel_rfl
theorem direct_num (w : World) : (Rtype.directlyAssignable 50 50).run Tryd.prog w = .ok true w := by kernel_rfl
theorem rl_method (z : Sem Value) (f : TypeId → Addr → Nat → Nat → Sem Value) (v : Value) :
    ReflectliteValue.method z f #[v] = (do match ← ReflectliteValue.parts v with | none => z | some (t, a, fl) => f t a fl (fl % 32)) := rfl

theorem isNil_ptr (a p : Addr) (W : World) (ha : W.cell? a = some (.pointer (some p))) :
    (callFunc 31 #[.agg #[hdl 53, .pointer (some a), .int .u64 150]]).run Tryd.prog W = .ok (.value (.bool false)) W := by
  rw [@run_callFunc_extern Tryd.prog 31 _ (ReflectliteValue.method (ReflectliteValue.valueError "reflectlite.Value.IsNil" 0) ReflectliteValue.isNil) Tryd.func31 (by kernel_rfl) (by kernel_rfl) (by kernel_rfl) (by kernel_rfl), rl_method]
  simp only [Sem.run_bind, parts_ptr, Result.andThen]
  simp [ReflectliteValue.isNil, loadVar, isAgg, underlying, Tryd.underlying53, ha, Result.andThen]
theorem elemV_ptr (a p : Addr) (W : World) (ha : W.cell? a = some (.pointer (some p))) :
    (callFunc 46 #[.agg #[hdl 53, .pointer (some a), .int .u64 150]]).run Tryd.prog W = .ok (.value (.agg #[hdl 50, .pointer (some p), .int .u64 386])) W := by
  rw [@run_callFunc_extern Tryd.prog 46 _ (ReflectliteValue.method (ReflectliteValue.valueError "reflectlite.Value.Elem" 0) ReflectliteValue.elem) Tryd.func46 (by kernel_rfl) (by kernel_rfl) (by kernel_rfl) (by kernel_rfl), rl_method]
  simp only [Sem.run_bind, parts_ptr, Result.andThen]
  simp [ReflectliteValue.elem, loadVar, isAgg, underlying, Tryd.underlying53, ha, Result.andThen, elemOf_ptr, mk_num]
theorem lit0 (a b : Value) (h1 : (#[a, b] : Array Value).size = 2) (h2 : 0 < 2) : (#[a, b] : Array Value).getLit 0 h1 h2 = a := rfl
theorem lit1 (a b : Value) (h1 : (#[a, b] : Array Value).size = 2) (h2 : 1 < 2) : (#[a, b] : Array Value).getLit 1 h1 h2 = b := rfl
theorem fl_addr : (386 / ReflectliteValue.flagAddr % 2 == 0) = false := by decide
theorem load_num (b : Addr) (n : Int) (W : World) (hb : W.cell? b = some (.int .i64 n)) : (loadVar 50 b).run Tryd.prog W = .ok (.int .i64 n) W := by
  simp [loadVar, isAgg, underlying, Tryd.underlying50, hb, Result.andThen]
theorem store_num (ta : Addr) (n : Int) (old : Value) (W : World) (ht : W.cell? ta = some old) (hf : W.frozen? ta = false) : (storeVar 50 ta (.int .i64 n)).run Tryd.prog W = .ok () (W.setCell ta (.int .i64 n)) := by
  simp [storeVar, Value.cells, storeCells, Addr.add, Result.andThen]
  rw [run_store Tryd.prog W ta _ _ (by rfl)]
  simp [ht, hf]
theorem set_num (ta b : Addr) (n : Int) (old : Value) (W : World) (hb : W.cell? b = some (.int .i64 n)) (ht : W.cell? ta = some old) (hf : W.frozen? ta = false) :
    (callFunc 47 #[.agg #[hdl 50, .pointer (some ta), .int .u64 386], .agg #[hdl 50, .pointer (some b), .int .u64 130]]).run Tryd.prog W = .ok (.value (.tuple #[])) (W.setCell ta (.int .i64 n)) := by
  rw [@run_callFunc_extern Tryd.prog 47 _ ReflectliteValue.set Tryd.func47 (by kernel_rfl) (by kernel_rfl) (by kernel_rfl) (by kernel_rfl)]
  delta ReflectliteValue.set ReflectliteValue.set.match_3
  rw [dif_pos (by rfl)]
  dsimp only
  simp only [lit0, lit1, Sem.run_bind, parts_num, parts_numA, Result.andThen, fl_addr, Bool.false_eq_true, if_false]
  simp only [load_num b n W hb, direct_num, store_num ta n old W ht hf, Sem.run_bind, Result.andThen, if_true, Sem.run_pure]
end Go.Proofs.YtcbjoogkodcgkaaDoor

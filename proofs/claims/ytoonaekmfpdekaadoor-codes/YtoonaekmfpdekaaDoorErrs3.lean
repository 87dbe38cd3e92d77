/-
  Walks: errors.As, tidings.errnoOf.
-/
import Derived.Test.YtoonaekmfpdekaaDoorErrs2
namespace Go.Proofs.YtoonaekmfpdekaaDoor
open Go.RowKit Go.Extern.Stop Go.Stop Go.Extern
set_option maxHeartbeats 4000000
set_option maxRecDepth 100000

theorem As_nil (t : Value) (w : World) :
    Calls Tryd.prog 19 #[.nilIface, t] w fun e w' => e = .returned (.bool false) ∧ w' = w := by
  go_enter Tryd.func19, Tryd.ntmps19
  go_wp2
  go_ret
  exact ⟨rfl, rfl⟩

theorem parts_ptr (a : Addr) (w : World) : (ReflectliteValue.parts (.agg #[hdl 55, .pointer (some a), .int .u64 150])).run Tryd.prog w = .ok (some (55, a, 150)) w := by kernel_rfl
theorem parts_num (a : Addr) (w : World) : (ReflectliteValue.parts (.agg #[hdl 52, .pointer (some a), .int .u64 130])).run Tryd.prog w = .ok (some (52, a, 130)) w := by kernel_rfl
theorem parts_numA (a : Addr) (w : World) : (ReflectliteValue.parts (.agg #[hdl 52, .pointer (some a), .int .u64 386])).run Tryd.prog w = .ok (some (52, a, 386)) w := by kernel_rfl
theorem elemOf_ptr (w : World) : (Rtype.elem? 55).run Tryd.prog w = .ok (some 52) w := by kernel_rfl
theorem mk_num (p : Addr) (w : World) : (ReflectliteValue.mk 52 p ReflectliteValue.flagAddr).run Tryd.prog w = .ok (.agg #[hdl 52, .pointer (some p), .int .u64 386]) w := by kernel_rfl
theorem direct_num (w : World) : (Rtype.directlyAssignable 52 52).run Tryd.prog w = .ok true w := by kernel_rfl
theorem rl_method (z : Sem Value) (f : TypeId → Addr → Nat → Nat → Sem Value) (v : Value) :
    ReflectliteValue.method z f #[v] = (do match ← ReflectliteValue.parts v with | none => z | some (t, a, fl) => f t a fl (fl % 32)) := rfl

theorem isNil_ptr (a p : Addr) (W : World) (ha : W.cell? a = some (.pointer (some p))) :
    (callFunc 30 #[.agg #[hdl 55, .pointer (some a), .int .u64 150]]).run Tryd.prog W = .ok (.value (.bool false)) W := by
  rw [@run_callFunc_extern Tryd.prog 30 _ (ReflectliteValue.method (ReflectliteValue.valueError "reflectlite.Value.IsNil" 0) ReflectliteValue.isNil) Tryd.func30 (by kernel_rfl) (by kernel_rfl) (by kernel_rfl) (by kernel_rfl), rl_method]
  simp only [Sem.run_bind, parts_ptr, Result.andThen]
  simp [ReflectliteValue.isNil, loadVar, isAgg, underlying, Tryd.underlying55, ha, Result.andThen]
theorem elemV_ptr (a p : Addr) (W : World) (ha : W.cell? a = some (.pointer (some p))) :
    (callFunc 45 #[.agg #[hdl 55, .pointer (some a), .int .u64 150]]).run Tryd.prog W = .ok (.value (.agg #[hdl 52, .pointer (some p), .int .u64 386])) W := by
  rw [@run_callFunc_extern Tryd.prog 45 _ (ReflectliteValue.method (ReflectliteValue.valueError "reflectlite.Value.Elem" 0) ReflectliteValue.elem) Tryd.func45 (by kernel_rfl) (by kernel_rfl) (by kernel_rfl) (by kernel_rfl), rl_method]
  simp only [Sem.run_bind, parts_ptr, Result.andThen]
  simp [ReflectliteValue.elem, loadVar, isAgg, underlying, Tryd.underlying55, ha, Result.andThen, elemOf_ptr, mk_num]
theorem lit0 (a b : Value) (h1 : (#[a, b] : Array Value).size = 2) (h2 : 0 < 2) : (#[a, b] : Array Value).getLit 0 h1 h2 = a := rfl
theorem lit1 (a b : Value) (h1 : (#[a, b] : Array Value).size = 2) (h2 : 1 < 2) : (#[a, b] : Array Value).getLit 1 h1 h2 = b := rfl
theorem fl_addr : (386 / ReflectliteValue.flagAddr % 2 == 0) = false := by decide
theorem load_num (b : Addr) (n : Int) (W : World) (hb : W.cell? b = some (.int .i64 n)) : (loadVar 52 b).run Tryd.prog W = .ok (.int .i64 n) W := by
  simp [loadVar, isAgg, underlying, Tryd.underlying52, hb, Result.andThen]
theorem store_num (ta : Addr) (n : Int) (old : Value) (W : World) (ht : W.cell? ta = some old) (hf : W.frozen? ta = false) : (storeVar 52 ta (.int .i64 n)).run Tryd.prog W = .ok () (W.setCell ta (.int .i64 n)) := by
  simp [storeVar, Value.cells, storeCells, Addr.add, Result.andThen]
  rw [run_store Tryd.prog W ta _ _ (by rfl)]
  simp [ht, hf]
theorem set_num (ta b : Addr) (n : Int) (old : Value) (W : World) (hb : W.cell? b = some (.int .i64 n)) (ht : W.cell? ta = some old) (hf : W.frozen? ta = false) :
    (callFunc 46 #[.agg #[hdl 52, .pointer (some ta), .int .u64 386], .agg #[hdl 52, .pointer (some b), .int .u64 130]]).run Tryd.prog W = .ok (.value (.tuple #[])) (W.setCell ta (.int .i64 n)) := by
  rw [@run_callFunc_extern Tryd.prog 46 _ ReflectliteValue.set Tryd.func46 (by kernel_rfl) (by kernel_rfl) (by kernel_rfl) (by kernel_rfl)]
  delta ReflectliteValue.set ReflectliteValue.set.match_3
  rw [dif_pos (by rfl)]
  dsimp only
  simp only [lit0, lit1, Sem.run_bind, parts_num, parts_numA, Result.andThen, fl_addr, Bool.false_eq_true, if_false]
  simp only [load_num b n W hb, direct_num, store_num ta n old W ht hf, Sem.run_bind, Result.andThen, if_true, Sem.run_pure]
end Go.Proofs.YtoonaekmfpdekaaDoor

/-
  Plain data and plain functions: what the program computes, said of plain data. Imports nothing of a translation.
-/
import Derived.WalkKit
import Derived.Lib.Bytealg
namespace Go.Proofs.YtcbjoogkodcgkaaDoor

/-- api.Value. -/
structure V where
  k : Int
  i : Int
  t : ByteArray
/-- api.Row. -/
structure R where
  w : Int
  a : V
  b : V
  c : V
  d : V
/-- api.Entry. -/
structure E where
  r : R
  n : Int

/-- The i-th value of a row. -/
def R.at (r : R) (i : Nat) : V := match i with | 0 => r.a | 1 => r.b | 2 => r.c | _ => r.d

def V.cells (v : V) : List Value := [.int .i64 v.k, .int .i64 v.i, .string v.t]
def R.cells (r : R) : List Value := .int .i64 r.w :: (r.a.cells ++ r.b.cells ++ r.c.cells ++ r.d.cells)
def E.cells (e : E) : List Value := e.r.cells ++ [.int .i64 e.n]

/-- As a value that is handed over. -/
abbrev V.val (v : V) : Value := .agg #[.int .i64 v.k, .int .i64 v.i, .string v.t]
abbrev R.val (r : R) : Value := .agg #[.int .i64 r.w, .int .i64 r.a.k, .int .i64 r.a.i, .string r.a.t, .int .i64 r.b.k, .int .i64 r.b.i, .string r.b.t, .int .i64 r.c.k, .int .i64 r.c.i, .string r.c.t, .int .i64 r.d.k, .int .i64 r.d.i, .string r.d.t]

/-- cmp.Compare of integers. -/
def cmpI (a b : Int) : Int := if a < b then -1 else if b < a then 1 else 0

end Go.Proofs.YtcbjoogkodcgkaaDoor

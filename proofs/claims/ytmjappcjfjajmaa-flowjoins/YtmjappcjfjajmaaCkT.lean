/- Functions and programs as data (PmA's types alone, for seats that don't reach package image). -/
import Derived.Test.YtmjappcjfjajmaaInF
namespace Go.Proofs.Ytmjappcjfjajmaa
open Go.RowKit

/-- A function, a program. -/
structure Fn where
  args : List Int
  res : Int
  slots : Int
  objs : List Int
  code : List Ins
structure Pg where
  glob : List Int
  shapes : List (List Int)
  funcs : List Fn
/-- A function and the values of its lists. -/
structure FnV where
  f : Fn
  v0 : Value
  v3 : Value
  v4 : Value
def FnV.cs (q : FnV) : List Value := [q.v0, .int .i64 q.f.res, .int .i64 q.f.slots, q.v3, q.v4]
theorem maxlen_of {n : Nat} (h : n ≤ 3000) : n ≤ maxLen := by unfold maxLen; omega

end Go.Proofs.Ytmjappcjfjajmaa

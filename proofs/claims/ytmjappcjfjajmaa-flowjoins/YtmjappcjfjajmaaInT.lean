/- The table of what A, B and C are to each op. -/
import Derived.Test.YtmjappcjfjajmaaWdA
import Derived.Test.YtmjappcjfjajmaaFs
namespace Go.Proofs.Ytmjappcjfjajmaa
open Go.RowKit

/-- What A, B and C are to each op: 0 not used, 1 no slot, 2 read, 3 set, 4 the first of the arguments. -/
def roT : List (Int × Int × Int) := [(0, 0, 0), (3, 1, 0), (3, 2, 0), (3, 2, 2), (3, 2, 2), (3, 2, 2), (3, 2, 2), (3, 2, 2), (3, 2, 2), (0, 1, 0), (2, 1, 0), (3, 1, 0), (3, 2, 0), (3, 1, 0), (3, 2, 1), (2, 1, 2), (3, 1, 0), (1, 2, 0), (3, 1, 0), (3, 2, 1), (2, 1, 2),
  (3, 1, 4), (1, 0, 0), (0, 1, 4), (0, 1, 4), (2, 2, 0), (3, 3, 0), (0, 0, 0), (0, 0, 0), (2, 0, 0)]
def kn (op : Int) : Bool := decide (0 ≤ op) && decide (op < 30)
def ro (op : Int) : Int × Int × Int := if kn op = true then roT.getD op.toNat (0, 0, 0) else (0, 0, 0)
def roV (op : Int) : Value := .agg #[.int .i64 (ro op).1, .int .i64 (ro op).2.1, .int .i64 (ro op).2.2]

theorem kn_cases {op : Int} (h : kn op = true) : op = 0 ∨ op = 1 ∨ op = 2 ∨ op = 3 ∨ op = 4 ∨ op = 5 ∨ op = 6 ∨ op = 7 ∨ op = 8 ∨ op = 9 ∨ op = 10 ∨ op = 11 ∨ op = 12 ∨ op = 13 ∨ op = 14 ∨ op = 15 ∨ op = 16 ∨ op = 17 ∨ op = 18 ∨ op = 19 ∨ op = 20 ∨ op = 21 ∨ op = 22 ∨ op = 23 ∨ op = 24 ∨ op = 25 ∨ op = 26 ∨ op = 27 ∨ op = 28 ∨ op = 29 := by
  unfold kn at h
  simp only [Bool.and_eq_true, decide_eq_true_eq] at h
  omega
theorem kn_ne {op : Int} (h : kn op = false) (k : Int) (h0 : 0 ≤ k) (h1 : k < 30) : (op == k) = false := by
  simp only [beq_eq_false_iff_ne]
  intro e
  subst e
  unfold kn at h
  rw [decide_eq_true h0, decide_eq_true h1] at h
  cases h
theorem ro_none {op : Int} (h : kn op = false) : ro op = (0, 0, 0) := by unfold ro; rw [h]; rfl

end Go.Proofs.Ytmjappcjfjajmaa

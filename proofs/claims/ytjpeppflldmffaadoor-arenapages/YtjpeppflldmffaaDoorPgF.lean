/- The walk of the law PageFull. -/
import Derived.Test.YtjpeppflldmffaaDoorPgE
namespace Go.Proofs.YtjpeppflldmffaaDoor
open Go.RowKit

/-- The first i slots. -/
def firsts (i x : Nat) : Bool := decide (x < i)
theorem firsts_zero : firsts 0 = fun _ => false := by funext x; simp [firsts]
theorem firsts_up (i : Nat) : up (firsts i) i true = firsts (i + 1) := by
  funext x
  by_cases e : x = i
  · subst e; simp [up, firsts]
  · have : decide (x < i + 1) = decide (x < i) := by rw [decide_eq_decide]; omega
    simp [up, e, firsts, this]

theorem rem_ok (k : Int) (n : Nat) (h : 2 ≤ n) (h32 : n ≤ 32) : ∃ kk : Nat, kk < n ∧ (wrap64 (k.tmod (n : Int) + (n : Int))).tmod (n : Int) = (kk : Int) := by
  have h1 := Int.tmod_lt_of_pos k (b := (n : Int)) (by omega)
  have h2 := Int.lt_tmod_of_pos k (b := (n : Int)) (by omega)
  generalize k.tmod (n : Int) = r at *
  obtain ⟨x, hx⟩ := Int.eq_ofNat_of_zero_le (a := r + (n : Int)) (by omega)
  rw [hx, wrap64_nat x (by omega)]
  refine ⟨x % n, Nat.mod_lt _ (by omega), ?_⟩
  rw [Int.tmod_eq_emod_of_nonneg (by omega)]
  omega

theorem Tab.bel {w w' : World} (h : Tab w) (hb : Below w.heap.size w w') : Tab w' := h.below hb h.size

end Go.Proofs.YtjpeppflldmffaaDoor

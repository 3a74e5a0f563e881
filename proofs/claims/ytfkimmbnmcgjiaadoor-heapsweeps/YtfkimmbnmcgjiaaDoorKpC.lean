/- The walk of besombook's markInts. -/
import Derived.Test.YtfkimmbnmcgjiaaDoorFr
namespace Go.Proofs.YtfkimmbnmcgjiaaDoor
open Go.RowKit

theorem own_cap {w : World} {base g n cap : Nat} {e : TypeId} {m : Nat} {xs : List Value} (h : w.ownsRow base e 1 (.slice (some ⟨g, 0, none⟩) n cap) m xs) : n ≤ cap ∧ cap ≤ maxLen ∧ m = n := by
  rcases h.2 with ⟨h', _⟩ | ⟨g', cap', cur, h', hb, hg, hnc, hcm, hcs, htake⟩
  · simp at h'
  · simp at h'
    obtain ⟨_, rfl, rfl⟩ := h'
    exact ⟨hnc, hcm, rfl⟩

/-- The marks of the list i, from place f on. -/
def mk1 (i k : Nat) : Int := -1000000 * (i : Int) - (k : Int) - 7
def mks (i f : Nat) : Nat → List Int
  | 0 => []
  | n + 1 => mks i f n ++ [mk1 i (f + n)]
theorem mks_len (i f : Nat) : ∀ n, (mks i f n).length = n
  | 0 => rfl
  | n + 1 => by unfold mks; rw [List.length_append, mks_len i f n]; rfl
theorem mks_add (i f n : Nat) : ∀ m, mks i f (n + m) = mks i f n ++ mks i (f + n) m
  | 0 => by simp [mks]
  | m + 1 => by
    show mks i f (n + m) ++ [mk1 i (f + (n + m))] = mks i f n ++ (mks i (f + n) m ++ [mk1 i (f + n + m)])
    rw [mks_add i f n m, List.append_assoc, Nat.add_assoc]

end Go.Proofs.YtfkimmbnmcgjiaaDoor

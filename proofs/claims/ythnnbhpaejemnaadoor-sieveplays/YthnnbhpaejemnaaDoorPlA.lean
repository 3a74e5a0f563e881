/- SievePlays: plain mathematics, and what stands in memory from round to round. -/
import Derived.Test.YthnnbhpaejemnaaDoorBkJ
import Derived.Test.YthnnbhpaejemnaaDoorSvS
import Derived.Test.YthnnbhpaejemnaaDoorSvN
namespace Go.Proofs.YthnnbhpaejemnaaDoor
open Go.RowKit

/-- What Put (true) or Cut (false) of one number, of a list, does; and how many it counts. -/
def sg1 (b : Bool) (n : Nat) (S : Nat → Bool) (k : Int) : Nat → Bool := if b then put1 n S k else cut1 n S k
def sgC1 (b : Bool) (n : Nat) (S : Nat → Bool) (k : Int) : Nat := if b then fresh1 n S k else gone1 n S k
def sgS (b : Bool) (n : Nat) (S : Nat → Bool) (l : List Int) : Nat → Bool := if b then putS n S l else cutS n S l
def sgC (b : Bool) (n : Nat) (S : Nat → Bool) (l : List Int) : Nat := if b then putC n S l else cutC n S l
theorem sgS_nil (b : Bool) (n : Nat) (S : Nat → Bool) : sgS b n S [] = S := by cases b <;> rfl
theorem sgC_nil (b : Bool) (n : Nat) (S : Nat → Bool) : sgC b n S [] = 0 := by cases b <;> rfl
theorem sgS_snoc (b : Bool) (n : Nat) (S : Nat → Bool) (l : List Int) (k : Int) : sgS b n S (l ++ [k]) = sg1 b n (sgS b n S l) k := by
  cases b
  · exact cutS_snoc n l S k
  · exact putS_snoc n l S k
theorem sgC_snoc (b : Bool) (n : Nat) (S : Nat → Bool) (l : List Int) (k : Int) : sgC b n S (l ++ [k]) = sgC b n S l + sgC1 b n (sgS b n S l) k := by
  cases b
  · exact cutC_snoc n l S k
  · exact putC_snoc n l S k
theorem sgC_le (b : Bool) (n : Nat) (S : Nat → Bool) (l : List Int) : sgC b n S l ≤ l.length := by
  cases b
  · exact cutC_le n l S
  · exact putC_le n l S
theorem sg1_out (b : Bool) (n : Nat) (S : Nat → Bool) (k : Int) (h : mayB n k = false) : sg1 b n S k = S ∧ sgC1 b n S k = 0 := by
  cases b
  · exact ⟨by simp [sg1, cut1, hasB, h], by simp [sgC1, gone1, hasB, h]⟩
  · exact ⟨by simp [sg1, put1, h], by simp [sgC1, fresh1, h]⟩
theorem sg1_same (b : Bool) (n : Nat) (S : Nat → Bool) (x : Nat) (hx : x < n) (h : S x = b) : sg1 b n S (x : Int) = S ∧ sgC1 b n S (x : Int) = 0 := by
  have hm := may_true n x hx
  cases b
  · exact ⟨by simp [sg1, cut1, hasB, h], by simp [sgC1, gone1, hasB, h]⟩
  · refine ⟨?_, by simp [sgC1, fresh1, h]⟩
    funext y
    by_cases e : y = x <;> simp [sg1, put1, hm, up, e, h]
theorem sg1_new (b : Bool) (n : Nat) (S : Nat → Bool) (x : Nat) (hx : x < n) (h : S x = !b) : sg1 b n S (x : Int) = up S x b ∧ sgC1 b n S (x : Int) = 1 := by
  have hm := may_true n x hx
  cases b
  · have h' : S x = true := by simpa using h
    exact ⟨by simp [sg1, cut1, hasB, hm, h'], by simp [sgC1, gone1, hasB, hm, h']⟩
  · have h' : S x = false := by simpa using h
    exact ⟨by simp [sg1, put1, hm], by simp [sgC1, fresh1, hm, h']⟩

/-- The next one, one step further. -/
theorem nx_step (T : Nat → Bool) (t : Nat) (fr : Int) : nx T (t + 1) fr = if nx T t fr < 0 ∧ fr ≤ (t : Int) ∧ T t = true then (t : Int) else nx T t fr := by
  have h := nx_neg T (t + 1) fr
  have h' := nx_neg T t fr
  rw [← h, ← h']
  have hf : fr ≤ (t : Int) ↔ fr.toNat ≤ t := by omega
  generalize fr.toNat = m at *
  rcases nx_cases T t m with ⟨h1, h2⟩ | ⟨z, h1, h2, h3, h4, h5⟩
  · rw [h1]
    by_cases hc : fr ≤ (t : Int) ∧ T t = true
    · rw [if_pos ⟨by decide, hc⟩]
      exact nx_found T (t + 1) m t (hf.1 hc.1) (by omega) hc.2 h2
    · rw [if_neg (fun x => hc x.2)]
      refine nx_none T (t + 1) m fun y g1 g2 => ?_
      by_cases e : y = t
      · subst e
        cases hT : T y
        · rfl
        · exact absurd ⟨hf.2 g1, hT⟩ hc
      · exact h2 y g1 (by omega)
  · rw [h1, if_neg (by omega)]
    exact nx_found T (t + 1) m z h2 (by omega) h4 h5

/-- The word k as far as the numbers below t go. -/
def wordUp (S : Nat → Bool) (k : Int) (t : Nat) : Nat := if 0 ≤ k then wd (fun x => S x && decide (x < t)) k.toNat else 0
theorem wordUp_lt (S : Nat → Bool) (k : Int) (t : Nat) : wordUp S k t < 18446744073709551616 := by
  unfold wordUp; split
  · exact wd_lt _ _
  · decide
theorem wordUp_zero (S : Nat → Bool) (k : Int) : wordUp S k 0 = 0 := by
  unfold wordUp; split
  · have : (fun x => S x && decide (x < 0)) = fun _ => false := by funext x; simp
    rw [this, wd_zero]
  · rfl
theorem wordUp_end (S : Nat → Bool) (k : Int) (n : Nat) (h : ∀ x, n ≤ x → S x = false) : wordUp S k n = wordF S k := by
  unfold wordUp wordF
  have : (fun x => S x && decide (x < n)) = S := by
    funext x
    by_cases hx : x < n
    · simp [hx]
    · rw [h x (by omega)]; rfl
  rw [this]
theorem wordUp_same (S : Nat → Bool) (k : Int) (t : Nat) (h : ¬ (S t = true ∧ 0 ≤ k ∧ ((t / 64 : Nat) : Int) = k)) : wordUp S k (t + 1) = wordUp S k t := by
  unfold wordUp
  by_cases hk : 0 ≤ k
  · rw [if_pos hk, if_pos hk]
    apply Nat.eq_of_testBit_eq
    intro i
    rw [wd_bit, wd_bit]
    by_cases hi : i < 64
    · by_cases e : 64 * k.toNat + i = t
      · have hS : S t = false := by
          cases hS : S t
          · rfl
          · exact absurd ⟨hS, hk, by omega⟩ h
        rw [e, hS]
        simp
      · have e2 : decide (64 * k.toNat + i < t + 1) = decide (64 * k.toNat + i < t) := by rw [decide_eq_decide]; omega
        rw [e2]
    · simp [hi]
  · rw [if_neg hk, if_neg hk]
theorem wordUp_bit (S : Nat → Bool) (t : Nat) (h : S t = true) : wordUp S ((t / 64 : Nat) : Int) (t + 1) = wordUp S ((t / 64 : Nat) : Int) t ||| 2 ^ (t % 64) := by
  unfold wordUp
  rw [if_pos (by omega), if_pos (by omega), Int.toNat_natCast]
  have := wd_put (fun x => S x && decide (x < t)) t
  rw [← this]
  congr 1
  funext x
  by_cases e : x = t
  · subst e; simp [up, h]
  · have e2 : decide (x < t + 1) = decide (x < t) := by rw [decide_eq_decide]; omega
    simp [up, e, e2]

end Go.Proofs.YthnnbhpaejemnaaDoor

/- Plain mathematics: what is in a set when a list was put in or taken out, and how many. -/
import Derived.Test.YthnnbhpaejemnaaDoorSvL
namespace Go.Proofs.YthnnbhpaejemnaaDoor

/-- Does x stand in the list? -/
def inL (l : List Int) (x : Nat) : Bool := l.any fun k => k == (x : Int)

theorem may_spec (n : Nat) (k : Int) : mayB n k = true ↔ 0 ≤ k ∧ k < (n : Int) := by simp [mayB]

theorem put1_at (n : Nat) (S : Nat → Bool) (k : Int) (x : Nat) : put1 n S k x = (S x || (decide (x < n) && (k == (x : Int)))) := by
  unfold put1
  by_cases hm : mayB n k = true
  · have h := (may_spec n k).1 hm
    rw [if_pos hm]
    unfold up
    by_cases e : x = k.toNat
    · have h1 : x < n := by omega
      have h2 : k = (x : Int) := by omega
      rw [if_pos e]
      simp [h1, h2]
    · have h2 : ¬ k = (x : Int) := by omega
      rw [if_neg e]
      simp [h2]
  · rw [if_neg hm]
    have h : ¬ (0 ≤ k ∧ k < (n : Int)) := fun h => hm ((may_spec n k).2 h)
    by_cases h1 : x < n
    · have h2 : ¬ k = (x : Int) := by omega
      simp [h2]
    · simp [h1]

theorem putS_at (n : Nat) (x : Nat) : ∀ (l : List Int) (S : Nat → Bool), putS n S l x = (S x || (decide (x < n) && inL l x))
  | [], S => by simp [putS, inL]
  | k :: l, S => by
    show putS n (put1 n S k) l x = _
    rw [putS_at n x l (put1 n S k), put1_at]
    show _ = (S x || (decide (x < n) && ((k == (x : Int)) || inL l x)))
    cases S x <;> cases decide (x < n) <;> cases (k == (x : Int)) <;> rfl

theorem cut1_at (n : Nat) (S : Nat → Bool) (k : Int) (x : Nat) : cut1 n S k x = (S x && !(decide (x < n) && (k == (x : Int)))) := by
  unfold cut1
  by_cases hh : hasB n S k = true
  · rw [if_pos hh]
    have hh' := hh
    simp only [hasB, Bool.and_eq_true] at hh'
    have h := (may_spec n k).1 hh'.1
    unfold up
    by_cases e : x = k.toNat
    · have h1 : x < n := by omega
      have h2 : k = (x : Int) := by omega
      rw [if_pos e]
      simp [h1, h2]
    · have h2 : ¬ k = (x : Int) := by omega
      rw [if_neg e]
      simp [h2]
  · rw [if_neg hh]
    by_cases h1 : x < n
    · by_cases h2 : k = (x : Int)
      · have hx : S x = false := by
          cases hS : S x
          · rfl
          · exfalso
            apply hh
            have hm : mayB n k = true := (may_spec n k).2 (by omega)
            subst h2
            simp [hasB, hm, hS]
        simp [hx]
      · simp [h2]
    · simp [h1]

theorem cutS_at (n : Nat) (x : Nat) : ∀ (l : List Int) (S : Nat → Bool), cutS n S l x = (S x && !(decide (x < n) && inL l x))
  | [], S => by simp [cutS, inL]
  | k :: l, S => by
    show cutS n (cut1 n S k) l x = _
    rw [cutS_at n x l (cut1 n S k), cut1_at]
    show _ = (S x && !(decide (x < n) && ((k == (x : Int)) || inL l x)))
    cases S x <;> cases decide (x < n) <;> cases (k == (x : Int)) <;> rfl

theorem cnt_put (S : Nat → Bool) (k : Nat) (hS : S k = false) : ∀ n, cnt (up S k true) n = cnt S n + if k < n then 1 else 0
  | 0 => rfl
  | n + 1 => by
    show cnt (up S k true) n + (if up S k true n then 1 else 0) = cnt S n + (if S n then 1 else 0) + _
    rw [cnt_put S k hS n]
    by_cases e : n = k
    · subst e
      rw [hS]
      simp [up]
    · have h1 : up S k true n = S n := by simp [up, e]
      rw [h1]
      by_cases h2 : k < n
      · have h3 : k < n + 1 := by omega
        rw [if_pos h2, if_pos h3]
        omega
      · have h3 : ¬ k < n + 1 := by omega
        rw [if_neg h2, if_neg h3]
        omega
theorem cnt_cut (S : Nat → Bool) (k : Nat) (hS : S k = true) : ∀ n, cnt (up S k false) n + (if k < n then 1 else 0) = cnt S n
  | 0 => rfl
  | n + 1 => by
    show cnt (up S k false) n + (if up S k false n then 1 else 0) + _ = cnt S n + (if S n then 1 else 0)
    rw [← cnt_cut S k hS n]
    by_cases e : n = k
    · subst e
      rw [hS]
      simp [up]
    · have h1 : up S k false n = S n := by simp [up, e]
      rw [h1]
      by_cases h2 : k < n
      · have h3 : k < n + 1 := by omega
        rw [if_pos h2, if_pos h3]
        omega
      · have h3 : ¬ k < n + 1 := by omega
        rw [if_neg h2, if_neg h3]
        omega

theorem put_count (n : Nat) : ∀ (l : List Int) (S : Nat → Bool), cnt (putS n S l) n = cnt S n + putC n S l
  | [], _ => rfl
  | k :: l, S => by
    show cnt (putS n (put1 n S k) l) n = cnt S n + (fresh1 n S k + putC n (put1 n S k) l)
    rw [put_count n l (put1 n S k)]
    have h : cnt (put1 n S k) n = cnt S n + fresh1 n S k := by
      unfold put1 fresh1
      by_cases hm : mayB n k = true
      · have hk := (may_spec n k).1 hm
        rw [if_pos hm]
        cases hS : S k.toNat
        · rw [cnt_put S _ hS n, if_pos (by omega)]
          simp [hm]
        · have e : up S k.toNat true = S := by
            funext x
            by_cases e : x = k.toNat <;> simp [up, e, hS]
          rw [e]
          simp
      · rw [if_neg hm]
        simp [hm]
    omega
theorem cut_count (n : Nat) : ∀ (l : List Int) (S : Nat → Bool), cnt (cutS n S l) n + cutC n S l = cnt S n
  | [], _ => rfl
  | k :: l, S => by
    show cnt (cutS n (cut1 n S k) l) n + (gone1 n S k + cutC n (cut1 n S k) l) = cnt S n
    have h0 := cut_count n l (cut1 n S k)
    have h : cnt (cut1 n S k) n + gone1 n S k = cnt S n := by
      unfold cut1 gone1
      by_cases hh : hasB n S k = true
      · have hh' := hh
        simp only [hasB, Bool.and_eq_true] at hh'
        have hk := (may_spec n k).1 hh'.1
        rw [if_pos hh, if_pos hh]
        have := cnt_cut S k.toNat hh'.2 n
        rw [if_pos (by omega)] at this
        exact this
      · rw [if_neg hh, if_neg hh]
        rfl
    omega

theorem cnt_empty (n : Nat) : cnt (fun _ => false) n = 0 := cnt_none _ n fun _ _ => rfl

/-- Put in twice, taken out twice. -/
theorem twice (n : Nat) (l : List Int) : putS n (putS n (fun _ => false) l) l = putS n (fun _ => false) l ∧ putC n (putS n (fun _ => false) l) l = 0 ∧
    cnt (putS n (fun _ => false) l) n = putC n (fun _ => false) l ∧ cutS n (putS n (fun _ => false) l) l = (fun _ => false) ∧
    cutC n (putS n (fun _ => false) l) l = putC n (fun _ => false) l ∧ cutS n (fun _ => false) l = (fun _ => false) ∧ cutC n (fun _ => false) l = 0 := by
  have e0 := cnt_empty n
  have e1 := put_count n l (fun _ => false)
  have a1 : putS n (putS n (fun _ => false) l) l = putS n (fun _ => false) l := by
    funext x
    rw [putS_at, putS_at]
    simp
  have e2 := put_count n l (putS n (fun _ => false) l)
  rw [a1] at e2
  have a2 : cutS n (putS n (fun _ => false) l) l = (fun _ => false) := by
    funext x
    rw [cutS_at, putS_at]
    simp
  have e3 := cut_count n l (putS n (fun _ => false) l)
  rw [a2] at e3
  have a3 : cutS n (fun _ => false) l = (fun _ => false) := by
    funext x
    rw [cutS_at]
    simp
  have e4 := cut_count n l (fun _ => false)
  rw [a3] at e4
  exact ⟨a1, by omega, by omega, a2, by omega, a3, by omega⟩

end Go.Proofs.YthnnbhpaejemnaaDoor

/- Plain mathematics of sets of small numbers as words of 64 bits: no Go text, no model. -/
namespace Go.Proofs.YtfkimmbnmcgjiaaDoor

/-- The number whose bit i, below n, is f i. -/
def ofB (f : Nat → Bool) : Nat → Nat
  | 0 => 0
  | n + 1 => ofB f n + if f n then 2 ^ n else 0

theorem ofB_lt (f : Nat → Bool) : ∀ n, ofB f n < 2 ^ n
  | 0 => by simp [ofB]
  | n + 1 => by
    have h := ofB_lt f n
    have e : 2 ^ (n + 1) = 2 ^ n * 2 := Nat.pow_succ 2 n
    unfold ofB
    split <;> omega

theorem ofB_bit (f : Nat → Bool) : ∀ n i, (ofB f n).testBit i = (decide (i < n) && f i)
  | 0, i => by simp [ofB]
  | n + 1, i => by
    have h := ofB_bit f n i
    have hl := ofB_lt f n
    unfold ofB
    by_cases hf : f n = true
    · rw [if_pos hf]
      by_cases hi : i = n
      · subst hi
        rw [Nat.add_comm, Nat.testBit_two_pow_add_eq, h]
        simp [hf]
      · rw [Nat.add_comm]
        by_cases hlt : i < n
        · rw [Nat.testBit_two_pow_add_gt hlt, h]
          have : i < n + 1 := by omega
          simp [hlt, this]
        · have hge : n + 1 ≤ i := by omega
          have hlt2 : 2 ^ n + ofB f n < 2 ^ i := by
            have e : 2 ^ (n + 1) = 2 ^ n * 2 := Nat.pow_succ 2 n
            have : 2 ^ (n + 1) ≤ 2 ^ i := Nat.pow_le_pow_right (by decide) hge
            omega
          rw [Nat.testBit_lt_two_pow hlt2]
          have : ¬ i < n + 1 := by omega
          simp [this]
    · rw [if_neg hf, Nat.add_zero, h]
      by_cases hi : i = n
      · subst hi; simp at hf; simp [hf]
      · have : (i < n) = (i < n + 1) := by simp; omega
        simp [this]

/-- The word j of a set. -/
def wd (S : Nat → Bool) (j : Nat) : Nat := ofB (fun i => S (64 * j + i)) 64
theorem wd_lt (S : Nat → Bool) (j : Nat) : wd S j < 18446744073709551616 := ofB_lt _ 64
theorem wd_bit (S : Nat → Bool) (j i : Nat) : (wd S j).testBit i = (decide (i < 64) && S (64 * j + i)) := ofB_bit _ 64 i

/-- The set with k put in or taken out. -/
def up (S : Nat → Bool) (k : Nat) (v : Bool) : Nat → Bool := fun x => if x = k then v else S x

theorem div_of (k j i : Nat) (hi : i < 64) : 64 * j + i = k ↔ j = k / 64 ∧ i = k % 64 := by omega

theorem wd_put (S : Nat → Bool) (k : Nat) : wd (up S k true) (k / 64) = wd S (k / 64) ||| 2 ^ (k % 64) := by
  apply Nat.eq_of_testBit_eq
  intro i
  rw [Nat.testBit_or, wd_bit, wd_bit, Nat.testBit_two_pow]
  by_cases hi : i < 64
  · by_cases h : i = k % 64
    · have : 64 * (k / 64) + i = k := by omega
      have h2 : k % 64 = i := by omega
      simp [up, this, h2, hi]
    · have h1 : ¬ 64 * (k / 64) + i = k := by omega
      have h2 : ¬ k % 64 = i := by omega
      simp [up, h1, h2, hi]
  · have h2 : ¬ k % 64 = i := by omega
    simp [hi, h2]

theorem wd_cut (S : Nat → Bool) (k : Nat) : wd (up S k false) (k / 64) = wd S (k / 64) &&& (18446744073709551615 - 2 ^ (k % 64)) := by
  have hm : k % 64 < 64 := Nat.mod_lt _ (by decide)
  have hp : 2 ^ (k % 64) < 2 ^ 64 := Nat.pow_lt_pow_of_lt (by decide) hm
  have e : 18446744073709551615 - 2 ^ (k % 64) = 2 ^ 64 - (2 ^ (k % 64) + 1) := by omega
  apply Nat.eq_of_testBit_eq
  intro i
  rw [e, Nat.testBit_and, wd_bit, wd_bit, Nat.testBit_two_pow_sub_succ hp, Nat.testBit_two_pow]
  by_cases hi : i < 64
  · by_cases h : i = k % 64
    · have : 64 * (k / 64) + i = k := by omega
      have h2 : k % 64 = i := by omega
      simp [up, this, h2]
    · have h1 : ¬ 64 * (k / 64) + i = k := by omega
      have h2 : ¬ k % 64 = i := by omega
      simp [up, h1, h2, hi]
  · simp [hi]

theorem wd_other (S : Nat → Bool) (k j : Nat) (v : Bool) (h : j ≠ k / 64) : wd (up S k v) j = wd S j := by
  apply Nat.eq_of_testBit_eq
  intro i
  rw [wd_bit, wd_bit]
  by_cases hi : i < 64
  · have h1 : ¬ 64 * j + i = k := by omega
    simp [up, h1]
  · simp [hi]

theorem wd_has (S : Nat → Bool) (k : Nat) : (wd S (k / 64) &&& 2 ^ (k % 64) = 0) ↔ S k = false := by
  have hm : k % 64 < 64 := Nat.mod_lt _ (by decide)
  have hb : (wd S (k / 64)).testBit (k % 64) = S k := by
    rw [wd_bit]
    have : 64 * (k / 64) + k % 64 = k := by omega
    simp [hm, this]
  constructor
  · intro h
    have h1 : (wd S (k / 64) &&& 2 ^ (k % 64)).testBit (k % 64) = false := by rw [h]; simp
    rw [Nat.testBit_and, hb] at h1
    simpa using h1
  · intro h
    apply Nat.eq_of_testBit_eq
    intro i
    rw [Nat.testBit_and, Nat.testBit_two_pow]
    by_cases hi : k % 64 = i
    · rw [← hi, hb, h]; simp
    · simp [hi]

theorem wd_zero (j : Nat) : wd (fun _ => false) j = 0 := by
  apply Nat.eq_of_testBit_eq
  intro i
  rw [wd_bit]
  simp

/-- How many of the first n are in f. -/
def cnt (f : Nat → Bool) : Nat → Nat
  | 0 => 0
  | n + 1 => cnt f n + if f n then 1 else 0
theorem cnt_le (f : Nat → Bool) : ∀ n, cnt f n ≤ n
  | 0 => Nat.le_refl _
  | n + 1 => by have := cnt_le f n; unfold cnt; split <;> omega
theorem cnt_congr (f g : Nat → Bool) : ∀ n, (∀ i, i < n → f i = g i) → cnt f n = cnt g n
  | 0, _ => rfl
  | n + 1, h => by unfold cnt; rw [cnt_congr f g n (fun i hi => h i (by omega)), h n (by omega)]
theorem cnt_add (f : Nat → Bool) (m : Nat) : ∀ n, cnt f (m + n) = cnt f m + cnt (fun i => f (m + i)) n
  | 0 => rfl
  | n + 1 => by
    show cnt f (m + n) + (if f (m + n) then 1 else 0) = cnt f m + (cnt (fun i => f (m + i)) n + if f (m + n) then 1 else 0)
    rw [cnt_add f m n]; omega
theorem cnt_wd (S : Nat → Bool) (j : Nat) : cnt (wd S j).testBit 64 = cnt (fun i => S (64 * j + i)) 64 :=
  cnt_congr _ _ 64 fun i hi => by rw [wd_bit]; simp [hi]
theorem cnt_word (S : Nat → Bool) (j : Nat) : cnt S (64 * (j + 1)) = cnt S (64 * j) + cnt (wd S j).testBit 64 := by
  rw [cnt_wd, ← cnt_add]; rfl
theorem cnt_none (f : Nat → Bool) : ∀ n, (∀ i, i < n → f i = false) → cnt f n = 0
  | 0, _ => rfl
  | n + 1, h => by unfold cnt; rw [cnt_none f n (fun i hi => h i (by omega)), h n (by omega)]; rfl
theorem cnt_past (S : Nat → Bool) (n m : Nat) (hn : n ≤ m) (h : ∀ x, n ≤ x → S x = false) : cnt S m = cnt S n := by
  obtain ⟨d, rfl⟩ := Nat.le.dest hn
  rw [cnt_add, cnt_none (fun i => S (n + i)) d (fun i _ => h _ (by omega))]
  rfl

end Go.Proofs.YtfkimmbnmcgjiaaDoor

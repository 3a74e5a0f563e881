
/- Plain mathematics of sets of small numbers as words of 64 bits: no Go text, no model. -/
namespace Go.Proofs.YtfkimmbnmcgjiaaDoor

/-- The number whose bit i, below n, is f i. -/
def ofB (f : Nat → Bool) : Nat → Nat
  | 0 => 0
  | n + 1 => ofB f n + if f n then 2 ^ n else 0

theorem ofB_lt (f : Nat → Bool) : ∀ n, ofB f n < 2 ^ n
  | 0 => by simp [ofB]
  | n + 1 => by
    have h := ofB_lt f n
    have e : 2 ^ (n + 1) = 2 ^ n * 2 := Nat.pow_succ 2 n
    unfold ofB
    split <;> omega

theorem ofB_bit (f : Nat → Bool) : ∀ n i, (ofB f n).testBit i = (decide (i < n) && f i)
  | 0, i => by simp [ofB]
  | n + 1, i => by
    have h := ofB_bit f n i
    have hl := ofB_lt f n
    unfold ofB
    by_cases hf : f n = true
    · rw [if_pos hf]
      by_cases hi : i = n
      · subst hi
        rw [Nat.add_comm, Nat.testBit_two_pow_add_eq, h]
        simp [hf]
      · rw [Nat.add_comm]
        by_cases hlt : i < n
        · rw [Nat.testBit_two_pow_add_gt hlt, h]
          have : i < n + 1 := by omega
          simp [hlt, this]
        · have hge : n + 1 ≤ i := by omega
          have hlt2 : 2 ^ n + ofB f n < 2 ^ i := by
            have e : 2 ^ (n + 1) = 2 ^ n * 2 := Nat.pow_succ 2 n
            have : 2 ^ (n + 1) ≤ 2 ^ i := Nat.pow_le_pow_right (by decide) hge
            omega
          rw [Nat.testBit_lt_two_pow hlt2]
          have : ¬ i < n + 1 := by omega
          simp [this]
    · rw [if_neg hf, Nat.add_zero, h]
      by_cases hi : i = n
      · subst hi; simp at hf; simp [hf]
      · have : (i < n) = (i < n + 1) := by simp; omega
        simp [this]

/-- The word j of a set. -/
def wd (S : Nat → Bool) (j : Nat) : Nat := ofB (fun i => S (64 * j + i)) 64
theorem wd_lt (S : Nat → Bool) (j : Nat) : wd S j < 18446744073709551616 := ofB_lt _ 64
theorem wd_bit (S : Nat → Bool) (j i : Nat) : (wd S j).testBit i = (decide (i < 64) && S (64 * j + i)) := ofB_bit _ 64 i

/-- The set with k put in or taken out. -/
def up (S : Nat → Bool) (k : Nat) (v : Bool) : Nat → Bool := fun x => if x = k then v else S x

theorem div_of (k j i : Nat) (hi : i < 64) : 64 * j + i = k ↔ j = k / 64 ∧ i = k % 64 := by omega

theorem wd_put (S : Nat → Bool) (k : Nat) : wd (up S k true) (k / 64) = wd S (k / 64) ||| 2 ^ (k % 64) := by
  apply Nat.eq_of_testBit_eq
  intro i
  rw [Nat.testBit_or, wd_bit, wd_bit, Nat.testBit_two_pow]
  by_cases hi : i < 64
  · by_cases h : i = k % 64
    · have : 64 * (k / 64) + i = k := by omega
      have h2 : k % 64 = i := by omega
      simp [up, this, h2, hi]
    · have h1 : ¬ 64 * (k / 64) + i = k := by omega
      have h2 : ¬ k % 64 = i := by omega
      simp [up, h1, h2, hi]
  · have h2 : ¬ k % 64 = i := by omega
    simp [hi, h2]

theorem wd_cut (S : Nat → Bool) (k : Nat) : wd (up S k false) (k / 64) = wd S (k / 64) &&& (18446744073709551615 - 2 ^ (k % 64)) := by
  have hm : k % 64 < 64 := Nat.mod_lt _ (by decide)
  have hp : 2 ^ (k % 64) < 2 ^ 64 := Nat.pow_lt_pow_of_lt (by decide) hm
  have e : 18446744073709551615 - 2 ^ (k % 64) = 2 ^ 64 - (2 ^ (k % 64) + 1) := by omega
  apply Nat.eq_of_testBit_eq
  intro i
  rw [e, Nat.testBit_and, wd_bit, wd_bit, Nat.testBit_two_pow_sub_succ hp, Nat.testBit_two_pow]
  by_cases hi : i < 64
  · by_cases h : i = k % 64
    · have : 64 * (k / 64) + i = k := by omega
      have h2 : k % 64 = i := by omega
      simp [up, this, h2]
    · have h1 : ¬ 64 * (k / 64) + i = k := by omega
      have h2 : ¬ k % 64 = i := by omega
      simp [up, h1, h2, hi]
  · simp [hi]

theorem wd_other (S : Nat → Bool) (k j : Nat) (v : Bool) (h : j ≠ k / 64) : wd (up S k v) j = wd S j := by
  apply Nat.eq_of_testBit_eq
  intro i
  rw [wd_bit, wd_bit]
  by_cases hi : i < 64
  · have h1 : ¬ 64 * j + i = k := by omega
    simp [up, h1]
  · simp [hi]

theorem wd_has (S : Nat → Bool) (k : Nat) : (wd S (k / 64) &&& 2 ^ (k % 64) = 0) ↔ S k = false := by
  have hm : k % 64 < 64 := Nat.mod_lt _ (by decide)
  have hb : (wd S (k / 64)).testBit (k % 64) = S k := by
    rw [wd_bit]
    have : 64 * (k / 64) + k % 64 = k := by omega
    simp [hm, this]
  constructor
  · intro h
    have h1 : (wd S (k / 64) &&& 2 ^ (k % 64)).testBit (k % 64) = false := by rw [h]; simp
    rw [Nat.testBit_and, hb] at h1
    simpa using h1
  · intro h
    apply Nat.eq_of_testBit_eq
    intro i
    rw [Nat.testBit_and, Nat.testBit_two_pow]
    by_cases hi : k % 64 = i
    · rw [← hi, hb, h]; simp
    · simp [hi]

theorem wd_zero (j : Nat) : wd (fun _ => false) j = 0 := by
  apply Nat.eq_of_testBit_eq
  intro i
  rw [wd_bit]
  simp

/-- How many of the first n are in f. -/
def cnt (f : Nat → Bool) : Nat → Nat
  | 0 => 0
  | n + 1 => cnt f n + if f n then 1 else 0
theorem cnt_le (f : Nat → Bool) : ∀ n, cnt f n ≤ n
  | 0 => Nat.le_refl _
  | n + 1 => by have := cnt_le f n; unfold cnt; split <;> omega
theorem cnt_congr (f g : Nat → Bool) : ∀ n, (∀ i, i < n → f i = g i) → cnt f n = cnt g n
  | 0, _ => rfl
  | n + 1, h => by unfold cnt; rw [cnt_congr f g n (fun i hi => h i (by omega)), h n (by omega)]
theorem cnt_add (f : Nat → Bool) (m : Nat) : ∀ n, cnt f (m + n) = cnt f m + cnt (fun i => f (m + i)) n
  | 0 => rfl
  | n + 1 => by
    show cnt f (m + n) + (if f (m + n) then 1 else 0) = cnt f m + (cnt (fun i => f (m + i)) n + if f (m + n) then 1 else 0)
    rw [cnt_add f m n]; omega
theorem cnt_wd (S : Nat → Bool) (j : Nat) : cnt (wd S j).testBit 64 = cnt (fun i => S (64 * j + i)) 64 :=
  cnt_congr _ _ 64 fun i hi => by rw [wd_bit]; simp [hi]
theorem cnt_word (S : Nat → Bool) (j : Nat) : cnt S (64 * (j + 1)) = cnt S (64 * j) + cnt (wd S j).testBit 64 := by
  rw [cnt_wd, ← cnt_add]; rfl
theorem cnt_none (f : Nat → Bool) : ∀ n, (∀ i, i < n → f i = false) → cnt f n = 0
  | 0, _ => rfl
  | n + 1, h => by unfold cnt; rw [cnt_none f n (fun i hi => h i (by omega)), h n (by omega)]; rfl
theorem cnt_past (S : Nat → Bool) (n m : Nat) (hn : n ≤ m) (h : ∀ x, n ≤ x → S x = false) : cnt S m = cnt S n := by
  obtain ⟨d, rfl⟩ := Nat.le.dest hn
  rw [cnt_add, cnt_none (fun i => S (n + i)) d (fun i _ => h _ (by omega))]
  rfl

end Go.Proofs.YtfkimmbnmcgjiaaDoor
/- Plain mathematics of counting the ones of 64 bits by masks and sums, byte by byte: no Go text, no model. -/
namespace Go.Proofs.YtfkimmbnmcgjiaaDoor

theorem and_split (u m M : Nat) (hm : m < 256) : u &&& (m + 256 * M) = (u % 256 &&& m) + 256 * (u / 256 &&& M) := by
  have e : ∀ a b : Nat, a < 256 → a + 256 * b = 2 ^ 8 * b + a := fun a b _ => by omega
  have hl : u % 256 &&& m < 2 ^ 8 := Nat.and_lt_two_pow _ (by omega)
  rw [e m M hm, e _ _ hl]
  apply Nat.eq_of_testBit_eq
  intro i
  rw [Nat.testBit_and, Nat.testBit_two_pow_mul_add _ (by omega : m < 2 ^ 8), Nat.testBit_two_pow_mul_add _ hl]
  by_cases hi : i < 8
  · simp only [hi, if_true]
    rw [Nat.testBit_and, show u % 256 = u % 2 ^ 8 from rfl, Nat.testBit_mod_two_pow]
    simp [hi]
  · simp only [hi, if_false]
    rw [Nat.testBit_and, show u / 256 = u / 2 ^ 8 from rfl, Nat.testBit_div_two_pow]
    have : i - 8 + 8 = i := by omega
    rw [this]

/-- A mask of one byte, n times. -/
def rep (m : Nat) : Nat → Nat
  | 0 => 0
  | n + 1 => m + 256 * rep m n
def s1 (n x : Nat) : Nat := (x / 2 &&& rep 85 n) + (x &&& rep 85 n)
def s2 (n x : Nat) : Nat := (x / 4 &&& rep 51 n) + (x &&& rep 51 n)
/-- The ones of each byte, each in its byte. -/
def onesB : Nat → Nat → Nat
  | 0, _ => 0
  | n + 1, x => cnt (x % 256).testBit 8 + 256 * onesB n (x / 256)

def b1 (b : Nat) : Nat := (b / 2 &&& 85) + (b &&& 85)
def b2 (c : Nat) : Nat := (c / 4 &&& 51) + (c &&& 51)

theorem bits1 : ∀ b, b < 256 → ∀ t, t < 2 → (b / 2 + 128 * t &&& 85) = (b / 2 &&& 85) := by decide +kernel
theorem bits2 : ∀ c, c < 256 → ∀ t, t < 4 → (c / 4 + 64 * t &&& 51) = (c / 4 &&& 51) := by decide +kernel
theorem bits3 : ∀ b, b < 256 → b1 b < 256 ∧ b2 (b1 b) ≤ 68 ∧ b2 (b1 b) % 16 ≤ 4 ∧ (b2 (b1 b) / 16 + b2 (b1 b)) % 16 = cnt b.testBit 8 := by decide +kernel

theorem s1_step (n b y : Nat) (hb : b < 256) : s1 (n + 1) (b + 256 * y) = b1 b + 256 * s1 n y := by
  unfold s1 b1
  rw [show rep 85 (n + 1) = 85 + 256 * rep 85 n from rfl, and_split _ _ _ (by decide), and_split (b + 256 * y) _ _ (by decide)]
  have e1 : (b + 256 * y) / 2 % 256 = b / 2 + 128 * (y % 2) := by omega
  have e2 : (b + 256 * y) / 2 / 256 = y / 2 := by omega
  have e3 : (b + 256 * y) % 256 = b := by omega
  have e4 : (b + 256 * y) / 256 = y := by omega
  rw [e1, e2, e3, e4, bits1 b hb _ (Nat.mod_lt _ (by decide))]
  omega
theorem s2_step (n c z : Nat) (hc : c < 256) : s2 (n + 1) (c + 256 * z) = b2 c + 256 * s2 n z := by
  unfold s2 b2
  rw [show rep 51 (n + 1) = 51 + 256 * rep 51 n from rfl, and_split _ _ _ (by decide), and_split (c + 256 * z) _ _ (by decide)]
  have e1 : (c + 256 * z) / 4 % 256 = c / 4 + 64 * (z % 4) := by omega
  have e2 : (c + 256 * z) / 4 / 256 = z / 4 := by omega
  have e3 : (c + 256 * z) % 256 = c := by omega
  have e4 : (c + 256 * z) / 256 = z := by omega
  rw [e1, e2, e3, e4, bits2 c hc _ (Nat.mod_lt _ (by decide))]
  omega

theorem swar : ∀ n x, x < 256 ^ n → s1 n x < 256 ^ n ∧ s2 n (s1 n x) < 256 ^ n ∧ s2 n (s1 n x) % 16 ≤ 4 ∧
    s2 n (s1 n x) / 16 + s2 n (s1 n x) < 256 ^ n ∧ (s2 n (s1 n x) / 16 + s2 n (s1 n x) &&& rep 15 n) = onesB n x
  | 0, x, h => by simp [s1, s2, rep, onesB]
  | n + 1, x, h => by
    have ep : 256 ^ (n + 1) = 256 ^ n * 256 := Nat.pow_succ 256 n
    have hy : x / 256 < 256 ^ n := by omega
    obtain ⟨A, B, C, D, E⟩ := swar n (x / 256) hy
    have hb : x % 256 < 256 := Nat.mod_lt _ (by decide)
    obtain ⟨k1, k2, k3, k4⟩ := bits3 _ hb
    have ex : x = x % 256 + 256 * (x / 256) := by omega
    have f1 : s1 (n + 1) x = b1 (x % 256) + 256 * s1 n (x / 256) := by
      have := s1_step n (x % 256) (x / 256) hb
      rwa [← ex] at this
    have f2 : s2 (n + 1) (s1 (n + 1) x) = b2 (b1 (x % 256)) + 256 * s2 n (s1 n (x / 256)) := by
      rw [f1]; exact s2_step n _ _ k1
    rw [f2, f1]
    have fe : onesB (n + 1) x = cnt (x % 256).testBit 8 + 256 * onesB n (x / 256) := rfl
    rw [fe, ← E, ← k4]
    have fr : rep 15 (n + 1) = 15 + 256 * rep 15 n := rfl
    rw [fr, and_split _ _ _ (by decide)]
    generalize s2 n (s1 n (x / 256)) = q at *
    generalize s1 n (x / 256) = p at *
    generalize b2 (b1 (x % 256)) = d at *
    generalize b1 (x % 256) = c at *
    have g1 : ((d + 256 * q) / 16 + (d + 256 * q)) % 256 = d / 16 + 16 * (q % 16) + d := by omega
    have g2 : ((d + 256 * q) / 16 + (d + 256 * q)) / 256 = q / 16 + q := by omega
    have g3 : ∀ v : Nat, v &&& 15 = v % 16 := fun v => Nat.and_two_pow_sub_one_eq_mod v 4
    rw [g1, g2, g3]
    refine ⟨by omega, by omega, by omega, by omega, by omega⟩

theorem cnt_byte (x m : Nat) : cnt x.testBit (8 + m) = cnt (x % 256).testBit 8 + cnt (x / 256).testBit m := by
  rw [cnt_add]
  congr 1
  · exact cnt_congr _ _ 8 fun i hi => by rw [show x % 256 = x % 2 ^ 8 from rfl, Nat.testBit_mod_two_pow]; simp [hi]
  · exact cnt_congr _ _ m fun i _ => by rw [show x / 256 = x / 2 ^ 8 from rfl, Nat.testBit_div_two_pow, Nat.add_comm]

theorem sum8 (x : Nat) : ∃ p0 p1 p2 p3 p4 p5 p6 p7 X1 X2 X3 X4 X5 X6 X7, p0 ≤ 8 ∧ p1 ≤ 8 ∧ p2 ≤ 8 ∧ p3 ≤ 8 ∧ p4 ≤ 8 ∧ p5 ≤ 8 ∧ p6 ≤ 8 ∧ p7 ≤ 8 ∧
    onesB 8 x = p0 + 256 * X1 ∧ X1 = p1 + 256 * X2 ∧ X2 = p2 + 256 * X3 ∧ X3 = p3 + 256 * X4 ∧ X4 = p4 + 256 * X5 ∧ X5 = p5 + 256 * X6 ∧ X6 = p6 + 256 * X7 ∧ X7 = p7 + 256 * 0 ∧
    cnt x.testBit 64 = p0 + (p1 + (p2 + (p3 + (p4 + (p5 + (p6 + (p7 + 0))))))) := by
  refine ⟨_, _, _, _, _, _, _, _, _, _, _, _, _, _, _, cnt_le _ 8, cnt_le _ 8, cnt_le _ 8, cnt_le _ 8, cnt_le _ 8, cnt_le _ 8, cnt_le _ 8, cnt_le _ 8, rfl, rfl, rfl, rfl, rfl, rfl, rfl, rfl, ?_⟩
  rw [show (64 : Nat) = 8 + (8 + (8 + (8 + (8 + (8 + (8 + (8 + 0))))))) from rfl, cnt_byte, cnt_byte, cnt_byte, cnt_byte, cnt_byte, cnt_byte, cnt_byte, cnt_byte]
  rfl

theorem div_low (u v K : Nat) (h : u < K) : (u + K * v) / K = v := by
  rw [Nat.add_mul_div_left _ _ (by omega), Nat.div_eq_of_lt h, Nat.zero_add]
theorem mod_low (u v K : Nat) (h : u < K) : (u + K * v) % K = u := by
  rw [Nat.add_mul_mod_self_left, Nat.mod_eq_of_lt h]

theorem sums_bounds (p0 p1 p2 p3 p4 p5 p6 p7 X X1 X2 X3 X4 X5 X6 X7 : Nat) (a0 : p0 ≤ 8) (a1 : p1 ≤ 8) (a2 : p2 ≤ 8) (a3 : p3 ≤ 8) (a4 : p4 ≤ 8) (a5 : p5 ≤ 8) (a6 : p6 ≤ 8) (a7 : p7 ≤ 8)
    (e0 : X = p0 + 256 * X1) (e1 : X1 = p1 + 256 * X2) (e2 : X2 = p2 + 256 * X3) (e3 : X3 = p3 + 256 * X4) (e4 : X4 = p4 + 256 * X5) (e5 : X5 = p5 + 256 * X6) (e6 : X6 = p6 + 256 * X7) (e7 : X7 = p7 + 256 * 0) :
    X ≤ 578721382704613384 ∧ X1 ≤ 578721382704613384 ∧ X2 ≤ 578721382704613384 ∧ X3 ≤ 578721382704613384 ∧ X4 ≤ 578721382704613384 ∧ X5 ≤ 578721382704613384 ∧ X6 ≤ 578721382704613384 ∧ X7 ≤ 578721382704613384 := by
  have b7 : X7 ≤ 8 := by omega
  have b6 : X6 ≤ 2056 := by omega
  have b5 : X5 ≤ 526344 := by omega
  have b4 : X4 ≤ 134744072 := by omega
  have b3 : X3 ≤ 34494482440 := by omega
  have b2 : X2 ≤ 8830587504648 := by omega
  have b1 : X1 ≤ 2260630401189896 := by omega
  have b0 : X ≤ 578721382704613384 := by omega
  clear e0 e1 e2 e3 e4 e5 e6 e7
  refine ⟨b0, ?_, ?_, ?_, ?_, ?_, ?_, ?_⟩ <;> omega

theorem sums_low (p0 p1 p2 p3 p4 p5 p6 : Nat) (a0 : p0 ≤ 8) (a1 : p1 ≤ 8) (a2 : p2 ≤ 8) (a3 : p3 ≤ 8) (a4 : p4 ≤ 8) (a5 : p5 ≤ 8) (a6 : p6 ≤ 8) :
    (p0 + p1 + p2 + p3) + 256 * (p1 + p2 + p3 + p4) + 65536 * (p2 + p3 + p4 + p5) + 16777216 * (p3 + p4 + p5 + p6) < 4294967296 := by omega

/-- The last four rows: bytes are summed into the lowest one. -/
theorem sums_plain (X y1 y2 y3 p0 p1 p2 p3 p4 p5 p6 p7 X1 X2 X3 X4 X5 X6 X7 : Nat) (a0 : p0 ≤ 8) (a1 : p1 ≤ 8) (a2 : p2 ≤ 8) (a3 : p3 ≤ 8) (a4 : p4 ≤ 8) (a5 : p5 ≤ 8) (a6 : p6 ≤ 8) (a7 : p7 ≤ 8)
    (e0 : X = p0 + 256 * X1) (e1 : X1 = p1 + 256 * X2) (e2 : X2 = p2 + 256 * X3) (e3 : X3 = p3 + 256 * X4) (e4 : X4 = p4 + 256 * X5) (e5 : X5 = p5 + 256 * X6) (e6 : X6 = p6 + 256 * X7) (e7 : X7 = p7 + 256 * 0)
    (h1 : y1 = X + X / 256) (h2 : y2 = y1 + y1 / 65536) (h3 : y3 = y2 + y2 / 4294967296) :
    y1 < 18446744073709551616 ∧ y2 < 18446744073709551616 ∧ y3 < 9223372036854775808 ∧ y3 % 128 = p0 + (p1 + (p2 + (p3 + (p4 + (p5 + (p6 + (p7 + 0))))))) := by
  obtain ⟨b0, b1, b2, b3, b4, b5, b6, b7⟩ := sums_bounds p0 p1 p2 p3 p4 p5 p6 p7 X X1 X2 X3 X4 X5 X6 X7 a0 a1 a2 a3 a4 a5 a6 a7 e0 e1 e2 e3 e4 e5 e6 e7
  have d1 : X / 256 = X1 := by rw [e0]; exact div_low _ _ _ (by omega)
  rw [d1] at h1
  have k1 : y1 = ((p0 + p1) + 256 * (p1 + p2)) + 65536 * (X2 + X3) := by
    clear d1 h2 h3 b0 b1 b2 b3 b4 b5 b6 b7 e3 e4 e5 e6 e7; omega
  have d2 : y1 / 65536 = X2 + X3 := by
    rw [k1]; exact div_low _ _ _ (by clear h1 h2 h3 k1 e0 e1 e2 e3 e4 e5 e6 e7; omega)
  rw [d2] at h2
  have l2 := sums_low p0 p1 p2 p3 p4 p5 p6 a0 a1 a2 a3 a4 a5 a6
  have k2 : y2 = ((p0 + p1 + p2 + p3) + 256 * (p1 + p2 + p3 + p4) + 65536 * (p2 + p3 + p4 + p5) + 16777216 * (p3 + p4 + p5 + p6)) + 4294967296 * (X4 + X5 + X6 + X7) := by
    clear d1 d2 k1 h3 b0 b1 b2 b3 b4 b5 b6 b7 l2 e7 a0 a1 a2 a3 a4 a5 a6 a7; omega
  have d3 : y2 / 4294967296 = X4 + X5 + X6 + X7 := by rw [k2]; exact div_low _ _ _ l2
  rw [d3] at h3
  have k3 : y3 = (p0 + (p1 + (p2 + (p3 + (p4 + (p5 + (p6 + (p7 + 0)))))))) + 128 * (2 * (X1 + X2 + X3 + X4 + X5 + X6 + X7)) := by
    clear d1 d2 d3 k1 k2 b0 b1 b2 b3 b4 b5 b6 b7 l2 a0 a1 a2 a3 a4 a5 a6 a7; omega
  have m3 : y3 % 128 = p0 + (p1 + (p2 + (p3 + (p4 + (p5 + (p6 + (p7 + 0))))))) := by
    rw [k3]; exact mod_low _ _ _ (by clear e0 e1 e2 e3 e4 e5 e6 e7 h1 h2 h3 d1 d2 d3 k1 k2 k3 l2; omega)
  clear e0 e1 e2 e3 e4 e5 e6 e7 d1 d2 d3 k1 k2 k3 l2 a0 a1 a2 a3 a4 a5 a6 a7
  refine ⟨by omega, by omega, by omega, m3⟩

theorem sums (x y1 y2 y3 : Nat) (h1 : y1 = onesB 8 x + onesB 8 x / 256) (h2 : y2 = y1 + y1 / 65536) (h3 : y3 = y2 + y2 / 4294967296) :
    y1 < 18446744073709551616 ∧ y2 < 18446744073709551616 ∧ y3 < 9223372036854775808 ∧ y3 % 128 = cnt x.testBit 64 := by
  obtain ⟨p0, p1, p2, p3, p4, p5, p6, p7, X1, X2, X3, X4, X5, X6, X7, a0, a1, a2, a3, a4, a5, a6, a7, e0, e1, e2, e3, e4, e5, e6, e7, c⟩ := sum8 x
  rw [c]
  generalize onesB 8 x = X at *
  exact sums_plain X y1 y2 y3 p0 p1 p2 p3 p4 p5 p6 p7 X1 X2 X3 X4 X5 X6 X7 a0 a1 a2 a3 a4 a5 a6 a7 e0 e1 e2 e3 e4 e5 e6 e7 h1 h2 h3

end Go.Proofs.YtfkimmbnmcgjiaaDoor

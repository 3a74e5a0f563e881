/- Plain mathematics of counting the ones of 64 bits by masks and sums, byte by byte: no Go text, no model. -/
import Derived.Test.YtfkimmbnmcgjiaaDoorSvM
namespace Go.Proofs.YtfkimmbnmcgjiaaDoor

theorem and_split (u m M : Nat) (hm : m < 256) : u &&& (m + 256 * M) = (u % 256 &&& m) + 256 * (u / 256 &&& M) := by
  have e : ∀ a b : Nat, a < 256 → a + 256 * b = 2 ^ 8 * b + a := fun a b _ => by omega
  have hl : u % 256 &&& m < 2 ^ 8 := Nat.and_lt_two_pow _ (by omega)
  rw [e m M hm, e _ _ hl]
  apply Nat.eq_of_testBit_eq
  intro i
  rw [Nat.testBit_and, Nat.testBit_two_pow_mul_add _ (by omega : m < 2 ^ 8), Nat.testBit_two_pow_mul_add _ hl]
  by_cases hi : i < 8
  · simp only [hi, if_true]
    rw [Nat.testBit_and, show u % 256 = u % 2 ^ 8 from rfl, Nat.testBit_mod_two_pow]
    simp [hi]
  · simp only [hi, if_false]
    rw [Nat.testBit_and, show u / 256 = u / 2 ^ 8 from rfl, Nat.testBit_div_two_pow]
    have : i - 8 + 8 = i := by omega
    rw [this]

/-- A mask of one byte, n times. -/
def rep (m : Nat) : Nat → Nat
  | 0 => 0
  | n + 1 => m + 256 * rep m n
def s1 (n x : Nat) : Nat := (x / 2 &&& rep 85 n) + (x &&& rep 85 n)
def s2 (n x : Nat) : Nat := (x / 4 &&& rep 51 n) + (x &&& rep 51 n)
/-- The ones of each byte, each in its byte. -/
def onesB : Nat → Nat → Nat
  | 0, _ => 0
  | n + 1, x => cnt (x % 256).testBit 8 + 256 * onesB n (x / 256)

def b1 (b : Nat) : Nat := (b / 2 &&& 85) + (b &&& 85)
def b2 (c : Nat) : Nat := (c / 4 &&& 51) + (c &&& 51)

theorem bits1 : ∀ b, b < 256 → ∀ t, t < 2 → (b / 2 + 128 * t &&& 85) = (b / 2 &&& 85) := by decide +kernel
theorem bits2 : ∀ c, c < 256 → ∀ t, t < 4 → (c / 4 + 64 * t &&& 51) = (c / 4 &&& 51) := by decide +kernel
theorem bits3 : ∀ b, b < 256 → b1 b < 256 ∧ b2 (b1 b) ≤ 68 ∧ b2 (b1 b) % 16 ≤ 4 ∧ (b2 (b1 b) / 16 + b2 (b1 b)) % 16 = cnt b.testBit 8 := by decide +kernel

theorem s1_step (n b y : Nat) (hb : b < 256) : s1 (n + 1) (b + 256 * y) = b1 b + 256 * s1 n y := by
  unfold s1 b1
  rw [show rep 85 (n + 1) = 85 + 256 * rep 85 n from rfl, and_split _ _ _ (by decide), and_split (b + 256 * y) _ _ (by decide)]
  have e1 : (b + 256 * y) / 2 % 256 = b / 2 + 128 * (y % 2) := by omega
  have e2 : (b + 256 * y) / 2 / 256 = y / 2 := by omega
  have e3 : (b + 256 * y) % 256 = b := by omega
  have e4 : (b + 256 * y) / 256 = y := by omega
  rw [e1, e2, e3, e4, bits1 b hb _ (Nat.mod_lt _ (by decide))]
  omega
theorem s2_step (n c z : Nat) (hc : c < 256) : s2 (n + 1) (c + 256 * z) = b2 c + 256 * s2 n z := by
  unfold s2 b2
  rw [show rep 51 (n + 1) = 51 + 256 * rep 51 n from rfl, and_split _ _ _ (by decide), and_split (c + 256 * z) _ _ (by decide)]
  have e1 : (c + 256 * z) / 4 % 256 = c / 4 + 64 * (z % 4) := by omega
  have e2 : (c + 256 * z) / 4 / 256 = z / 4 := by omega
  have e3 : (c + 256 * z) % 256 = c := by omega
  have e4 : (c + 256 * z) / 256 = z := by omega
  rw [e1, e2, e3, e4, bits2 c hc _ (Nat.mod_lt _ (by decide))]
  omega

theorem swar : ∀ n x, x < 256 ^ n → s1 n x < 256 ^ n ∧ s2 n (s1 n x) < 256 ^ n ∧ s2 n (s1 n x) % 16 ≤ 4 ∧
    s2 n (s1 n x) / 16 + s2 n (s1 n x) < 256 ^ n ∧ (s2 n (s1 n x) / 16 + s2 n (s1 n x) &&& rep 15 n) = onesB n x
  | 0, x, h => by simp [s1, s2, rep, onesB]
  | n + 1, x, h => by
    have ep : 256 ^ (n + 1) = 256 ^ n * 256 := Nat.pow_succ 256 n
    have hy : x / 256 < 256 ^ n := by omega
    obtain ⟨A, B, C, D, E⟩ := swar n (x / 256) hy
    have hb : x % 256 < 256 := Nat.mod_lt _ (by decide)
    obtain ⟨k1, k2, k3, k4⟩ := bits3 _ hb
    have ex : x = x % 256 + 256 * (x / 256) := by omega
    have f1 : s1 (n + 1) x = b1 (x % 256) + 256 * s1 n (x / 256) := by
      have := s1_step n (x % 256) (x / 256) hb
      rwa [← ex] at this
    have f2 : s2 (n + 1) (s1 (n + 1) x) = b2 (b1 (x % 256)) + 256 * s2 n (s1 n (x / 256)) := by
      rw [f1]; exact s2_step n _ _ k1
    rw [f2, f1]
    have fe : onesB (n + 1) x = cnt (x % 256).testBit 8 + 256 * onesB n (x / 256) := rfl
    rw [fe, ← E, ← k4]
    have fr : rep 15 (n + 1) = 15 + 256 * rep 15 n := rfl
    rw [fr, and_split _ _ _ (by decide)]
    generalize s2 n (s1 n (x / 256)) = q at *
    generalize s1 n (x / 256) = p at *
    generalize b2 (b1 (x % 256)) = d at *
    generalize b1 (x % 256) = c at *
    have g1 : ((d + 256 * q) / 16 + (d + 256 * q)) % 256 = d / 16 + 16 * (q % 16) + d := by omega
    have g2 : ((d + 256 * q) / 16 + (d + 256 * q)) / 256 = q / 16 + q := by omega
    have g3 : ∀ v : Nat, v &&& 15 = v % 16 := fun v => Nat.and_two_pow_sub_one_eq_mod v 4
    rw [g1, g2, g3]
    refine ⟨by omega, by omega, by omega, by omega, by omega⟩

theorem cnt_byte (x m : Nat) : cnt x.testBit (8 + m) = cnt (x % 256).testBit 8 + cnt (x / 256).testBit m := by
  rw [cnt_add]
  congr 1
  · exact cnt_congr _ _ 8 fun i hi => by rw [show x % 256 = x % 2 ^ 8 from rfl, Nat.testBit_mod_two_pow]; simp [hi]
  · exact cnt_congr _ _ m fun i _ => by rw [show x / 256 = x / 2 ^ 8 from rfl, Nat.testBit_div_two_pow, Nat.add_comm]

theorem sum8 (x : Nat) : ∃ p0 p1 p2 p3 p4 p5 p6 p7 X1 X2 X3 X4 X5 X6 X7, p0 ≤ 8 ∧ p1 ≤ 8 ∧ p2 ≤ 8 ∧ p3 ≤ 8 ∧ p4 ≤ 8 ∧ p5 ≤ 8 ∧ p6 ≤ 8 ∧ p7 ≤ 8 ∧
    onesB 8 x = p0 + 256 * X1 ∧ X1 = p1 + 256 * X2 ∧ X2 = p2 + 256 * X3 ∧ X3 = p3 + 256 * X4 ∧ X4 = p4 + 256 * X5 ∧ X5 = p5 + 256 * X6 ∧ X6 = p6 + 256 * X7 ∧ X7 = p7 + 256 * 0 ∧
    cnt x.testBit 64 = p0 + (p1 + (p2 + (p3 + (p4 + (p5 + (p6 + (p7 + 0))))))) := by
  refine ⟨_, _, _, _, _, _, _, _, _, _, _, _, _, _, _, cnt_le _ 8, cnt_le _ 8, cnt_le _ 8, cnt_le _ 8, cnt_le _ 8, cnt_le _ 8, cnt_le _ 8, cnt_le _ 8, rfl, rfl, rfl, rfl, rfl, rfl, rfl, rfl, ?_⟩
  rw [show (64 : Nat) = 8 + (8 + (8 + (8 + (8 + (8 + (8 + (8 + 0))))))) from rfl, cnt_byte, cnt_byte, cnt_byte, cnt_byte, cnt_byte, cnt_byte, cnt_byte, cnt_byte]
  rfl

theorem div_low (u v K : Nat) (h : u < K) : (u + K * v) / K = v := by
  rw [Nat.add_mul_div_left _ _ (by omega), Nat.div_eq_of_lt h, Nat.zero_add]
theorem mod_low (u v K : Nat) (h : u < K) : (u + K * v) % K = u := by
  rw [Nat.add_mul_mod_self_left, Nat.mod_eq_of_lt h]

theorem sums_bounds (p0 p1 p2 p3 p4 p5 p6 p7 X X1 X2 X3 X4 X5 X6 X7 : Nat) (a0 : p0 ≤ 8) (a1 : p1 ≤ 8) (a2 : p2 ≤ 8) (a3 : p3 ≤ 8) (a4 : p4 ≤ 8) (a5 : p5 ≤ 8) (a6 : p6 ≤ 8) (a7 : p7 ≤ 8)
    (e0 : X = p0 + 256 * X1) (e1 : X1 = p1 + 256 * X2) (e2 : X2 = p2 + 256 * X3) (e3 : X3 = p3 + 256 * X4) (e4 : X4 = p4 + 256 * X5) (e5 : X5 = p5 + 256 * X6) (e6 : X6 = p6 + 256 * X7) (e7 : X7 = p7 + 256 * 0) :
    X ≤ 578721382704613384 ∧ X1 ≤ 578721382704613384 ∧ X2 ≤ 578721382704613384 ∧ X3 ≤ 578721382704613384 ∧ X4 ≤ 578721382704613384 ∧ X5 ≤ 578721382704613384 ∧ X6 ≤ 578721382704613384 ∧ X7 ≤ 578721382704613384 := by
  have b7 : X7 ≤ 8 := by omega
  have b6 : X6 ≤ 2056 := by omega
  have b5 : X5 ≤ 526344 := by omega
  have b4 : X4 ≤ 134744072 := by omega
  have b3 : X3 ≤ 34494482440 := by omega
  have b2 : X2 ≤ 8830587504648 := by omega
  have b1 : X1 ≤ 2260630401189896 := by omega
  have b0 : X ≤ 578721382704613384 := by omega
  clear e0 e1 e2 e3 e4 e5 e6 e7
  refine ⟨b0, ?_, ?_, ?_, ?_, ?_, ?_, ?_⟩ <;> omega

theorem sums_low (p0 p1 p2 p3 p4 p5 p6 : Nat) (a0 : p0 ≤ 8) (a1 : p1 ≤ 8) (a2 : p2 ≤ 8) (a3 : p3 ≤ 8) (a4 : p4 ≤ 8) (a5 : p5 ≤ 8) (a6 : p6 ≤ 8) :
    (p0 + p1 + p2 + p3) + 256 * (p1 + p2 + p3 + p4) + 65536 * (p2 + p3 + p4 + p5) + 16777216 * (p3 + p4 + p5 + p6) < 4294967296 := by omega

/-- The last four rows: bytes are summed into the lowest one. -/
theorem sums_plain (X y1 y2 y3 p0 p1 p2 p3 p4 p5 p6 p7 X1 X2 X3 X4 X5 X6 X7 : Nat) (a0 : p0 ≤ 8) (a1 : p1 ≤ 8) (a2 : p2 ≤ 8) (a3 : p3 ≤ 8) (a4 : p4 ≤ 8) (a5 : p5 ≤ 8) (a6 : p6 ≤ 8) (a7 : p7 ≤ 8)
    (e0 : X = p0 + 256 * X1) (e1 : X1 = p1 + 256 * X2) (e2 : X2 = p2 + 256 * X3) (e3 : X3 = p3 + 256 * X4) (e4 : X4 = p4 + 256 * X5) (e5 : X5 = p5 + 256 * X6) (e6 : X6 = p6 + 256 * X7) (e7 : X7 = p7 + 256 * 0)
    (h1 : y1 = X + X / 256) (h2 : y2 = y1 + y1 / 65536) (h3 : y3 = y2 + y2 / 4294967296) :
    y1 < 18446744073709551616 ∧ y2 < 18446744073709551616 ∧ y3 < 9223372036854775808 ∧ y3 % 128 = p0 + (p1 + (p2 + (p3 + (p4 + (p5 + (p6 + (p7 + 0))))))) := by
  obtain ⟨b0, b1, b2, b3, b4, b5, b6, b7⟩ := sums_bounds p0 p1 p2 p3 p4 p5 p6 p7 X X1 X2 X3 X4 X5 X6 X7 a0 a1 a2 a3 a4 a5 a6 a7 e0 e1 e2 e3 e4 e5 e6 e7
  have d1 : X / 256 = X1 := by rw [e0]; exact div_low _ _ _ (by omega)
  rw [d1] at h1
  have k1 : y1 = ((p0 + p1) + 256 * (p1 + p2)) + 65536 * (X2 + X3) := by
    clear d1 h2 h3 b0 b1 b2 b3 b4 b5 b6 b7 e3 e4 e5 e6 e7; omega
  have d2 : y1 / 65536 = X2 + X3 := by
    rw [k1]; exact div_low _ _ _ (by clear h1 h2 h3 k1 e0 e1 e2 e3 e4 e5 e6 e7; omega)
  rw [d2] at h2
  have l2 := sums_low p0 p1 p2 p3 p4 p5 p6 a0 a1 a2 a3 a4 a5 a6
  have k2 : y2 = ((p0 + p1 + p2 + p3) + 256 * (p1 + p2 + p3 + p4) + 65536 * (p2 + p3 + p4 + p5) + 16777216 * (p3 + p4 + p5 + p6)) + 4294967296 * (X4 + X5 + X6 + X7) := by
    clear d1 d2 k1 h3 b0 b1 b2 b3 b4 b5 b6 b7 l2 e7 a0 a1 a2 a3 a4 a5 a6 a7; omega
  have d3 : y2 / 4294967296 = X4 + X5 + X6 + X7 := by rw [k2]; exact div_low _ _ _ l2
  rw [d3] at h3
  have k3 : y3 = (p0 + (p1 + (p2 + (p3 + (p4 + (p5 + (p6 + (p7 + 0)))))))) + 128 * (2 * (X1 + X2 + X3 + X4 + X5 + X6 + X7)) := by
    clear d1 d2 d3 k1 k2 b0 b1 b2 b3 b4 b5 b6 b7 l2 a0 a1 a2 a3 a4 a5 a6 a7; omega
  have m3 : y3 % 128 = p0 + (p1 + (p2 + (p3 + (p4 + (p5 + (p6 + (p7 + 0))))))) := by
    rw [k3]; exact mod_low _ _ _ (by clear e0 e1 e2 e3 e4 e5 e6 e7 h1 h2 h3 d1 d2 d3 k1 k2 k3 l2; omega)
  clear e0 e1 e2 e3 e4 e5 e6 e7 d1 d2 d3 k1 k2 k3 l2 a0 a1 a2 a3 a4 a5 a6 a7
  refine ⟨by omega, by omega, by omega, m3⟩

theorem sums (x y1 y2 y3 : Nat) (h1 : y1 = onesB 8 x + onesB 8 x / 256) (h2 : y2 = y1 + y1 / 65536) (h3 : y3 = y2 + y2 / 4294967296) :
    y1 < 18446744073709551616 ∧ y2 < 18446744073709551616 ∧ y3 < 9223372036854775808 ∧ y3 % 128 = cnt x.testBit 64 := by
  obtain ⟨p0, p1, p2, p3, p4, p5, p6, p7, X1, X2, X3, X4, X5, X6, X7, a0, a1, a2, a3, a4, a5, a6, a7, e0, e1, e2, e3, e4, e5, e6, e7, c⟩ := sum8 x
  rw [c]
  generalize onesB 8 x = X at *
  exact sums_plain X y1 y2 y3 p0 p1 p2 p3 p4 p5 p6 p7 X1 X2 X3 X4 X5 X6 X7 a0 a1 a2 a3 a4 a5 a6 a7 e0 e1 e2 e3 e4 e5 e6 e7 h1 h2 h3

end Go.Proofs.YtfkimmbnmcgjiaaDoor

/- Package word and the document's own words on it: Of, Bytes, Read (out of WrA, WrE, WrG, WrH, WrJ, without the rest of their seat). -/
import Derived.Test.YtmjappcjfjajmaaLsB
import Derived.Laws.BytesArg
import Derived.Laws.IdiomStrings
namespace Go.Proofs.Ytmjappcjfjajmaa
open Go.RowKit

theorem ret_int {k : IntKind} {a b : Int} (h : a = b) : Ending.returned (.int k a) = .returned (.int k b) := by rw [h]
theorem ret_pair {k : IntKind} {a b : Int} {c : Bool} (h : a = b) : Ending.returned (.tuple #[.int k a, .bool c]) = .returned (.tuple #[.int k b, .bool c]) := by rw [h]
theorem w32_range (n : Int) : -2147483648 ≤ wrap32 n ∧ wrap32 n ≤ 2147483647 := by unfold wrap32; omega
theorem w32_idem (n : Int) : wrap32 (wrap32 n) = wrap32 n := by unfold wrap32; omega
theorem w32_id (n : Int) (h : -2147483648 ≤ n ∧ n ≤ 2147483647) : wrap32 n = n := by unfold wrap32; omega
theorem w64_w32 (n : Int) : wrap64 (wrap32 n) = wrap32 n := by unfold wrap64 wrap32; omega
theorem i64_and32 (n : Int) : bits .and .i64 n 4294967295 = n % 4294967296 := by
  have h1 : (BitVec.ofInt 64 4294967295).toNat = 2 ^ 32 - 1 := by decide
  have key : (BitVec.ofInt 64 n &&& BitVec.ofInt 64 4294967295).toNat = (n % ((2 ^ 64 : Nat) : Int)).toNat % 2 ^ 32 := by
    rw [BitVec.toNat_and, BitVec.toNat_ofInt, h1, Nat.and_two_pow_sub_one_eq_mod]
  show IntKind.i64.wrap ((BitVec.ofInt 64 n &&& BitVec.ofInt 64 4294967295).toNat : Nat) = n % 4294967296
  rw [key, IntKind.wrap_i64]
  omega
/-- The j-th byte of a number. -/
def byN (v : Int) (j : Nat) : Int := v / 2 ^ (8 * j) % 256
theorem byN_range (v : Int) (j : Nat) : 0 ≤ byN v j ∧ byN v j < 256 := by unfold byN; omega
theorem byN_u32 (v : Int) (j : Nat) (h : j < 4) : IntKind.u32.wrap v / 2 ^ (8 * j) % 256 = byN v j := by
  rw [IntKind.wrap_u32]
  unfold byN
  have : j = 0 ∨ j = 1 ∨ j = 2 ∨ j = 3 := by omega
  rcases this with rfl | rfl | rfl | rfl <;> simp only [Nat.mul_zero, Nat.mul_one, Nat.reduceMul, Int.pow_zero, Int.ediv_one, Int.reducePow] <;> omega
theorem byN_sum (v : Int) : wrap32 (byN v 0 + 256 * byN v 1 + 65536 * byN v 2 + 16777216 * byN v 3) = wrap32 v := by
  unfold byN wrap32
  simp only [Nat.mul_zero, Nat.mul_one, Nat.reduceMul, Int.pow_zero, Int.ediv_one, Int.reducePow]
  omega
theorem Try.info5 : (Try.prog.info? 5).map (fun i => (i.zero, i.size, i.bytes)) = some (some (.int .u8 0), 1, 1) := by kernel_rfl
def byRow (v : Int) (j x : Nat) : Value := .int .u8 (if x < j then byN v x else 0)
/-- The number of the first j bytes. -/
def accN (g : Nat → Int) : Nat → Int
  | 0 => 0
  | j + 1 => accN g j + g j * 2 ^ (8 * j)
theorem accN_range (g : Nat → Int) (hg : ∀ j, 0 ≤ g j ∧ g j < 256) : ∀ j, 0 ≤ accN g j ∧ accN g j < 2 ^ (8 * j)
  | 0 => by simp [accN]
  | j + 1 => by
    have ih := accN_range g hg j
    have h := hg j
    have e : (2 : Int) ^ (8 * (j + 1)) = 256 * 2 ^ (8 * j) := by rw [Nat.mul_add, Int.pow_add, Int.mul_comm]; rfl
    have hp : (0 : Int) < 2 ^ (8 * j) := Int.pow_pos (by decide)
    rw [e]
    show 0 ≤ accN g j + g j * 2 ^ (8 * j) ∧ accN g j + g j * 2 ^ (8 * j) < 256 * 2 ^ (8 * j)
    generalize accN g j = x at *
    generalize (2 : Int) ^ (8 * j) = m at *
    have h1 : 0 ≤ g j * m := Int.mul_nonneg h.1 (by omega)
    have h2 : g j * m ≤ 255 * m := Int.mul_le_mul_of_nonneg_right (by omega) (by omega)
    omega
theorem acc_step (g : Nat → Int) (hg : ∀ j, 0 ≤ g j ∧ g j < 256) (j : Nat) (h : j < 4) : bits .or .u32 (accN g j) (g j * 2 ^ (8 * j) % 4294967296) = accN g (j + 1) := by
  have hr := accN_range g hg j
  have hr' := accN_range g hg (j + 1)
  have h4 : (2 : Int) ^ (8 * (j + 1)) ≤ 2 ^ 32 := by
    have : j = 0 ∨ j = 1 ∨ j = 2 ∨ j = 3 := by omega
    rcases this with rfl | rfl | rfl | rfl <;> decide
  have hs : accN g (j + 1) = accN g j + g j * 2 ^ (8 * j) := rfl
  have hp : (0 : Int) < 2 ^ (8 * j) := Int.pow_pos (by decide)
  have h1 : 0 ≤ g j * 2 ^ (8 * j) := Int.mul_nonneg (hg j).1 (by omega)
  have e32 : (2 : Int) ^ 32 = 4294967296 := by decide
  have h0 : (g j * 2 ^ (8 * j)) % 2 ^ (8 * j) = 0 := Int.mul_emod_left _ _
  rw [hs]
  rw [hs] at hr'
  clear hs
  generalize g j * 2 ^ (8 * j) = y at *
  have ey : y % 4294967296 = y := by omega
  have hc : bits .or .u32 (accN g j) y = bits .or .u32 y (accN g j) := by simp only [bits, BitVec.or_comm]
  rw [ey, hc, bits_join .u32 32 (by decide) (fun n h₀ h₁ => by rw [IntKind.wrap_u32]; omega) (8 * j) y _ h1 h0 (by omega) hr.1 hr.2 (by omega)]
  omega
def rdN (g : Nat → Int) : Int := wrap32 (g 0 + 256 * g 1 + 65536 * g 2 + 16777216 * g 3)
theorem acc_four (g : Nat → Int) : wrap32 (accN g 4) = rdN g := by
  unfold rdN
  simp only [accN, Nat.mul_zero, Nat.mul_one, Nat.reduceMul, Int.pow_zero, Int.reducePow]
  congr 1; omega
theorem byN_w32 (a : Int) (j : Nat) (h : j < 4) : byN (wrap32 a) j = byN a j := by
  unfold byN wrap32
  have : j = 0 ∨ j = 1 ∨ j = 2 ∨ j = 3 := by omega
  rcases this with rfl | rfl | rfl | rfl <;> simp only [Nat.mul_zero, Nat.mul_one, Nat.reduceMul, Int.pow_zero, Int.ediv_one, Int.reducePow] <;> omega
/-- The four bytes of a number, as a string. -/
def byS (v : Int) : ByteArray := strOfNums [byN v 0, byN v 1, byN v 2, byN v 3]
theorem Try.under8 : Try.prog.underlying 5 = some (.int .u8) := by kernel_rfl

theorem byN_parts (v n : Int) (h : n = v % 4294967296) : n % 256 = byN v 0 ∧ n / 256 % 256 = byN v 1 ∧ n / 65536 % 256 = byN v 2 ∧ n / 16777216 % 256 = byN v 3 := by
  unfold byN
  simp only [Nat.mul_zero, Nat.mul_one, Nat.reduceMul, Int.pow_zero, Int.ediv_one, Int.reducePow]
  omega

end Go.Proofs.Ytmjappcjfjajmaa

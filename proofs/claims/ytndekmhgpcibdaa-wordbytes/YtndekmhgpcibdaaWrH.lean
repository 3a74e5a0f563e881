/- The walk of Read. -/
import Derived.Test.YtndekmhgpcibdaaWrG
namespace Go.Proofs.Ytndekmhgpcibdaa
open Go.RowKit

/-- The number of the first j bytes. -/
def accN (g : Nat → Int) : Nat → Int
  | 0 => 0
  | j + 1 => accN g j + g j * 2 ^ (8 * j)
theorem accN_range (g : Nat → Int) (hg : ∀ j, 0 ≤ g j ∧ g j < 256) : ∀ j, 0 ≤ accN g j ∧ accN g j < 2 ^ (8 * j)
  | 0 => by simp [accN]
  | j + 1 => by
    have ih := accN_range g hg j
    have h := hg j
    have e : (2 : Int) ^ (8 * (j + 1)) = 256 * 2 ^ (8 * j) := by rw [Nat.mul_add, Int.pow_add, Int.mul_comm]; rfl
    have hp : (0 : Int) < 2 ^ (8 * j) := Int.pow_pos (by decide)
    rw [e]
    show 0 ≤ accN g j + g j * 2 ^ (8 * j) ∧ accN g j + g j * 2 ^ (8 * j) < 256 * 2 ^ (8 * j)
    generalize accN g j = x at *
    generalize (2 : Int) ^ (8 * j) = m at *
    have h1 : 0 ≤ g j * m := Int.mul_nonneg h.1 (by omega)
    have h2 : g j * m ≤ 255 * m := Int.mul_le_mul_of_nonneg_right (by omega) (by omega)
    omega
theorem acc_step (g : Nat → Int) (hg : ∀ j, 0 ≤ g j ∧ g j < 256) (j : Nat) (h : j < 4) : bits .or .u32 (accN g j) (g j * 2 ^ (8 * j) % 4294967296) = accN g (j + 1) := by
  have hr := accN_range g hg j
  have hr' := accN_range g hg (j + 1)
  have h4 : (2 : Int) ^ (8 * (j + 1)) ≤ 2 ^ 32 := by
    have : j = 0 ∨ j = 1 ∨ j = 2 ∨ j = 3 := by omega
    rcases this with rfl | rfl | rfl | rfl <;> decide
  have hs : accN g (j + 1) = accN g j + g j * 2 ^ (8 * j) := rfl
  have hp : (0 : Int) < 2 ^ (8 * j) := Int.pow_pos (by decide)
  have h1 : 0 ≤ g j * 2 ^ (8 * j) := Int.mul_nonneg (hg j).1 (by omega)
  have e32 : (2 : Int) ^ 32 = 4294967296 := by decide
  have h0 : (g j * 2 ^ (8 * j)) % 2 ^ (8 * j) = 0 := Int.mul_emod_left _ _
  rw [hs]
  rw [hs] at hr'
  clear hs
  generalize g j * 2 ^ (8 * j) = y at *
  have ey : y % 4294967296 = y := by omega
  have hc : bits .or .u32 (accN g j) y = bits .or .u32 y (accN g j) := by simp only [bits, BitVec.or_comm]
  rw [ey, hc, bits_join .u32 32 (by decide) (fun n h₀ h₁ => by rw [IntKind.wrap_u32]; omega) (8 * j) y _ h1 h0 (by omega) hr.1 hr.2 (by omega)]
  omega
def rdN (g : Nat → Int) : Int := wrap32 (g 0 + 256 * g 1 + 65536 * g 2 + 16777216 * g 3)
theorem acc_four (g : Nat → Int) : wrap32 (accN g 4) = rdN g := by
  unfold rdN
  simp only [accN, Nat.mul_zero, Nat.mul_one, Nat.reduceMul, Int.pow_zero, Int.reducePow]
  congr 1; omega

theorem read_short (a : Option Addr) (n c : Nat) (w : World) (h : n < 4) :
    Calls Try.prog 18 #[.slice a n c] w fun e w' => e = .returned (.tuple #[.int .i64 0, .bool false]) ∧ w' = w := by
  go_enter Try.func18, Try.ntmps18
  go_wp2_with fail
  go_ret2
  exact ⟨rfl, rfl⟩

set_option maxHeartbeats 1000000 in
theorem read_any (b n c : Nat) (g : Nat → Int) (w : World) (hn : 4 ≤ n) (hc : n ≤ c) (hcs : ∀ j, j < 4 → w.cell? ⟨b, j, none⟩ = some (.int .u8 (g j))) (hg : ∀ j, 0 ≤ g j ∧ g j < 256) :
    Calls Try.prog 18 #[.slice (some ⟨b, 0, none⟩) n c] w fun e w' => e = .returned (.tuple #[.int .i64 (rdN g), .bool true]) ∧ w' = w := by
  have HC : Hid _ := hcs
  have HG : Hid _ := hg
  clear hcs hg
  go_enter Try.func18, Try.ntmps18
  go_wp2_with fail
  go_loop [4, 13] (fun u i => ∃ j : Nat, j ≤ 4 ∧ i = .int .i64 j ∧ u = .int .u32 (accN g j)) (fun _ i => 4 - (intOf i).toNat)
  case atStart => exact ⟨0, Nat.zero_le _, rfl, rfl⟩
  case round =>
    obtain ⟨j, hj, rfl, rfl⟩ := hrel
    by_cases hlt : j < 4
    · have hcell := HC.out j hlt
      have HS : Hid (bits .or .u32 (accN g j) (g j * 2 ^ (8 * j) % 4294967296) = accN g (j + 1)) := acc_step g HG.out j hlt
      have h1 := HG.out j
      generalize hx : accN g j = x at *
      have hx : Hid _ := hx
      generalize hy : accN g (j + 1) = y at *
      have HY : Hid _ := hy
      clear hy
      generalize hz : g j = z at *
      have hz : Hid _ := hz
      go_wp2_with fail
      go_round
      case rel => exact ⟨j + 1, by omega, by go_num, by rw [HY.out, ← HS.out]⟩
      case measure => simp [intOf]; omega
    · have e : j = 4 := by omega
      subst e
      have HF : Hid (wrap32 (accN g 4) = rdN g) := acc_four g
      generalize accN g 4 = x at *
      go_wp2_with fail
      go_ret2
      exact ⟨ret_pair (by rw [w64_w32, HF.out]), rfl⟩

end Go.Proofs.Ytndekmhgpcibdaa

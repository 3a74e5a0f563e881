/- The walks of sieve's plain functions: between, below, Mask, bit: what each returns, in plain numbers; the world stays. -/
import Derived.Test.YthnnbhpaejemnaaDoorRows
import Derived.WalkKit
import Derived.WalkSpells
namespace Go.Proofs.YthnnbhpaejemnaaDoor
open Go.RowKit

theorem ret_int {k : IntKind} {a b : Int} (h : a = b) : Ending.returned (.int k a) = .returned (.int k b) := by rw [h]

set_option maxHeartbeats 400000 in
theorem between_any (k lo hi : Int) (w : World) :
    Calls Tryd.prog 24 #[.int .i64 k, .int .i64 lo, .int .i64 hi] w fun e w' => e = .returned (.int .i64 (min (max k lo) hi)) ∧ w' = w := by
  go_enter Tryd.func24, Tryd.ntmps24
  go_wp2
  all_goals
    go_ret
    exact ⟨ret_int (by omega), rfl⟩

/-- How many of the lowest bits a number asks for. -/
def cl (k : Int) : Nat := (min (max k 0) 64).toNat
theorem cl_le (k : Int) : cl k ≤ 64 := by unfold cl; omega
theorem cl_cast (k : Int) : ((cl k : Nat) : Int) = min (max k 0) 64 := by unfold cl; omega

theorem below_num (n : Nat) (h : n ≤ 64) : IntKind.u64.wrap (IntKind.u64.wrap (2 ^ n) - 1) = ((2 ^ n - 1 : Nat) : Int) := by
  rw [IntKind.wrap_u64, IntKind.wrap_u64]
  by_cases h' : n = 64
  · subst h'; decide
  · have h1 : 2 ^ n < 2 ^ 64 := Nat.pow_lt_pow_of_lt (by decide) (by omega)
    have h2 : 0 < 2 ^ n := Nat.two_pow_pos _
    have h3 : ((2 : Int) ^ n) = ((2 ^ n : Nat) : Int) := by simp
    rw [h3]
    generalize 2 ^ n = m at *
    omega
theorem pow_cl (k : Int) : 2 ^ cl k - 1 < 18446744073709551616 := by
  have := cl_le k
  have h1 : 2 ^ cl k ≤ 2 ^ 64 := Nat.pow_le_pow_right (by decide) this
  omega

set_option maxHeartbeats 400000 in
theorem below_any (k : Int) (w : World) :
    Calls Tryd.prog 50 #[.int .i64 k] w fun e w' => e = .returned (.int .u64 ((2 ^ cl k - 1 : Nat) : Int)) ∧ w' = w := by
  have hc := cl_cast k
  have hl := cl_le k
  go_enter Tryd.func50, Tryd.ntmps50
  go_wp2_with (go_at_call 24; refine (between_any _ _ _ _).mono ?_; rintro e w' ⟨rfl, rfl⟩; rw [← hc]; clear hc)
  go_ret
  exact ⟨ret_int (below_num _ hl), rfl⟩

/-- The bits from f on and below t, as a number. -/
def maskN (f t : Nat) : Nat := (2 ^ t - 1) &&& (18446744073709551615 - (2 ^ f - 1))
theorem maskN_bit (f t i : Nat) (hf : f ≤ 64) (hi : i < 64) : (maskN f t).testBit i = (decide (f ≤ i) && decide (i < t)) := by
  unfold maskN
  have e : 18446744073709551615 - (2 ^ f - 1) = 2 ^ 64 - (2 ^ f - 1 + 1) := by omega
  have hp : 2 ^ f ≤ 2 ^ 64 := Nat.pow_le_pow_right (by decide) hf
  have h0 := Nat.two_pow_pos f
  rw [e, Nat.testBit_and, Nat.testBit_two_pow_sub_one, Nat.testBit_two_pow_sub_succ (by omega), Nat.testBit_two_pow_sub_one]
  by_cases h1 : i < t <;> by_cases h2 : i < f <;> simp [h1, h2, hi] <;> omega

set_option maxHeartbeats 400000 in
theorem mask_any (f t : Int) (w : World) :
    Calls Tryd.prog 23 #[.int .i64 f, .int .i64 t] w fun e w' => e = .returned (.int .u64 (maskN (cl f) (cl t) : Nat)) ∧ w' = w := by
  have h1 := pow_cl f
  have h2 := pow_cl t
  go_enter Tryd.func23, Tryd.ntmps23
  go_wp2_with (go_at_call 50; refine (below_any _ _).mono ?_; rintro e w' ⟨rfl, rfl⟩)
  go_ret
  exact ⟨ret_int (u64_andNot_nat _ _ h2 h1), rfl⟩

theorem and63 (k : Nat) (h : k < 9223372036854775808) : bits .and .i64 (k : Int) 63 = ((k % 64 : Nat) : Int) := by
  have := bits_mask .i64 63 (by decide) (fun n h0 h1 => by rw [IntKind.wrap_i64]; omega) 6 (by decide) (k : Int) (by omega) (by omega)
  simpa using this
theorem bit_num (m : Nat) (h : m < 64) : IntKind.u64.wrap (2 ^ m) = ((2 ^ m : Nat) : Int) := by
  have h1 : 2 ^ m < 2 ^ 64 := Nat.pow_lt_pow_of_lt (by decide) h
  have h3 : ((2 : Int) ^ m) = ((2 ^ m : Nat) : Int) := by simp
  rw [IntKind.wrap_u64, h3]
  generalize 2 ^ m = M at *
  omega

set_option maxHeartbeats 400000 in
theorem bit_any (k : Nat) (w : World) (h1 : k ≤ 4096) :
    Calls Tryd.prog 27 #[.int .i64 k] w fun e w' => e = .returned (.int .u64 (2 ^ (k % 64) : Nat)) ∧ w' = w := by
  have hb := and63 k (by omega)
  have hm : k % 64 < 64 := Nat.mod_lt _ (by decide)
  generalize k % 64 = m at *
  go_enter Tryd.func27, Tryd.ntmps27
  go_wp2
  go_ret
  exact ⟨ret_int (bit_num _ hm), rfl⟩

end Go.Proofs.YthnnbhpaejemnaaDoor

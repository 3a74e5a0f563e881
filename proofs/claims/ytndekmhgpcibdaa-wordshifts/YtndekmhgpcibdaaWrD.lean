/- The walk of WordShifts: to shift twice is to shift by both. -/
import Derived.Test.YtndekmhgpcibdaaWrC
namespace Go.Proofs.Ytndekmhgpcibdaa
open Go.RowKit

theorem stN_is (m : Int) (h0 : 0 ≤ m) (h1 : m ≤ 31) : stN m = m.toNat := by unfold stN; omega
theorem shl_both (A m n : Int) (h0 : 0 ≤ m) (h1 : 0 ≤ n) (h2 : m + n ≤ 31) : wrap32 (wrap32 (wrap32 (A * 2 ^ stN m)) * 2 ^ stN n) = wrap32 (A * 2 ^ stN (m + n)) := by
  rw [w32_mul, w32_mul, stN_is m h0 (by omega), stN_is n h1 (by omega), stN_is (m + n) (by omega) h2, Int.mul_assoc, ← Int.pow_add, show (m + n).toNat = m.toNat + n.toNat by omega]
theorem shr_both (a m n : Int) (h0 : 0 ≤ m) (h1 : 0 ≤ n) (h2 : m + n ≤ 31) : wrap32 (wrap32 a / 2 ^ stN m) / 2 ^ stN n = wrap32 a / 2 ^ stN (m + n) := by
  rw [w32_id _ (div_range _ _ (w32_range a)), stN_is m h0 (by omega), stN_is n h1 (by omega), stN_is (m + n) (by omega) h2, show (m + n).toNat = m.toNat + n.toNat by omega, Int.pow_add,
    Int.ediv_ediv_of_nonneg (Int.le_of_lt (Int.pow_pos (by decide)))]

set_option maxHeartbeats 1000000 in
theorem shifts_core (a m n x1 x u1 u z : Int) (w : World) (g1 : 0 ≤ m) (g2 : 0 ≤ n) (g3 : m ≤ 31) (g4 : n ≤ 31 - m) (h1 : Hid (wrap32 (wrap32 a * 2 ^ stN m) = x1)) (h2 : Hid (wrap32 (wrap32 x1 * 2 ^ stN n) = x))
    (h3 : Hid (wrap32 (wrap32 a * 2 ^ stN (m + n)) = x)) (h4 : Hid (wrap32 a / 2 ^ stN m = u1)) (h5 : Hid (wrap32 u1 / 2 ^ stN n = u)) (h6 : Hid (wrap32 a / 2 ^ stN (m + n) = u))
    (h7 : Hid (wrap32 (wrap32 a * 2 ^ stN 32) = z)) (h8 : Hid (wrap32 a / 2 ^ stN 64 = z)) (h9 : Hid (wrap32 a = z)) :
    Calls Try.prog 7 #[.int .i64 a, .int .i64 m, .int .i64 n] w fun e w' => e = .returned (.bool true) ∧ w' = w := by
  go_enter Try.func7, Try.ntmps7
  go_wp2_with fail
  refine (alive_any _).mono ?_
  rintro e w' ⟨rfl, rfl⟩
  go_wp2_with fail
  refine (do_shl' h1.out _).mono ?_
  rintro e w' ⟨rfl, rfl⟩
  go_wp2_with fail
  refine (do_shl' h2.out _).mono ?_
  rintro e w' ⟨rfl, rfl⟩
  go_wp2_with fail
  refine (do_shl' h3.out _).mono ?_
  rintro e w' ⟨rfl, rfl⟩
  go_wp2_with fail
  refine (do_shr' h4.out _).mono ?_
  rintro e w' ⟨rfl, rfl⟩
  go_wp2_with fail
  refine (do_shr' h5.out _).mono ?_
  rintro e w' ⟨rfl, rfl⟩
  go_wp2_with fail
  refine (do_shr' h6.out _).mono ?_
  rintro e w' ⟨rfl, rfl⟩
  go_wp2_with fail
  refine (do_shl' h7.out _).mono ?_
  rintro e w' ⟨rfl, rfl⟩
  go_wp2_with fail
  refine (do_shr' h8.out _).mono ?_
  rintro e w' ⟨rfl, rfl⟩
  go_wp2_with fail
  refine (of_any' h9.out _).mono ?_
  rintro e w' ⟨rfl, rfl⟩
  go_wp2_with fail
  refine (of_any' h9.out _).mono ?_
  rintro e w' ⟨rfl, rfl⟩
  go_wp2_with fail
  go_ret
  exact ⟨rfl, rfl⟩

set_option maxHeartbeats 1000000 in
theorem shifts_out (a m n : Int) (w : World) (h : ¬ (0 ≤ m ∧ 0 ≤ n ∧ m ≤ 31 ∧ n ≤ 31 - m)) (hw : -9223372036854775808 ≤ m ∧ m ≤ 9223372036854775807) :
    Calls Try.prog 7 #[.int .i64 a, .int .i64 m, .int .i64 n] w fun e w' => e = .returned (.bool true) ∧ w' = w := by
  have : (m < 0) ∨ (0 ≤ m ∧ n < 0) ∨ (0 ≤ m ∧ 0 ≤ n ∧ 31 < m) ∨ (0 ≤ m ∧ 0 ≤ n ∧ m ≤ 31 ∧ 31 - m < n) := by omega
  clear h
  rcases this with h | ⟨h1, h2⟩ | ⟨h1, h2, h3⟩ | ⟨h1, h2, h3, h4⟩
  all_goals
    go_enter Try.func7, Try.ntmps7
    go_wp2_with fail
    refine (alive_any _).mono ?_
    rintro e w' ⟨rfl, rfl⟩
    go_wp2_with fail
    go_ret
    exact ⟨rfl, rfl⟩

theorem shifts_walk (a m n : Int) (w : World) (hw : -9223372036854775808 ≤ m ∧ m ≤ 9223372036854775807) :
    Calls Try.prog 7 #[.int .i64 a, .int .i64 m, .int .i64 n] w fun e w' => e = .returned (.bool true) ∧ w' = w := by
  by_cases h : 0 ≤ m ∧ 0 ≤ n ∧ m ≤ 31 ∧ n ≤ 31 - m
  · obtain ⟨h1, h2, h3, h4⟩ := h
    refine shifts_core a m n _ _ _ _ _ w h1 h2 h3 h4 rfl (shl_both _ m n h1 h2 (by omega)) rfl rfl (shr_both a m n h1 h2 (by omega)) rfl ?_ ?_ rfl
    · show wrap32 (wrap32 a * 2 ^ stN 32) = wrap32 a
      rw [show stN 32 = 0 by decide, Int.pow_zero, Int.mul_one, w32_idem]
    · show wrap32 a / 2 ^ stN 64 = wrap32 a
      rw [show stN 64 = 0 by decide, Int.pow_zero, Int.ediv_one]
  · exact shifts_out a m n w h hw

end Go.Proofs.Ytndekmhgpcibdaa

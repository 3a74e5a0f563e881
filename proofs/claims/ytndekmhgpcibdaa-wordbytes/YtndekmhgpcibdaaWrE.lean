/- The walks of the document's own answers: Of, Do by each op. -/
import Derived.Test.YtndekmhgpcibdaaWrC
namespace Go.Proofs.Ytndekmhgpcibdaa
open Go.RowKit

theorem i64_and32 (n : Int) : bits .and .i64 n 4294967295 = n % 4294967296 := by
  have h1 : (BitVec.ofInt 64 4294967295).toNat = 2 ^ 32 - 1 := by decide
  have key : (BitVec.ofInt 64 n &&& BitVec.ofInt 64 4294967295).toNat = (n % ((2 ^ 64 : Nat) : Int)).toNat % 2 ^ 32 := by
    rw [BitVec.toNat_and, BitVec.toNat_ofInt, h1, Nat.and_two_pow_sub_one_eq_mod]
  show IntKind.i64.wrap ((BitVec.ofInt 64 n &&& BitVec.ofInt 64 4294967295).toNat : Nat) = n % 4294967296
  rw [key, IntKind.wrap_i64]
  omega
theorem i64_and31 (n : Int) : bits .and .i64 n 31 = n % 32 := by
  have h1 : (BitVec.ofInt 64 31).toNat = 2 ^ 5 - 1 := by decide
  have key : (BitVec.ofInt 64 n &&& BitVec.ofInt 64 31).toNat = (n % ((2 ^ 64 : Nat) : Int)).toNat % 2 ^ 5 := by
    rw [BitVec.toNat_and, BitVec.toNat_ofInt, h1, Nat.and_two_pow_sub_one_eq_mod]
  show IntKind.i64.wrap ((BitVec.ofInt 64 n &&& BitVec.ofInt 64 31).toNat : Nat) = n % 32
  rw [key, IntKind.wrap_i64]
  omega

theorem refOf_any (a : Int) (w : World) :
    Calls Try.prog 13 #[.int .i64 a] w fun e w' => e = .returned (.int .i64 (wrap32 a)) ∧ w' = w := by
  have hb := i64_and32 a
  have hw : Hid (wrap32 a = if a % 4294967296 ≥ 2147483648 then a % 4294967296 - 4294967296 else a % 4294967296) := by
    show wrap32 a = _
    unfold wrap32; split <;> omega
  have h0 : 0 ≤ a % 4294967296 := by omega
  have h1 : a % 4294967296 < 4294967296 := by omega
  generalize a % 4294967296 = n at *
  by_cases h : n ≥ 2147483648
  · go_enter Try.func13, Try.ntmps13
    go_wp2
    go_ret
    exact ⟨ret_int (by rw [hw.out, if_pos h]), rfl⟩
  · go_enter Try.func13, Try.ntmps13
    go_wp2
    go_ret
    exact ⟨ret_int (by rw [hw.out, if_neg (by omega)]), rfl⟩
theorem refOf_any' {a n : Int} (h : wrap32 a = n) (w : World) :
    Calls Try.prog 13 #[.int .i64 a] w fun e w' => e = .returned (.int .i64 n) ∧ w' = w := h ▸ refOf_any a w

/-! ### Do. -/
theorem stN_cast (b : Int) : wrap32 b % 32 = ((stN b : Nat) : Int) := by rw [← stN_w32]; unfold stN; omega

set_option maxHeartbeats 1000000 in
theorem refDo_add (a b n m s : Int) (w : World) (hn : Hid (wrap32 a = n)) (hm : Hid (wrap32 b = m)) (g1 : -2147483648 ≤ n ∧ n ≤ 2147483647) (g2 : -2147483648 ≤ m ∧ m ≤ 2147483647) (h : Hid (wrap32 (n + m) = s)) :
    Calls Try.prog 11 #[.int .i64 3, .int .i64 a, .int .i64 b] w fun e w' => e = .returned (.tuple #[.int .i64 s, .bool true]) ∧ w' = w := by
  go_enter Try.func11, Try.ntmps11
  go_wp2_with fail
  refine (refOf_any' hn.out _).mono ?_
  rintro e w' ⟨rfl, rfl⟩
  go_wp2_with fail
  refine (refOf_any' hm.out _).mono ?_
  rintro e w' ⟨rfl, rfl⟩
  go_wp2_with fail
  refine (refOf_any' h.out _).mono ?_
  rintro e w' ⟨rfl, rfl⟩
  go_wp2_with fail
  go_ret2
  exact ⟨rfl, rfl⟩
set_option maxHeartbeats 1000000 in
theorem refDo_sub (a b n m s : Int) (w : World) (hn : Hid (wrap32 a = n)) (hm : Hid (wrap32 b = m)) (g1 : -2147483648 ≤ n ∧ n ≤ 2147483647) (g2 : -2147483648 ≤ m ∧ m ≤ 2147483647) (h : Hid (wrap32 (n - m) = s)) :
    Calls Try.prog 11 #[.int .i64 4, .int .i64 a, .int .i64 b] w fun e w' => e = .returned (.tuple #[.int .i64 s, .bool true]) ∧ w' = w := by
  go_enter Try.func11, Try.ntmps11
  go_wp2_with fail
  refine (refOf_any' hn.out _).mono ?_
  rintro e w' ⟨rfl, rfl⟩
  go_wp2_with fail
  refine (refOf_any' hm.out _).mono ?_
  rintro e w' ⟨rfl, rfl⟩
  go_wp2_with fail
  refine (refOf_any' h.out _).mono ?_
  rintro e w' ⟨rfl, rfl⟩
  go_wp2_with fail
  go_ret2
  exact ⟨rfl, rfl⟩
theorem mul_range (n m : Int) (g1 : -2147483648 ≤ n ∧ n ≤ 2147483647) (g2 : -2147483648 ≤ m ∧ m ≤ 2147483647) : IntKind.i64.wrap (n * m) = n * m := by
  have h1 : (n * m).natAbs ≤ 2147483648 * 2147483648 := by
    rw [Int.natAbs_mul]; exact Nat.mul_le_mul (by omega) (by omega)
  rw [IntKind.wrap_i64]
  generalize n * m = p at *
  omega
set_option maxHeartbeats 1000000 in
theorem refDo_mul (a b n m s : Int) (w : World) (hn : Hid (wrap32 a = n)) (hm : Hid (wrap32 b = m)) (g1 : -2147483648 ≤ n ∧ n ≤ 2147483647) (g2 : -2147483648 ≤ m ∧ m ≤ 2147483647) (h : Hid (wrap32 (n * m) = s)) :
    Calls Try.prog 11 #[.int .i64 5, .int .i64 a, .int .i64 b] w fun e w' => e = .returned (.tuple #[.int .i64 s, .bool true]) ∧ w' = w := by
  have hr := mul_range n m g1 g2
  clear g1 g2
  go_enter Try.func11, Try.ntmps11
  go_wp2_with fail
  refine (refOf_any' hn.out _).mono ?_
  rintro e w' ⟨rfl, rfl⟩
  go_wp2_with fail
  refine (refOf_any' hm.out _).mono ?_
  rintro e w' ⟨rfl, rfl⟩
  go_wp2_with fail
  refine (refOf_any' h.out _).mono ?_
  rintro e w' ⟨rfl, rfl⟩
  go_wp2_with fail
  go_ret2
  exact ⟨rfl, rfl⟩
set_option maxHeartbeats 1000000 in
theorem refDo_less (a b n m : Int) (w : World) (hn : Hid (wrap32 a = n)) (hm : Hid (wrap32 b = m)) :
    Calls Try.prog 11 #[.int .i64 8, .int .i64 a, .int .i64 b] w fun e w' => e = .returned (.tuple #[.int .i64 (if n < m then 1 else 0), .bool true]) ∧ w' = w := by
  by_cases h : n < m
  all_goals
    simp only [h, if_true, if_false]
    go_enter Try.func11, Try.ntmps11
    go_wp2_with fail
    refine (refOf_any' hn.out _).mono ?_
    rintro e w' ⟨rfl, rfl⟩
    go_wp2_with fail
    refine (refOf_any' hm.out _).mono ?_
    rintro e w' ⟨rfl, rfl⟩
    go_wp2_with fail
    go_ret2
    exact ⟨rfl, rfl⟩
set_option maxHeartbeats 1000000 in
theorem refDo_none (op a b : Int) (w : World) (h : op < 3 ∨ 8 < op) :
    Calls Try.prog 11 #[.int .i64 op, .int .i64 a, .int .i64 b] w fun e w' => e = .returned (.tuple #[.int .i64 0, .bool false]) ∧ w' = w := by
  have h3 : (op == 3) = false := by simp; omega
  have h4 : (op == 4) = false := by simp; omega
  have h5 : (op == 5) = false := by simp; omega
  have h6 : (op == 6) = false := by simp; omega
  have h7 : (op == 7) = false := by simp; omega
  have h8 : (op == 8) = false := by simp; omega
  clear h
  generalize hn : wrap32 a = n
  have hn : Hid _ := hn
  generalize hm : wrap32 b = m
  have hm : Hid _ := hm
  go_enter Try.func11, Try.ntmps11
  go_wp2_with fail
  refine (refOf_any' hn.out _).mono ?_
  rintro e w' ⟨rfl, rfl⟩
  go_wp2_with fail
  refine (refOf_any' hm.out _).mono ?_
  rintro e w' ⟨rfl, rfl⟩
  go_wp2_with fail
  go_ret2
  exact ⟨rfl, rfl⟩

theorem shl_step (A : Int) (j : Nat) : wrap32 (2 * wrap32 (A * 2 ^ j)) = wrap32 (A * 2 ^ (j + 1)) := by
  rw [Int.mul_comm, w32_mul, Int.mul_assoc, ← Int.pow_succ]
set_option maxHeartbeats 1000000 in
theorem refDo_shl (a b n m : Int) (k : Nat) (w : World) (hn : Hid (wrap32 a = n)) (hm : Hid (wrap32 b = m)) (hk : Hid (k < 32)) (hb : bits .and .i64 m 31 = (k : Int)) :
    Calls Try.prog 11 #[.int .i64 6, .int .i64 a, .int .i64 b] w fun e w' => e = .returned (.tuple #[.int .i64 (wrap32 (n * 2 ^ k)), .bool true]) ∧ w' = w := by
  go_enter Try.func11, Try.ntmps11
  go_wp2_with fail
  refine (refOf_any' hn.out _).mono ?_
  rintro e w' ⟨rfl, rfl⟩
  go_wp2_with fail
  refine (refOf_any' hm.out _).mono ?_
  rintro e w' ⟨rfl, rfl⟩
  go_wp2_with fail
  go_loop [1, 9] (fun x i => ∃ j : Nat, j ≤ k ∧ i = .int .i64 j ∧ x = .int .i64 (wrap32 (n * 2 ^ j))) (fun _ i => k - (intOf i).toNat)
  case atStart => exact ⟨0, Nat.zero_le _, rfl, by rw [Int.pow_zero, Int.mul_one, ← hn.out, w32_idem]⟩
  case round =>
    obtain ⟨j, hj, rfl, rfl⟩ := hrel
    have hk' := hk.out
    by_cases hlt : j < k
    · have HS : Hid (wrap32 (2 * wrap32 (n * 2 ^ j)) = wrap32 (n * 2 ^ (j + 1))) := shl_step n j
      have hr := w32_range (n * 2 ^ j)
      generalize wrap32 (n * 2 ^ j) = x at *
      generalize hy : wrap32 (n * 2 ^ (j + 1)) = y at *
      have HY : Hid _ := hy
      clear hy
      go_wp2_with fail
      refine (refOf_any' HS.out _).mono ?_
      rintro e w' ⟨rfl, rfl⟩
      go_wp2_with fail
      go_round
      case rel => exact ⟨j + 1, by omega, by go_num, by rw [HY.out]⟩
      case measure => simp [intOf]; omega
    · go_wp2_with fail
      go_ret2
      have e : j = k := by omega
      exact ⟨ret_pair (by rw [e]), rfl⟩
theorem shr_step (A : Int) (j : Nat) : A / 2 ^ (j + 1) = A / 2 ^ j / 2 := by
  rw [Int.pow_succ, Int.ediv_ediv_of_nonneg (Int.le_of_lt (Int.pow_pos (by decide)))]
theorem tdiv_neg (x : Int) (h : x < 0) : (x - 1).tdiv 2 = x / 2 := by
  have : x - 1 = - (1 - x) := by omega
  rw [this, Int.neg_tdiv, Int.tdiv_eq_ediv_of_nonneg (by omega)]
  omega
theorem tdiv_pos (x : Int) (h : 0 ≤ x) : x.tdiv 2 = x / 2 := Int.tdiv_eq_ediv_of_nonneg h
set_option maxHeartbeats 1000000 in
theorem refDo_shr (a b n m : Int) (k : Nat) (w : World) (hn : Hid (wrap32 a = n)) (hm : Hid (wrap32 b = m)) (hk : Hid (k < 32)) (hb : bits .and .i64 m 31 = (k : Int)) :
    Calls Try.prog 11 #[.int .i64 7, .int .i64 a, .int .i64 b] w fun e w' => e = .returned (.tuple #[.int .i64 (n / 2 ^ k), .bool true]) ∧ w' = w := by
  have hR : Hid (-2147483648 ≤ n ∧ n ≤ 2147483647) := hn.out ▸ w32_range a
  go_enter Try.func11, Try.ntmps11
  go_wp2_with fail
  refine (refOf_any' hn.out _).mono ?_
  rintro e w' ⟨rfl, rfl⟩
  go_wp2_with fail
  refine (refOf_any' hm.out _).mono ?_
  rintro e w' ⟨rfl, rfl⟩
  go_wp2_with fail
  go_loop [1, 10] (fun x i => ∃ j : Nat, j ≤ k ∧ i = .int .i64 j ∧ x = .int .i64 (n / 2 ^ j)) (fun _ i => k - (intOf i).toNat)
  case atStart => exact ⟨0, Nat.zero_le _, rfl, by rw [Int.pow_zero, Int.ediv_one]⟩
  case round =>
    obtain ⟨j, hj, rfl, rfl⟩ := hrel
    have hk' := hk.out
    by_cases hlt : j < k
    · have HS : Hid (n / 2 ^ (j + 1) = n / 2 ^ j / 2) := shr_step n j
      have hr := div_range n j hR.out
      generalize n / 2 ^ j = x at *
      by_cases h0 : x < 0
      · have ht := tdiv_neg x h0
        go_wp2_with fail
        go_round
        case rel => exact ⟨j + 1, by omega, by go_num, by rw [HS.out]⟩
        case measure => simp [intOf]; omega
      · have ht := tdiv_pos x (by omega)
        go_wp2_with fail
        go_round
        case rel => exact ⟨j + 1, by omega, by go_num, by rw [HS.out]⟩
        case measure => simp [intOf]; omega
    · go_wp2_with fail
      go_ret2
      have e : j = k := by omega
      exact ⟨ret_pair (by rw [e]), rfl⟩

end Go.Proofs.Ytndekmhgpcibdaa

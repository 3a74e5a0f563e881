/- The walks of word's plain functions: Of, Do by each op, Heap, Stack: what each returns, in plain numbers; the world stays. -/
import Derived.Test.YtndekmhgpcibdaaRows
import Derived.WalkKit
import Derived.WalkSpells
namespace Go.Proofs.Ytndekmhgpcibdaa
open Go.RowKit

theorem ret_int {k : IntKind} {a b : Int} (h : a = b) : Ending.returned (.int k a) = .returned (.int k b) := by rw [h]
theorem ret_pair {k : IntKind} {a b : Int} {c : Bool} (h : a = b) : Ending.returned (.tuple #[.int k a, .bool c]) = .returned (.tuple #[.int k b, .bool c]) := by rw [h]

theorem w32_range (n : Int) : -2147483648 ≤ wrap32 n ∧ wrap32 n ≤ 2147483647 := by unfold wrap32; omega
theorem w32_idem (n : Int) : wrap32 (wrap32 n) = wrap32 n := by unfold wrap32; omega
theorem w32_id (n : Int) (h : -2147483648 ≤ n ∧ n ≤ 2147483647) : wrap32 n = n := by unfold wrap32; omega

theorem w64_w32 (n : Int) : wrap64 (wrap32 n) = wrap32 n := by unfold wrap64 wrap32; omega
theorem div_range (n : Int) (k : Nat) (h : -2147483648 ≤ n ∧ n ≤ 2147483647) : -2147483648 ≤ n / 2 ^ k ∧ n / 2 ^ k ≤ 2147483647 := by
  have hp : (0 : Int) < 2 ^ k := Int.pow_pos (by decide)
  generalize (2 : Int) ^ k = m at *
  constructor
  · refine Int.le_ediv_of_mul_le hp ?_
    have : (-2147483648 : Int) * m ≤ -2147483648 * 1 := Int.mul_le_mul_of_nonpos_left (by omega) (by omega)
    omega
  · by_cases h0 : 0 ≤ n
    · exact Int.le_trans (Int.ediv_le_self _ h0) h.2
    · have : n / m < 0 := Int.ediv_neg_of_neg_of_pos (by omega) hp
      omega
theorem w64_shr (n : Int) (k : Nat) : wrap64 (wrap32 n / 2 ^ k) = wrap32 n / 2 ^ k := by
  have := div_range (wrap32 n) k (w32_range n)
  generalize wrap32 n / 2 ^ k = x at *
  unfold wrap64; omega

theorem of_any (a : Int) (w : World) :
    Calls Try.prog 12 #[.int .i64 a] w fun e w' => e = .returned (.int .i64 (wrap32 a)) ∧ w' = w := by
  have h := w32_range a
  go_enter Try.func12, Try.ntmps12
  go_wp2
  go_ret
  exact ⟨ret_int (by first | rfl | omega), rfl⟩

theorem heap_any (a : Int) (w : World) :
    Calls Try.prog 14 #[.int .i64 a] w fun e w' => e = .returned (.bool (decide (1048576 ≤ a) && decide (a < 1050624))) ∧ w' = w := by
  by_cases h1 : 1048576 ≤ a <;> by_cases h2 : a < 1050624 <;> simp only [h1, h2, decide_true, decide_false, Bool.and_true, Bool.and_false] <;>
  · go_enter Try.func14, Try.ntmps14
    go_wp2
    go_ret
    exact ⟨rfl, rfl⟩
theorem refHeap_any (a : Int) (w : World) :
    Calls Try.prog 15 #[.int .i64 a] w fun e w' => e = .returned (.bool (decide (1048576 ≤ a) && decide (a < 1050624))) ∧ w' = w := by
  by_cases h1 : 1048576 ≤ a <;> by_cases h2 : a < 1050624 <;> simp only [h1, h2, decide_true, decide_false, Bool.and_true, Bool.and_false] <;>
  · go_enter Try.func15, Try.ntmps15
    go_wp2
    go_ret
    exact ⟨rfl, rfl⟩
theorem stack_any (a : Int) (w : World) :
    Calls Try.prog 16 #[.int .i64 a] w fun e w' => e = .returned (.bool (decide (1073741824 ≤ a))) ∧ w' = w := by
  by_cases h1 : 1073741824 ≤ a <;> simp only [h1, decide_true, decide_false] <;>
  · go_enter Try.func16, Try.ntmps16
    go_wp2
    go_ret
    exact ⟨rfl, rfl⟩

/-- How far a number shifts. -/
def stN (b : Int) : Nat := (b % 32).toNat
theorem stN_lt (b : Int) : stN b < 32 := by unfold stN; omega
theorem stN_w32 (b : Int) : stN (wrap32 b) = stN b := by unfold stN wrap32; omega
theorem u32_and31 (n : Int) : bits .and .u32 n 31 = n % 32 := by
  have h31 : (BitVec.ofInt 32 31).toNat = 2 ^ 5 - 1 := by decide
  have key : (BitVec.ofInt 32 n &&& BitVec.ofInt 32 31).toNat = (n % ((2 ^ 32 : Nat) : Int)).toNat % 2 ^ 5 := by
    rw [BitVec.toNat_and, BitVec.toNat_ofInt, h31, Nat.and_two_pow_sub_one_eq_mod]
  show IntKind.u32.wrap ((BitVec.ofInt 32 n &&& BitVec.ofInt 32 31).toNat : Nat) = n % 32
  rw [key, IntKind.wrap_u32]
  omega
theorem steps_any (b : Int) (w : World) :
    Calls Try.prog 21 #[.int .i32 b] w fun e w' => e = .returned (.int .u32 (stN b : Nat)) ∧ w' = w := by
  go_enter Try.func21, Try.ntmps21
  go_wp2
  go_ret
  exact ⟨ret_int (by rw [u32_and31]; unfold stN; omega), rfl⟩
theorem less_any (a b : Int) (w : World) :
    Calls Try.prog 22 #[.int .i32 a, .int .i32 b] w fun e w' => e = .returned (.int .i64 (if a < b then 1 else 0)) ∧ w' = w := by
  by_cases h1 : a < b <;> simp only [h1, if_true, if_false] <;>
  · go_enter Try.func22, Try.ntmps22
    go_wp2
    go_ret
    exact ⟨rfl, rfl⟩

theorem do_add (a b : Int) (w : World) :
    Calls Try.prog 10 #[.int .i64 3, .int .i64 a, .int .i64 b] w fun e w' => e = .returned (.tuple #[.int .i64 (wrap32 (wrap32 a + wrap32 b)), .bool true]) ∧ w' = w := by
  go_enter Try.func10, Try.ntmps10
  go_wp2
  go_ret2
  exact ⟨ret_pair (w64_w32 _), rfl⟩
theorem do_sub (a b : Int) (w : World) :
    Calls Try.prog 10 #[.int .i64 4, .int .i64 a, .int .i64 b] w fun e w' => e = .returned (.tuple #[.int .i64 (wrap32 (wrap32 a - wrap32 b)), .bool true]) ∧ w' = w := by
  go_enter Try.func10, Try.ntmps10
  go_wp2
  go_ret2
  exact ⟨ret_pair (w64_w32 _), rfl⟩
theorem do_mul (a b : Int) (w : World) :
    Calls Try.prog 10 #[.int .i64 5, .int .i64 a, .int .i64 b] w fun e w' => e = .returned (.tuple #[.int .i64 (wrap32 (wrap32 a * wrap32 b)), .bool true]) ∧ w' = w := by
  go_enter Try.func10, Try.ntmps10
  go_wp2
  go_ret2
  exact ⟨ret_pair (w64_w32 _), rfl⟩
theorem do_shl (a b : Int) (w : World) :
    Calls Try.prog 10 #[.int .i64 6, .int .i64 a, .int .i64 b] w fun e w' => e = .returned (.tuple #[.int .i64 (wrap32 (wrap32 a * 2 ^ stN b)), .bool true]) ∧ w' = w := by
  have hk := stN_lt b
  have hb := stN_w32 b
  generalize hx : wrap32 b = y at hb
  go_enter Try.func10, Try.ntmps10
  go_wp2_with (go_at_call 21; refine (steps_any _ _).mono ?_; rintro e w' ⟨rfl, rfl⟩; rw [hx, hb]; clear hx hb)
  go_ret2
  exact ⟨ret_pair (w64_w32 _), rfl⟩
theorem do_shr (a b : Int) (w : World) :
    Calls Try.prog 10 #[.int .i64 7, .int .i64 a, .int .i64 b] w fun e w' => e = .returned (.tuple #[.int .i64 (wrap32 a / 2 ^ stN b), .bool true]) ∧ w' = w := by
  have hk := stN_lt b
  have hb := stN_w32 b
  generalize hx : wrap32 b = y at hb
  go_enter Try.func10, Try.ntmps10
  go_wp2_with (go_at_call 21; refine (steps_any _ _).mono ?_; rintro e w' ⟨rfl, rfl⟩; rw [hx, hb]; clear hx hb)
  go_ret2
  exact ⟨ret_pair (w64_shr _ _), rfl⟩
theorem do_less (a b : Int) (w : World) :
    Calls Try.prog 10 #[.int .i64 8, .int .i64 a, .int .i64 b] w fun e w' => e = .returned (.tuple #[.int .i64 (if wrap32 a < wrap32 b then 1 else 0), .bool true]) ∧ w' = w := by
  generalize hz : (if wrap32 a < wrap32 b then (1 : Int) else 0) = z
  go_enter Try.func10, Try.ntmps10
  go_wp2_with (go_at_call 22; refine (less_any _ _ _).mono ?_; rintro e w' ⟨rfl, rfl⟩; rw [hz])
  go_ret2
  exact ⟨ret_pair (by first | rfl | omega), rfl⟩
theorem do_none (op a b : Int) (w : World) (h : op < 3 ∨ 8 < op) :
    Calls Try.prog 10 #[.int .i64 op, .int .i64 a, .int .i64 b] w fun e w' => e = .returned (.tuple #[.int .i64 0, .bool false]) ∧ w' = w := by
  have h3 : (op == 3) = false := by simp; omega
  have h4 : (op == 4) = false := by simp; omega
  have h5 : (op == 5) = false := by simp; omega
  have h6 : (op == 6) = false := by simp; omega
  have h7 : (op == 7) = false := by simp; omega
  have h8 : (op == 8) = false := by simp; omega
  go_enter Try.func10, Try.ntmps10
  go_wp2
  go_ret2
  exact ⟨rfl, rfl⟩

end Go.Proofs.Ytndekmhgpcibdaa

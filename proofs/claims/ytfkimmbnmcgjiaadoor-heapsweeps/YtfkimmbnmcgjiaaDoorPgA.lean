/- The walks of the plain functions on page's road: between, below, Mask, Size, Slots, bit, the document's Size: what each returns, in plain numbers. -/
import Derived.Test.YtfkimmbnmcgjiaaDoorRows
import Derived.WalkKit
import Derived.WalkSpells
import Derived.Below
namespace Go.Proofs.YtfkimmbnmcgjiaaDoor
open Go.RowKit

theorem ret_int {k : IntKind} {a b : Int} (h : a = b) : Ending.returned (.int k a) = .returned (.int k b) := by rw [h]

set_option maxHeartbeats 400000 in
theorem between_any (k lo hi : Int) (w : World) :
    Calls Tryd.prog 66 #[.int .i64 k, .int .i64 lo, .int .i64 hi] w fun e w' => e = .returned (.int .i64 (min (max k lo) hi)) ∧ w' = w := by
  go_enter Tryd.func66, Tryd.ntmps66
  go_wp2
  all_goals
    go_ret
    exact ⟨ret_int (by omega), rfl⟩

/-- How many of the lowest bits a number asks for. -/
def cl (k : Int) : Nat := (min (max k 0) 64).toNat
theorem cl_le (k : Int) : cl k ≤ 64 := by unfold cl; omega
theorem cl_cast (k : Int) : ((cl k : Nat) : Int) = min (max k 0) 64 := by unfold cl; omega

theorem below_num (n : Nat) (h : n ≤ 64) : IntKind.u64.wrap (IntKind.u64.wrap (2 ^ n) - 1) = ((2 ^ n - 1 : Nat) : Int) := by
  rw [IntKind.wrap_u64, IntKind.wrap_u64]
  by_cases h' : n = 64
  · subst h'; decide
  · have h1 : 2 ^ n < 2 ^ 64 := Nat.pow_lt_pow_of_lt (by decide) (by omega)
    have h2 : 0 < 2 ^ n := Nat.two_pow_pos _
    have h3 : ((2 : Int) ^ n) = ((2 ^ n : Nat) : Int) := by simp
    rw [h3]
    generalize 2 ^ n = m at *
    omega
theorem pow_cl (k : Int) : 2 ^ cl k - 1 < 18446744073709551616 := by
  have := cl_le k
  have h1 : 2 ^ cl k ≤ 2 ^ 64 := Nat.pow_le_pow_right (by decide) this
  omega

set_option maxHeartbeats 400000 in
theorem below_any (k : Int) (w : World) :
    Calls Tryd.prog 63 #[.int .i64 k] w fun e w' => e = .returned (.int .u64 ((2 ^ cl k - 1 : Nat) : Int)) ∧ w' = w := by
  have hc := cl_cast k
  have hl := cl_le k
  go_enter Tryd.func63, Tryd.ntmps63
  go_wp2_with (go_at_call 66; refine (between_any _ _ _ _).mono ?_; rintro e w' ⟨rfl, rfl⟩; rw [← hc]; clear hc)
  go_ret
  exact ⟨ret_int (below_num _ hl), rfl⟩

/-- The bits from f on and below t, as a number. -/
def maskN (f t : Nat) : Nat := (2 ^ t - 1) &&& (18446744073709551615 - (2 ^ f - 1))
theorem maskN_bit (f t i : Nat) (hf : f ≤ 64) (hi : i < 64) : (maskN f t).testBit i = (decide (f ≤ i) && decide (i < t)) := by
  unfold maskN
  have e : 18446744073709551615 - (2 ^ f - 1) = 2 ^ 64 - (2 ^ f - 1 + 1) := by omega
  have hp : 2 ^ f ≤ 2 ^ 64 := Nat.pow_le_pow_right (by decide) hf
  have h0 := Nat.two_pow_pos f
  rw [e, Nat.testBit_and, Nat.testBit_two_pow_sub_one, Nat.testBit_two_pow_sub_succ (by omega), Nat.testBit_two_pow_sub_one]
  by_cases h1 : i < t <;> by_cases h2 : i < f <;> simp [h1, h2, hi] <;> omega

set_option maxHeartbeats 400000 in
theorem mask_any (f t : Int) (w : World) :
    Calls Tryd.prog 55 #[.int .i64 f, .int .i64 t] w fun e w' => e = .returned (.int .u64 (maskN (cl f) (cl t) : Nat)) ∧ w' = w := by
  have h1 := pow_cl f
  have h2 := pow_cl t
  go_enter Tryd.func55, Tryd.ntmps55
  go_wp2_with (go_at_call 63; refine (below_any _ _).mono ?_; rintro e w' ⟨rfl, rfl⟩)
  go_ret
  exact ⟨ret_int (u64_andNot_nat _ _ h2 h1), rfl⟩

theorem bit_num (m : Nat) (h : m < 64) : IntKind.u64.wrap (2 ^ m) = ((2 ^ m : Nat) : Int) := by
  have h1 : 2 ^ m < 2 ^ 64 := Nat.pow_lt_pow_of_lt (by decide) h
  have h3 : ((2 : Int) ^ m) = ((2 ^ m : Nat) : Int) := by simp
  rw [IntKind.wrap_u64, h3]
  generalize 2 ^ m = M at *
  omega


set_option maxHeartbeats 400000 in
theorem bit_any (k : Nat) (w : World) (hm : k < 64) :
    Calls Tryd.prog 58 #[.int .i64 k] w fun e w' => e = .returned (.int .u64 (2 ^ k : Nat)) ∧ w' = w := by
  go_enter Tryd.func58, Tryd.ntmps58
  go_wp2
  go_ret
  exact ⟨ret_int (bit_num _ hm), rfl⟩
theorem bit_is {k t : Nat} (w : World) (hm : k < 64) (ht : Hid (2 ^ k = t)) :
    Calls Tryd.prog 58 #[.int .i64 k] w fun e w' => e = .returned (.int .u64 t) ∧ w' = w := by
  rw [← ht.out]; exact bit_any k w hm

/-- How many words a slot of a class has. -/
def szN (c : Int) : Int := if c = 0 then 1 else if c = 1 then 2 else if c = 2 then 3 else if c = 3 then 4 else if c = 4 then 6 else if c = 5 then 8 else if c = 6 then 12 else if c = 7 then 16 else 0
/-- How many slots a page of a class has. -/
def slN (c : Int) : Int := if c = 0 then 32 else if c = 1 then 16 else if c = 2 then 10 else if c = 3 then 8 else if c = 4 then 5 else if c = 5 then 4 else if c = 6 then 2 else if c = 7 then 2 else 0
theorem none_sz {c : Int} (h : c < 0 ∨ 7 < c) : szN c = 0 := by unfold szN; repeat' split
                                                                all_goals omega
theorem none_sl {c : Int} (h : c < 0 ∨ 7 < c) : slN c = 0 := by unfold slN; repeat' split
                                                                all_goals omega
theorem each_class (c : Int) : (c < 0 ∨ 7 < c) ∨ c = 0 ∨ c = 1 ∨ c = 2 ∨ c = 3 ∨ c = 4 ∨ c = 5 ∨ c = 6 ∨ c = 7 := by omega

set_option maxHeartbeats 1000000 in
theorem size_none (c : Int) (w : World) (h : c < 0 ∨ 7 < c) :
    Calls Tryd.prog 44 #[.int .i64 c] w fun e w' => e = .returned (.int .i64 0) ∧ w' = w := by
  by_cases h1 : c < 0
  · go_enter Tryd.func44, Tryd.ntmps44
    go_wp2
    go_ret
    exact ⟨rfl, rfl⟩
  · have h2 : 8 ≤ c := by omega
    go_enter Tryd.func44, Tryd.ntmps44
    go_wp2
    go_ret
    exact ⟨rfl, rfl⟩

set_option maxHeartbeats 2000000 in
theorem size_any (c : Int) (w : World) :
    Calls Tryd.prog 44 #[.int .i64 c] w fun e w' => e = .returned (.int .i64 (szN c)) ∧ w' = w := by
  rcases each_class c with h | rfl | rfl | rfl | rfl | rfl | rfl | rfl | rfl
  · rw [none_sz h]; exact size_none c w h
  all_goals
    go_enter Tryd.func44, Tryd.ntmps44
    go_wp2
    go_ret
    exact ⟨ret_int (by decide +kernel), rfl⟩

theorem size_any' {c s : Int} (h : szN c = s) (w : World) :
    Calls Tryd.prog 44 #[.int .i64 c] w fun e w' => e = .returned (.int .i64 s) ∧ w' = w := h ▸ size_any c w

set_option maxHeartbeats 2000000 in
theorem slots_any (c : Int) (w : World) :
    Calls Tryd.prog 51 #[.int .i64 c] w fun e w' => e = .returned (.int .i64 (slN c)) ∧ w' = w := by
  rcases each_class c with h | rfl | rfl | rfl | rfl | rfl | rfl | rfl | rfl
  · rw [none_sl h]
    have hs : szN c = 0 := none_sz h
    go_enter Tryd.func51, Tryd.ntmps51
    go_wp2_with fail
    refine (size_any' hs _).mono ?_
    rintro e w' ⟨rfl, rfl⟩
    go_wp2
    go_ret
    exact ⟨rfl, rfl⟩
  all_goals
    go_enter Tryd.func51, Tryd.ntmps51
    go_wp2_with fail
    refine (size_any' (by rfl) _).mono ?_
    rintro e w' ⟨rfl, rfl⟩
    go_wp2
    go_ret
    exact ⟨ret_int (by decide +kernel), rfl⟩
theorem slots_any' {c s : Int} (h : slN c = s) (w : World) :
    Calls Tryd.prog 51 #[.int .i64 c] w fun e w' => e = .returned (.int .i64 s) ∧ w' = w := h ▸ slots_any c w

set_option maxHeartbeats 2000000 in
theorem refSize_any (c : Int) (w : World) :
    Calls Tryd.prog 28 #[.int .i64 c] w fun e w' => e = .returned (.int .i64 (szN c)) ∧ Below w.heap.size w w' := by
  rcases each_class c with h | rfl | rfl | rfl | rfl | rfl | rfl | rfl | rfl
  · rw [none_sz h]
    by_cases h1 : c < 0
    · go_enter Tryd.func28, Tryd.ntmps28
      go_wp2_with fail
      go_ret
      exact ⟨rfl, Below.refl _ _⟩
    · have h2 : 7 < c := by omega
      go_enter Tryd.func28, Tryd.ntmps28
      go_wp2_with fail
      go_ret
      exact ⟨rfl, Below.refl _ _⟩
  all_goals
    go_enter Tryd.func28, Tryd.ntmps28
    go_wp2_with fail
    go_ret
    exact ⟨ret_int (by decide +kernel), (Below.refl _ _).alloc (Nat.le_refl _) _⟩

theorem refSize_any' {c s : Int} (h : szN c = s) (w : World) :
    Calls Tryd.prog 28 #[.int .i64 c] w fun e w' => e = .returned (.int .i64 s) ∧ Below w.heap.size w w' := h ▸ refSize_any c w


end Go.Proofs.YtfkimmbnmcgjiaaDoor

/- The walk of the law SieveMasks. -/
import Derived.Test.YthnnbhpaejemnaaDoorSvH
namespace Go.Proofs.YthnnbhpaejemnaaDoor
open Go.RowKit

theorem bit_test (m j : Nat) (hm : m < 18446744073709551616) : (bits BinOp.and IntKind.u64 ((m : Int) / 2 ^ j) 1 == 1) = m.testBit j := by
  have e : ((m : Int) / 2 ^ j) = ((m / 2 ^ j : Nat) : Int) := by simp
  have hle : m / 2 ^ j ≤ m := Nat.div_le_self _ _
  rw [e, Nat.testBit_eq_decide_div_mod_eq]
  generalize m / 2 ^ j = d at *
  rw [and_one_u64 _ (by omega) (by omega), Bool.eq_iff_iff]
  simp
  omega

set_option maxHeartbeats 400000 in
theorem masks_any (f t : Int) (w : World) (hT : Tab w) :
    Calls Tryd.prog 4 #[.int .i64 f, .int .i64 t] w fun e w' => e = .returned (.bool true) ∧ Below w.heap.size w w' := by
  have HL : Hid (maskN (cl f) (cl t) < 18446744073709551616) := Nat.lt_of_le_of_lt Nat.and_le_left (pow_cl _)
  have HB : ∀ i, i < 64 → (maskN (cl f) (cl t)).testBit i = (decide (cl f ≤ i) && decide (i < cl t)) := fun i hi => maskN_bit _ _ _ (cl_le f) hi
  go_enter Tryd.func4, Tryd.ntmps4
  go_wp2_with fail
  refine (alive_any _ hT).mono ?_
  rintro e w1 ⟨rfl, hB⟩
  clear hT
  go_wp2_with fail
  refine (mask_any f t _).mono ?_
  rintro e w2 ⟨rfl, rfl⟩
  generalize maskN (cl f) (cl t) = m at *
  have HB' : Hid (∀ i, i < 64 → m.testBit i = (decide (cl f ≤ i) && decide (i < cl t))) := HB
  clear HB
  have HBw : Hid (Below w.heap.size w w2) := hB
  clear hB
  go_wp2_with fail
  go_loop [6] (fun i => ∃ j : Nat, j ≤ 64 ∧ i = .int .i64 j) (fun i => 64 - (intOf i).toNat)
  case atStart => exact ⟨0, by decide, rfl⟩
  case round =>
    obtain ⟨j, hj, rfl⟩ := hrel
    by_cases hlt : j < 64
    · have hbit := bit_test m j HL.out
      rw [HB'.out j hlt] at hbit
      by_cases h1 : f ≤ (j : Int)
      · have e1 : decide (cl f ≤ j) = true := by rw [decide_eq_true_iff]; unfold cl; omega
        by_cases h2 : (j : Int) < t
        · have e2 : decide (j < cl t) = true := by rw [decide_eq_true_iff]; unfold cl; omega
          rw [e1, e2] at hbit
          simp only [Bool.and_self] at hbit
          clear e1 e2
          go_wp2
          go_round
          case rel => exact ⟨j + 1, by omega, by go_num⟩
          case measure => simp [intOf]; omega
        · have e2 : decide (j < cl t) = false := by rw [decide_eq_false_iff_not]; unfold cl; omega
          rw [e1, e2] at hbit
          simp only [Bool.and_false] at hbit
          clear e1 e2
          go_wp2
          go_round
          case rel => exact ⟨j + 1, by omega, by go_num⟩
          case measure => simp [intOf]; omega
      · have e1 : decide (cl f ≤ j) = false := by rw [decide_eq_false_iff_not]; unfold cl; omega
        rw [e1] at hbit
        simp only [Bool.false_and] at hbit
        clear e1
        go_wp2
        go_round
        case rel => exact ⟨j + 1, by omega, by go_num⟩
        case measure => simp [intOf]; omega
    · go_wp2
      go_ret
      exact ⟨rfl, HBw.out⟩

end Go.Proofs.YthnnbhpaejemnaaDoor

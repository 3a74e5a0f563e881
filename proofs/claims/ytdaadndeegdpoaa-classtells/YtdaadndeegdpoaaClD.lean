/- The document's own Size and Class: they lay new memory. -/
import Derived.Test.YtdaadndeegdpoaaClB
namespace Go.Proofs.Ytdaadndeegdpoaa
open Go.RowKit

set_option maxHeartbeats 2000000 in
theorem refSize_any (c : Int) (w : World) :
    Calls Try.prog 7 #[.int .i64 c] w fun e w' => e = .returned (.int .i64 (szN c)) ∧ Below w.heap.size w w' := by
  rcases each_class c with h | rfl | rfl | rfl | rfl | rfl | rfl | rfl | rfl
  · rw [none_sz h]
    by_cases h1 : c < 0
    · go_enter Try.func7, Try.ntmps7
      go_wp2_with fail
      go_ret
      exact ⟨rfl, Below.refl _ _⟩
    · have h2 : 7 < c := by omega
      go_enter Try.func7, Try.ntmps7
      go_wp2_with fail
      go_ret
      exact ⟨rfl, Below.refl _ _⟩
  all_goals
    go_enter Try.func7, Try.ntmps7
    go_wp2_with fail
    go_ret
    exact ⟨ret_int (by decide +kernel), (Below.refl _ _).alloc (Nat.le_refl _) _⟩

theorem refSize_any' {c s : Int} (h : szN c = s) (w : World) :
    Calls Try.prog 7 #[.int .i64 c] w fun e w' => e = .returned (.int .i64 s) ∧ Below w.heap.size w w' := h ▸ refSize_any c w

set_option maxHeartbeats 1000000 in
theorem refClass_any (n : Int) (w : World) :
    Calls Try.prog 8 #[.int .i64 n] w fun e w' => e = .returned (.int .i64 (ofN n)) ∧ Below w.heap.size w w' := by
  by_cases h1 : n < 1
  · go_enter Try.func8, Try.ntmps8
    go_wp2_with fail
    go_loop [3] (fun v => ∃ i : Int, 0 ≤ i ∧ i ≤ 8 ∧ v = .int .i64 i) (fun v => 8 - (intOf v).toNat)
    case atStart => exact ⟨0, by omega, by omega, rfl⟩
    case round =>
      obtain ⟨i, h0, h8, rfl⟩ := hrel
      by_cases hlt : i ≤ 7
      · go_wp2_with fail
        go_round
        case rel => exact ⟨i + 1, by omega, by omega, by go_num⟩
        case measure => simp [intOf]; omega
      · go_wp2_with fail
        go_ret
        exact ⟨ret_int (by unfold ofN; rw [if_pos h1]), Below.refl _ _⟩
  · go_enter Try.func8, Try.ntmps8
    go_wp2_with fail
    go_loopw [3] (fun v wr => ∃ i : Int, 0 ≤ i ∧ i ≤ 8 ∧ v = .int .i64 i ∧ Hid (∀ j, 0 ≤ j → j < i → szN j < n) ∧ Hid (Below w.heap.size w wr)) (fun v _ => 8 - (intOf v).toNat)
    case atStart => exact ⟨0, by omega, by omega, rfl, fun j h h' => absurd h' (by omega), Below.refl _ _⟩
    case round =>
      obtain ⟨i, h0, h8, rfl, hb, hB⟩ := hrel
      by_cases hlt : i ≤ 7
      · obtain ⟨s, hs⟩ : ∃ s, Hid (szN i = s) := ⟨_, rfl⟩
        by_cases hge : n ≤ s
        · go_wp2_with fail
          refine (refSize_any' hs.out _).mono ?_
          rintro e w' ⟨rfl, hw⟩
          go_wp2_with fail
          go_ret
          exact ⟨ret_int (of_found i ⟨h0, by omega⟩ (by omega) hb.out (by rw [hs.out]; exact hge)).symm, hB.out.trans (hw.mono hB.out.size)⟩
        · go_wp2_with fail
          refine (refSize_any' hs.out _).mono ?_
          rintro e w' ⟨rfl, hw⟩
          go_wp2_with fail
          go_round
          case rel => exact ⟨i + 1, by omega, by omega, by go_num, fun j hj hj' => by
            by_cases e : j = i
            · rw [e, hs.out]; omega
            · exact hb.out j hj (by omega), hB.out.trans (hw.mono hB.out.size)⟩
          case measure => simp [intOf]; omega
      · go_wp2_with fail
        go_ret
        have e : i = 8 := by omega
        exact ⟨ret_int (of_none (by rw [← e]; exact hb.out)).symm, hB.out⟩
theorem refClass_any' {c s : Int} (h : ofN c = s) (w : World) :
    Calls Try.prog 8 #[.int .i64 c] w fun e w' => e = .returned (.int .i64 s) ∧ Below w.heap.size w w' := h ▸ refClass_any c w

end Go.Proofs.Ytdaadndeegdpoaa

/- The walks of class.Of and of the document's Class, over PgA's sizes. -/
import Derived.Test.YtfkimmbnmcgjiaaDoorPgA
namespace Go.Proofs.YtfkimmbnmcgjiaaDoor
open Go.RowKit

/-- The class of so many words. -/
def ofN (n : Int) : Int := if n < 1 then -1 else if n ≤ 1 then 0 else if n ≤ 2 then 1 else if n ≤ 3 then 2 else if n ≤ 4 then 3 else if n ≤ 6 then 4 else if n ≤ 8 then 5 else if n ≤ 12 then 6 else if n ≤ 16 then 7 else -1
/-! ### class.Of -/
theorem of_found {n : Int} (i : Int) (h : 0 ≤ i ∧ i < 8) (h1 : 1 ≤ n) (hb : ∀ j, 0 ≤ j → j < i → szN j < n) (hi : n ≤ szN i) : ofN n = i := by
  have h8 : i = 0 ∨ i = 1 ∨ i = 2 ∨ i = 3 ∨ i = 4 ∨ i = 5 ∨ i = 6 ∨ i = 7 := by omega
  have b0 := hb 0; have b1 := hb 1; have b2 := hb 2; have b3 := hb 3; have b4 := hb 4; have b5 := hb 5; have b6 := hb 6
  simp [szN] at b0 b1 b2 b3 b4 b5 b6
  rcases h8 with rfl | rfl | rfl | rfl | rfl | rfl | rfl | rfl <;> simp [szN] at hi <;> simp at b0 b1 b2 b3 b4 b5 b6 <;> unfold ofN <;> (repeat' split) <;> omega
theorem of_none {n : Int} (hb : ∀ j, 0 ≤ j → j < 8 → szN j < n) : ofN n = -1 := by
  have b7 := hb 7
  simp [szN] at b7
  unfold ofN; (repeat' split) <;> omega

set_option maxHeartbeats 1000000 in
theorem of_any (n : Int) (w : World) :
    Calls Tryd.prog 25 #[.int .i64 n] w fun e w' => e = .returned (.int .i64 (ofN n)) ∧ w' = w := by
  by_cases h1 : n < 1
  · go_enter Tryd.func25, Tryd.ntmps25
    go_wp2_with fail
    go_ret
    exact ⟨ret_int (by unfold ofN; rw [if_pos h1]), rfl⟩
  · go_enter Tryd.func25, Tryd.ntmps25
    go_wp2_with fail
    go_loop [6] (fun v => ∃ i : Int, 0 ≤ i ∧ i ≤ 8 ∧ v = .int .i64 i ∧ Hid (∀ j, 0 ≤ j → j < i → szN j < n)) (fun v => 8 - (intOf v).toNat)
    case atStart => exact ⟨0, by omega, by omega, rfl, fun j h h' => absurd h' (by omega)⟩
    case round =>
      obtain ⟨i, h0, h8, rfl, hb⟩ := hrel
      by_cases hlt : i < 8
      · obtain ⟨s, hs⟩ : ∃ s, Hid (szN i = s) := ⟨_, rfl⟩
        by_cases hge : n ≤ s
        · go_wp2_with fail
          refine (size_any' hs.out _).mono ?_
          rintro e w' ⟨rfl, rfl⟩
          go_wp2_with fail
          go_ret
          exact ⟨ret_int (of_found i ⟨h0, hlt⟩ (by omega) hb.out (by rw [hs.out]; exact hge)).symm, rfl⟩
        · go_wp2_with fail
          refine (size_any' hs.out _).mono ?_
          rintro e w' ⟨rfl, rfl⟩
          go_wp2_with fail
          go_round
          case rel => exact ⟨i + 1, by omega, by omega, by go_num, fun j hj hj' => by
            by_cases e : j = i
            · rw [e, hs.out]; omega
            · exact hb.out j hj (by omega)⟩
          case measure => simp [intOf]; omega
      · go_wp2_with fail
        go_ret
        have e : i = 8 := by omega
        exact ⟨ret_int (of_none (by rw [← e]; exact hb.out)).symm, rfl⟩
theorem of_any' {c s : Int} (h : ofN c = s) (w : World) :
    Calls Tryd.prog 25 #[.int .i64 c] w fun e w' => e = .returned (.int .i64 s) ∧ w' = w := h ▸ of_any c w

theorem of_range (n : Int) : ofN n = -1 ∨ (0 ≤ ofN n ∧ ofN n < 8 ∧ 1 ≤ n ∧ n ≤ szN (ofN n) ∧ szN (ofN n) ≤ 16) := by
  by_cases h : n < 1
  · left; unfold ofN; rw [if_pos h]
  · by_cases h' : 16 < n
    · left; unfold ofN; (repeat' split) <;> omega
    · right
      have : n = 1 ∨ n = 2 ∨ n = 3 ∨ n = 4 ∨ n = 5 ∨ n = 6 ∨ n = 7 ∨ n = 8 ∨ n = 9 ∨ n = 10 ∨ n = 11 ∨ n = 12 ∨ n = 13 ∨ n = 14 ∨ n = 15 ∨ n = 16 := by omega
      rcases this with rfl | rfl | rfl | rfl | rfl | rfl | rfl | rfl | rfl | rfl | rfl | rfl | rfl | rfl | rfl | rfl <;> decide

set_option maxHeartbeats 1000000 in
theorem refClass_any (n : Int) (w : World) :
    Calls Tryd.prog 11 #[.int .i64 n] w fun e w' => e = .returned (.int .i64 (ofN n)) ∧ Below w.heap.size w w' := by
  by_cases h1 : n < 1
  · go_enter Tryd.func11, Tryd.ntmps11
    go_wp2_with fail
    go_loop [3] (fun v => ∃ i : Int, 0 ≤ i ∧ i ≤ 8 ∧ v = .int .i64 i) (fun v => 8 - (intOf v).toNat)
    case atStart => exact ⟨0, by omega, by omega, rfl⟩
    case round =>
      obtain ⟨i, h0, h8, rfl⟩ := hrel
      by_cases hlt : i ≤ 7
      · go_wp2_with fail
        go_round
        case rel => exact ⟨i + 1, by omega, by omega, by go_num⟩
        case measure => simp [intOf]; omega
      · go_wp2_with fail
        go_ret
        exact ⟨ret_int (by unfold ofN; rw [if_pos h1]), Below.refl _ _⟩
  · go_enter Tryd.func11, Tryd.ntmps11
    go_wp2_with fail
    go_loopw [3] (fun v wr => ∃ i : Int, 0 ≤ i ∧ i ≤ 8 ∧ v = .int .i64 i ∧ Hid (∀ j, 0 ≤ j → j < i → szN j < n) ∧ Hid (Below w.heap.size w wr)) (fun v _ => 8 - (intOf v).toNat)
    case atStart => exact ⟨0, by omega, by omega, rfl, fun j h h' => absurd h' (by omega), Below.refl _ _⟩
    case round =>
      obtain ⟨i, h0, h8, rfl, hb, hB⟩ := hrel
      by_cases hlt : i ≤ 7
      · obtain ⟨s, hs⟩ : ∃ s, Hid (szN i = s) := ⟨_, rfl⟩
        by_cases hge : n ≤ s
        · go_wp2_with fail
          refine (refSize_any' hs.out _).mono ?_
          rintro e w' ⟨rfl, hw⟩
          go_wp2_with fail
          go_ret
          exact ⟨ret_int (of_found i ⟨h0, by omega⟩ (by omega) hb.out (by rw [hs.out]; exact hge)).symm, hB.out.trans (hw.mono hB.out.size)⟩
        · go_wp2_with fail
          refine (refSize_any' hs.out _).mono ?_
          rintro e w' ⟨rfl, hw⟩
          go_wp2_with fail
          go_round
          case rel => exact ⟨i + 1, by omega, by omega, by go_num, fun j hj hj' => by
            by_cases e : j = i
            · rw [e, hs.out]; omega
            · exact hb.out j hj (by omega), hB.out.trans (hw.mono hB.out.size)⟩
          case measure => simp [intOf]; omega
      · go_wp2_with fail
        go_ret
        have e : i = 8 := by omega
        exact ⟨ret_int (of_none (by rw [← e]; exact hb.out)).symm, hB.out⟩
theorem refClass_any' {c s : Int} (h : ofN c = s) (w : World) :
    Calls Tryd.prog 11 #[.int .i64 c] w fun e w' => e = .returned (.int .i64 s) ∧ Below w.heap.size w w' := h ▸ refClass_any c w

end Go.Proofs.YtfkimmbnmcgjiaaDoor

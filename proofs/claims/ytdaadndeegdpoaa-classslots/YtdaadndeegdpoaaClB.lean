/- The walks of class.Slot, class.Of, class.Waste, and of alive. -/
import Derived.Test.YtdaadndeegdpoaaClA
namespace Go.Proofs.Ytdaadndeegdpoaa
open Go.RowKit

/-- Whether a word belongs to a slot. -/
def inN (c a : Int) : Bool := decide (0 ≤ a) && decide (a < slN c * szN c)

theorem slsz (c : Int) : 0 ≤ slN c * szN c ∧ slN c * szN c ≤ 32 := by
  rcases each_class c with h | rfl | rfl | rfl | rfl | rfl | rfl | rfl | rfl
  · rw [none_sz h, none_sl h]; omega
  all_goals decide

theorem sz_pos {c a : Int} (h0 : 0 ≤ a) (h1 : a < slN c * szN c) : 0 < szN c ∧ 0 ≤ c ∧ c < 8 := by
  rcases each_class c with h | rfl | rfl | rfl | rfl | rfl | rfl | rfl | rfl
  · rw [none_sz h, none_sl h] at h1; omega
  all_goals decide

theorem w64_id {n : Int} (h : -9223372036854775808 ≤ n ∧ n ≤ 9223372036854775807) : wrap64 n = n := by unfold wrap64; omega

set_option maxHeartbeats 1000000 in
theorem slot_core (c a s t p q : Int) (w : World) (hs : Hid (szN c = s)) (ht : Hid (slN c = t)) (hp : wrap64 (t * s) = p) (h : (0 ≤ a ∧ a < p) ∧ ¬ s = 0 ∧ wrap64 (a.tdiv s) = q) :
    Calls Try.prog 9 #[.int .i64 c, .int .i64 a] w fun e w' => e = .returned (.tuple #[.int .i64 q, .bool true]) ∧ w' = w := by
  obtain ⟨⟨h0, h1⟩, h2, h3⟩ := h
  go_enter Try.func9, Try.ntmps9
  go_wp2_with fail
  refine (slots_any' ht.out _).mono ?_
  rintro e w' ⟨rfl, rfl⟩
  go_wp2_with fail
  refine (size_any' hs.out _).mono ?_
  rintro e w' ⟨rfl, rfl⟩
  go_wp2_with fail
  refine (size_any' hs.out _).mono ?_
  rintro e w' ⟨rfl, rfl⟩
  go_wp2_with fail
  go_ret2
  exact ⟨ret_pair (by assumption), rfl⟩

set_option maxHeartbeats 1000000 in
theorem slot_not (c a s t p : Int) (w : World) (hs : Hid (szN c = s)) (ht : Hid (slN c = t)) (hp : wrap64 (t * s) = p) (h : a < 0 ∨ p ≤ a) :
    Calls Try.prog 9 #[.int .i64 c, .int .i64 a] w fun e w' => e = .returned (.tuple #[.int .i64 0, .bool false]) ∧ w' = w := by
  by_cases h0 : a < 0
  · go_enter Try.func9, Try.ntmps9
    go_wp2_with fail
    go_ret2
    exact ⟨rfl, rfl⟩
  · have h1 : p ≤ a := by omega
    go_enter Try.func9, Try.ntmps9
    go_wp2_with fail
    refine (slots_any' ht.out _).mono ?_
    rintro e w' ⟨rfl, rfl⟩
    go_wp2_with fail
    refine (size_any' hs.out _).mono ?_
    rintro e w' ⟨rfl, rfl⟩
    go_wp2_with fail
    go_ret2
    exact ⟨rfl, rfl⟩

theorem slot_in (c a : Int) (w : World) (h0 : 0 ≤ a) (h1 : a < slN c * szN c) :
    Calls Try.prog 9 #[.int .i64 c, .int .i64 a] w fun e w' => e = .returned (.tuple #[.int .i64 (a / szN c), .bool true]) ∧ w' = w := by
  have hb := slsz c
  have hp := sz_pos h0 h1
  refine slot_core c a _ _ _ _ w rfl rfl (w64_id (n := slN c * szN c) (by omega)) ⟨⟨h0, h1⟩, by omega, ?_⟩
  rw [Int.tdiv_eq_ediv_of_nonneg h0]
  have : 0 ≤ a / szN c := Int.ediv_nonneg h0 (by omega)
  have : a / szN c ≤ a := Int.ediv_le_self _ h0
  exact w64_id (by omega)
theorem slot_out (c a : Int) (w : World) (h : a < 0 ∨ slN c * szN c ≤ a) :
    Calls Try.prog 9 #[.int .i64 c, .int .i64 a] w fun e w' => e = .returned (.tuple #[.int .i64 0, .bool false]) ∧ w' = w := by
  have hb := slsz c
  exact slot_not c a _ _ _ w rfl rfl (w64_id (n := slN c * szN c) (by omega)) h

/-! ### class.Of -/
theorem of_found {n : Int} (i : Int) (h : 0 ≤ i ∧ i < 8) (h1 : 1 ≤ n) (hb : ∀ j, 0 ≤ j → j < i → szN j < n) (hi : n ≤ szN i) : ofN n = i := by
  have h8 : i = 0 ∨ i = 1 ∨ i = 2 ∨ i = 3 ∨ i = 4 ∨ i = 5 ∨ i = 6 ∨ i = 7 := by omega
  have b0 := hb 0; have b1 := hb 1; have b2 := hb 2; have b3 := hb 3; have b4 := hb 4; have b5 := hb 5; have b6 := hb 6
  simp [szN] at b0 b1 b2 b3 b4 b5 b6
  rcases h8 with rfl | rfl | rfl | rfl | rfl | rfl | rfl | rfl <;> simp [szN] at hi <;> simp at b0 b1 b2 b3 b4 b5 b6 <;> unfold ofN <;> (repeat' split) <;> omega
theorem of_none {n : Int} (hb : ∀ j, 0 ≤ j → j < 8 → szN j < n) : ofN n = -1 := by
  have b7 := hb 7
  simp [szN] at b7
  unfold ofN; (repeat' split) <;> omega

set_option maxHeartbeats 1000000 in
theorem of_any (n : Int) (w : World) :
    Calls Try.prog 13 #[.int .i64 n] w fun e w' => e = .returned (.int .i64 (ofN n)) ∧ w' = w := by
  by_cases h1 : n < 1
  · go_enter Try.func13, Try.ntmps13
    go_wp2_with fail
    go_ret
    exact ⟨ret_int (by unfold ofN; rw [if_pos h1]), rfl⟩
  · go_enter Try.func13, Try.ntmps13
    go_wp2_with fail
    go_loop [6] (fun v => ∃ i : Int, 0 ≤ i ∧ i ≤ 8 ∧ v = .int .i64 i ∧ Hid (∀ j, 0 ≤ j → j < i → szN j < n)) (fun v => 8 - (intOf v).toNat)
    case atStart => exact ⟨0, by omega, by omega, rfl, fun j h h' => absurd h' (by omega)⟩
    case round =>
      obtain ⟨i, h0, h8, rfl, hb⟩ := hrel
      by_cases hlt : i < 8
      · obtain ⟨s, hs⟩ : ∃ s, Hid (szN i = s) := ⟨_, rfl⟩
        by_cases hge : n ≤ s
        · go_wp2_with fail
          refine (size_any' hs.out _).mono ?_
          rintro e w' ⟨rfl, rfl⟩
          go_wp2_with fail
          go_ret
          exact ⟨ret_int (of_found i ⟨h0, hlt⟩ (by omega) hb.out (by rw [hs.out]; exact hge)).symm, rfl⟩
        · go_wp2_with fail
          refine (size_any' hs.out _).mono ?_
          rintro e w' ⟨rfl, rfl⟩
          go_wp2_with fail
          go_round
          case rel => exact ⟨i + 1, by omega, by omega, by go_num, fun j hj hj' => by
            by_cases e : j = i
            · rw [e, hs.out]; omega
            · exact hb.out j hj (by omega)⟩
          case measure => simp [intOf]; omega
      · go_wp2_with fail
        go_ret
        have e : i = 8 := by omega
        exact ⟨ret_int (of_none (by rw [← e]; exact hb.out)).symm, rfl⟩
theorem of_any' {c s : Int} (h : ofN c = s) (w : World) :
    Calls Try.prog 13 #[.int .i64 c] w fun e w' => e = .returned (.int .i64 s) ∧ w' = w := h ▸ of_any c w

/-- The words of a slot that so many words leave. -/
def waN (n : Int) : Int := if ofN n = -1 then 0 else szN (ofN n) - n
theorem of_range (n : Int) : ofN n = -1 ∨ (0 ≤ ofN n ∧ ofN n < 8 ∧ 1 ≤ n ∧ n ≤ szN (ofN n) ∧ szN (ofN n) ≤ 16) := by
  by_cases h : n < 1
  · left; unfold ofN; rw [if_pos h]
  · by_cases h' : 16 < n
    · left; unfold ofN; (repeat' split) <;> omega
    · right
      have : n = 1 ∨ n = 2 ∨ n = 3 ∨ n = 4 ∨ n = 5 ∨ n = 6 ∨ n = 7 ∨ n = 8 ∨ n = 9 ∨ n = 10 ∨ n = 11 ∨ n = 12 ∨ n = 13 ∨ n = 14 ∨ n = 15 ∨ n = 16 := by omega
      rcases this with rfl | rfl | rfl | rfl | rfl | rfl | rfl | rfl | rfl | rfl | rfl | rfl | rfl | rfl | rfl | rfl <;> decide

set_option maxHeartbeats 1000000 in
theorem waste_any (n : Int) (w : World) :
    Calls Try.prog 14 #[.int .i64 n] w fun e w' => e = .returned (.int .i64 (waN n)) ∧ w' = w := by
  have hr := of_range n
  unfold waN
  generalize hc : ofN n = c at *
  have HC : Hid (ofN n = c) := hc
  clear hc
  rcases hr with rfl | ⟨h0, h8, h1, hn, h16⟩
  · go_enter Try.func14, Try.ntmps14
    go_wp2_with fail
    refine (of_any' HC.out _).mono ?_
    rintro e w' ⟨rfl, rfl⟩
    go_wp2_with fail
    go_ret
    exact ⟨rfl, rfl⟩
  · rw [if_neg (by omega)]
    have h2 : ¬ c = -1 := by omega
    generalize hs : szN c = s at *
    have HS : Hid (szN c = s) := hs
    clear hs
    go_enter Try.func14, Try.ntmps14
    go_wp2_with fail
    refine (of_any' HC.out _).mono ?_
    rintro e w' ⟨rfl, rfl⟩
    go_wp2_with fail
    refine (size_any' HS.out _).mono ?_
    rintro e w' ⟨rfl, rfl⟩
    go_wp2_with fail
    go_ret
    exact ⟨ret_int (by first | rfl | omega), rfl⟩
theorem waste_any' {c s : Int} (h : waN c = s) (w : World) :
    Calls Try.prog 14 #[.int .i64 c] w fun e w' => e = .returned (.int .i64 s) ∧ w' = w := h ▸ waste_any c w

set_option maxHeartbeats 1000000 in
theorem alive_any (w : World) :
    Calls Try.prog 6 #[] w fun e w' => e = .returned (.bool true) ∧ w' = w := by
  have c1 : ∀ w, Calls Try.prog 9 #[.int .i64 4, .int .i64 29] w fun e w' => e = .returned (.tuple #[.int .i64 4, .bool true]) ∧ w' = w := fun w => by
    have h := slot_in 4 29 w (by decide) (by decide)
    rwa [show (29 : Int) / szN 4 = 4 by decide] at h
  go_enter Try.func6, Try.ntmps6
  go_wp2_with fail
  refine (c1 _).mono ?_
  rintro e w' ⟨rfl, rfl⟩
  go_wp2_with fail
  refine (of_any' (show ofN 5 = 4 by decide) _).mono ?_
  rintro e w' ⟨rfl, rfl⟩
  go_wp2_with fail
  refine (slots_any' (show slN 4 = 5 by decide) _).mono ?_
  rintro e w' ⟨rfl, rfl⟩
  go_wp2_with fail
  refine (tail_any' (s := 2) (by decide) _).mono ?_
  rintro e w' ⟨rfl, rfl⟩
  go_wp2_with fail
  go_ret
  exact ⟨rfl, rfl⟩

end Go.Proofs.Ytdaadndeegdpoaa

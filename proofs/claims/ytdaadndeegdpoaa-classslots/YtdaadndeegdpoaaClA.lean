/- The walks of class's plain functions: what each returns, in plain numbers; the world stays. -/
import Derived.Test.YtdaadndeegdpoaaRows
import Derived.WalkKit
import Derived.WalkSpells
import Derived.Below
namespace Go.Proofs.Ytdaadndeegdpoaa
open Go.RowKit

theorem ret_int {k : IntKind} {a b : Int} (h : a = b) : Ending.returned (.int k a) = .returned (.int k b) := by rw [h]
theorem ret_pair {k : IntKind} {a b : Int} {c : Bool} (h : a = b) : Ending.returned (.tuple #[.int k a, .bool c]) = .returned (.tuple #[.int k b, .bool c]) := by rw [h]

/-- How many words a slot of a class has. -/
def szN (c : Int) : Int := if c = 0 then 1 else if c = 1 then 2 else if c = 2 then 3 else if c = 3 then 4 else if c = 4 then 6 else if c = 5 then 8 else if c = 6 then 12 else if c = 7 then 16 else 0
/-- The class of so many words. -/
def ofN (n : Int) : Int := if n < 1 then -1 else if n ≤ 1 then 0 else if n ≤ 2 then 1 else if n ≤ 3 then 2 else if n ≤ 4 then 3 else if n ≤ 6 then 4 else if n ≤ 8 then 5 else if n ≤ 12 then 6 else if n ≤ 16 then 7 else -1
/-- How many slots a page of a class has. -/
def slN (c : Int) : Int := if c = 0 then 32 else if c = 1 then 16 else if c = 2 then 10 else if c = 3 then 8 else if c = 4 then 5 else if c = 5 then 4 else if c = 6 then 2 else if c = 7 then 2 else 0
theorem none_sz {c : Int} (h : c < 0 ∨ 7 < c) : szN c = 0 := by unfold szN; repeat' split
                                                                all_goals omega
theorem none_sl {c : Int} (h : c < 0 ∨ 7 < c) : slN c = 0 := by unfold slN; repeat' split
                                                                all_goals omega
theorem each_class (c : Int) : (c < 0 ∨ 7 < c) ∨ c = 0 ∨ c = 1 ∨ c = 2 ∨ c = 3 ∨ c = 4 ∨ c = 5 ∨ c = 6 ∨ c = 7 := by omega

set_option maxHeartbeats 1000000 in
theorem size_none (c : Int) (w : World) (h : c < 0 ∨ 7 < c) :
    Calls Try.prog 10 #[.int .i64 c] w fun e w' => e = .returned (.int .i64 0) ∧ w' = w := by
  by_cases h1 : c < 0
  · go_enter Try.func10, Try.ntmps10
    go_wp2
    go_ret
    exact ⟨rfl, rfl⟩
  · have h2 : 8 ≤ c := by omega
    go_enter Try.func10, Try.ntmps10
    go_wp2
    go_ret
    exact ⟨rfl, rfl⟩

set_option maxHeartbeats 2000000 in
theorem size_any (c : Int) (w : World) :
    Calls Try.prog 10 #[.int .i64 c] w fun e w' => e = .returned (.int .i64 (szN c)) ∧ w' = w := by
  rcases each_class c with h | rfl | rfl | rfl | rfl | rfl | rfl | rfl | rfl
  · rw [none_sz h]; exact size_none c w h
  all_goals
    go_enter Try.func10, Try.ntmps10
    go_wp2
    go_ret
    exact ⟨ret_int (by decide +kernel), rfl⟩

theorem size_any' {c s : Int} (h : szN c = s) (w : World) :
    Calls Try.prog 10 #[.int .i64 c] w fun e w' => e = .returned (.int .i64 s) ∧ w' = w := h ▸ size_any c w

set_option maxHeartbeats 2000000 in
theorem slots_any (c : Int) (w : World) :
    Calls Try.prog 11 #[.int .i64 c] w fun e w' => e = .returned (.int .i64 (slN c)) ∧ w' = w := by
  rcases each_class c with h | rfl | rfl | rfl | rfl | rfl | rfl | rfl | rfl
  · rw [none_sl h]
    have hs : szN c = 0 := none_sz h
    go_enter Try.func11, Try.ntmps11
    go_wp2_with fail
    refine (size_any' hs _).mono ?_
    rintro e w' ⟨rfl, rfl⟩
    go_wp2
    go_ret
    exact ⟨rfl, rfl⟩
  all_goals
    go_enter Try.func11, Try.ntmps11
    go_wp2_with fail
    refine (size_any' (by rfl) _).mono ?_
    rintro e w' ⟨rfl, rfl⟩
    go_wp2
    go_ret
    exact ⟨ret_int (by decide +kernel), rfl⟩
theorem slots_any' {c s : Int} (h : slN c = s) (w : World) :
    Calls Try.prog 11 #[.int .i64 c] w fun e w' => e = .returned (.int .i64 s) ∧ w' = w := h ▸ slots_any c w

set_option maxHeartbeats 2000000 in
theorem tail_any (c : Int) (w : World) :
    Calls Try.prog 12 #[.int .i64 c] w fun e w' => e = .returned (.int .i64 (if szN c = 0 then 0 else 32 - slN c * szN c)) ∧ w' = w := by
  rcases each_class c with h | rfl | rfl | rfl | rfl | rfl | rfl | rfl | rfl
  · have hs : szN c = 0 := none_sz h
    rw [if_pos hs]
    go_enter Try.func12, Try.ntmps12
    go_wp2_with fail
    refine (size_any' hs _).mono ?_
    rintro e w' ⟨rfl, rfl⟩
    go_wp2
    go_ret
    exact ⟨rfl, rfl⟩
  all_goals
    go_enter Try.func12, Try.ntmps12
    go_wp2_with fail
    refine (size_any' (by rfl) _).mono ?_
    rintro e w' ⟨rfl, rfl⟩
    go_wp2_with fail
    refine (slots_any' (by rfl) _).mono ?_
    rintro e w' ⟨rfl, rfl⟩
    go_wp2
    go_ret
    exact ⟨ret_int (by decide +kernel), rfl⟩
theorem tail_any' {c s : Int} (h : (if szN c = 0 then 0 else 32 - slN c * szN c) = s) (w : World) :
    Calls Try.prog 12 #[.int .i64 c] w fun e w' => e = .returned (.int .i64 s) ∧ w' = w := h ▸ tail_any c w

end Go.Proofs.Ytdaadndeegdpoaa

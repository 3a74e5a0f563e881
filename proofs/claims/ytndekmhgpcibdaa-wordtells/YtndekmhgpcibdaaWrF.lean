/- The walk of WordTells. -/
import Derived.Test.YtndekmhgpcibdaaWrE
namespace Go.Proofs.Ytndekmhgpcibdaa
open Go.RowKit

set_option maxHeartbeats 1000000 in
theorem tells_core (op a b v n : Int) (o h s : Bool) (w : World)
    (h1 : Hid (∀ w, Calls Try.prog 10 #[.int .i64 op, .int .i64 a, .int .i64 b] w fun e w' => e = .returned (.tuple #[.int .i64 v, .bool o]) ∧ w' = w))
    (h2 : Hid (∀ w, Calls Try.prog 11 #[.int .i64 op, .int .i64 a, .int .i64 b] w fun e w' => e = .returned (.tuple #[.int .i64 v, .bool o]) ∧ w' = w))
    (hn : Hid (wrap32 a = n))
    (h3 : Hid (∀ w, Calls Try.prog 14 #[.int .i64 a] w fun e w' => e = .returned (.bool h) ∧ w' = w))
    (h4 : Hid (∀ w, Calls Try.prog 15 #[.int .i64 a] w fun e w' => e = .returned (.bool h) ∧ w' = w))
    (h5 : Hid (∀ w, Calls Try.prog 16 #[.int .i64 a] w fun e w' => e = .returned (.bool s) ∧ w' = w)) (hs : decide (1073741824 ≤ a) = s) :
    Calls Try.prog 3 #[.int .i64 op, .int .i64 a, .int .i64 b] w fun e w' => e = .returned (.bool true) ∧ w' = w := by
  go_enter Try.func3, Try.ntmps3
  go_wp2_with fail
  refine (alive_any _).mono ?_
  rintro e w' ⟨rfl, rfl⟩
  go_wp2_with fail
  refine (h1.out _).mono ?_
  rintro e w' ⟨rfl, rfl⟩
  go_wp2_with fail
  refine (h2.out _).mono ?_
  rintro e w' ⟨rfl, rfl⟩
  go_wp2_with fail
  refine (of_any' hn.out _).mono ?_
  rintro e w' ⟨rfl, rfl⟩
  go_wp2_with fail
  refine (refOf_any' hn.out _).mono ?_
  rintro e w' ⟨rfl, rfl⟩
  go_wp2_with fail
  refine (h3.out _).mono ?_
  rintro e w' ⟨rfl, rfl⟩
  go_wp2_with fail
  refine (h4.out _).mono ?_
  rintro e w' ⟨rfl, rfl⟩
  go_wp2_with fail
  refine (h5.out _).mono ?_
  rintro e w' ⟨rfl, rfl⟩
  by_cases h : 1073741824 ≤ a
  · have hs' : s = true := by rw [← hs]; simp [h]
    subst hs'
    clear hs
    go_wp2_with fail
    go_ret
    exact ⟨rfl, rfl⟩
  · have hs' : s = false := by rw [← hs]; simp [h]
    subst hs'
    clear hs
    go_wp2_with fail
    go_ret
    exact ⟨ret_not (by omega), rfl⟩

theorem tells_walk (op a b : Int) (w : World) :
    Calls Try.prog 3 #[.int .i64 op, .int .i64 a, .int .i64 b] w fun e w' => e = .returned (.bool true) ∧ w' = w := by
  have ra := w32_range a
  have rb := w32_range b
  have hb : bits .and .i64 (wrap32 b) 31 = ((stN b : Nat) : Int) := by rw [i64_and31, stN_cast]
  have core : ∀ v o, (∀ w, Calls Try.prog 10 #[.int .i64 op, .int .i64 a, .int .i64 b] w fun e w' => e = .returned (.tuple #[.int .i64 v, .bool o]) ∧ w' = w) →
      (∀ w, Calls Try.prog 11 #[.int .i64 op, .int .i64 a, .int .i64 b] w fun e w' => e = .returned (.tuple #[.int .i64 v, .bool o]) ∧ w' = w) →
      Calls Try.prog 3 #[.int .i64 op, .int .i64 a, .int .i64 b] w fun e w' => e = .returned (.bool true) ∧ w' = w :=
    fun v o h1 h2 => tells_core op a b v (wrap32 a) o _ _ w h1 h2 rfl (fun w => heap_any a w) (fun w => refHeap_any a w) (fun w => stack_any a w) rfl
  have : op = 3 ∨ op = 4 ∨ op = 5 ∨ op = 6 ∨ op = 7 ∨ op = 8 ∨ (op < 3 ∨ 8 < op) := by omega
  rcases this with rfl | rfl | rfl | rfl | rfl | rfl | h
  · exact core _ _ (fun w => do_add a b w) (fun w => refDo_add a b _ _ _ w rfl rfl ra rb rfl)
  · exact core _ _ (fun w => do_sub a b w) (fun w => refDo_sub a b _ _ _ w rfl rfl ra rb rfl)
  · exact core _ _ (fun w => do_mul a b w) (fun w => refDo_mul a b _ _ _ w rfl rfl ra rb rfl)
  · exact core _ _ (fun w => do_shl a b w) (fun w => refDo_shl a b _ _ _ w rfl rfl (stN_lt b) hb)
  · exact core _ _ (fun w => do_shr a b w) (fun w => refDo_shr a b _ _ _ w rfl rfl (stN_lt b) hb)
  · exact core _ _ (fun w => do_less a b w) (fun w => refDo_less a b _ _ w rfl rfl)
  · exact core _ _ (fun w => do_none op a b w h) (fun w => refDo_none op a b w h)

end Go.Proofs.Ytndekmhgpcibdaa

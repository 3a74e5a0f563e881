/- The walks of WordLaws, WordRing and WordShifts. -/
import Derived.Test.YtndekmhgpcibdaaWrA
import Derived.Below
import Derived.Deep.Cut
import Derived.Deep.CutBlock
import Derived.BigQuiet
import Derived.Deep.QuietTactic
namespace Go.Proofs.Ytndekmhgpcibdaa
open Go.RowKit

set_option maxHeartbeats 1000000 in
theorem alive_any (w : World) :
    Calls Try.prog 9 #[] w fun e w' => e = .returned (.bool true) ∧ w' = w := by
  have c1 : ∀ w, Calls Try.prog 10 #[.int .i64 7, .int .i64 (-8), .int .i64 33] w fun e w' => e = .returned (.tuple #[.int .i64 (-4), .bool true]) ∧ w' = w := fun w => by
    have h := do_shr (-8) 33 w
    rwa [show wrap32 (-8) / 2 ^ stN 33 = -4 by rw [w32_id _ (by omega)]; decide] at h
  have c2 : ∀ w, Calls Try.prog 12 #[.int .i64 2147483648] w fun e w' => e = .returned (.int .i64 (-2147483648)) ∧ w' = w := fun w => by
    have h := of_any 2147483648 w
    rwa [show wrap32 2147483648 = -2147483648 by unfold wrap32; omega] at h
  have c3 : ∀ w, Calls Try.prog 14 #[.int .i64 1048576] w fun e w' => e = .returned (.bool true) ∧ w' = w := fun w => by
    have h := heap_any 1048576 w
    rwa [show (decide ((1048576 : Int) ≤ 1048576) && decide ((1048576 : Int) < 1050624)) = true by decide] at h
  have c4 : ∀ w, Calls Try.prog 14 #[.int .i64 5] w fun e w' => e = .returned (.bool false) ∧ w' = w := fun w => by
    have h := heap_any 5 w
    rwa [show (decide ((1048576 : Int) ≤ 5) && decide ((5 : Int) < 1050624)) = false by decide] at h
  go_enter Try.func9, Try.ntmps9
  go_wp2_with (first
    | (go_at_call 10; refine (c1 _).mono ?_; rintro e w' ⟨rfl, rfl⟩)
    | (go_at_call 12; refine (c2 _).mono ?_; rintro e w' ⟨rfl, rfl⟩)
    | (go_at_call 14; first | refine (c3 _).mono ?_ | refine (c4 _).mono ?_
       rintro e w' ⟨rfl, rfl⟩))
  go_ret
  exact ⟨rfl, rfl⟩

/-! ### The contracts, with the answer as a letter. -/
theorem do_add' {a b s : Int} (h : wrap32 (wrap32 a + wrap32 b) = s) (w : World) : Calls Try.prog 10 #[.int .i64 3, .int .i64 a, .int .i64 b] w fun e w' => e = .returned (.tuple #[.int .i64 s, .bool true]) ∧ w' = w := h ▸ do_add a b w
theorem do_sub' {a b s : Int} (h : wrap32 (wrap32 a - wrap32 b) = s) (w : World) : Calls Try.prog 10 #[.int .i64 4, .int .i64 a, .int .i64 b] w fun e w' => e = .returned (.tuple #[.int .i64 s, .bool true]) ∧ w' = w := h ▸ do_sub a b w
theorem do_mul' {a b s : Int} (h : wrap32 (wrap32 a * wrap32 b) = s) (w : World) : Calls Try.prog 10 #[.int .i64 5, .int .i64 a, .int .i64 b] w fun e w' => e = .returned (.tuple #[.int .i64 s, .bool true]) ∧ w' = w := h ▸ do_mul a b w
theorem do_shl' {a b s : Int} (h : wrap32 (wrap32 a * 2 ^ stN b) = s) (w : World) : Calls Try.prog 10 #[.int .i64 6, .int .i64 a, .int .i64 b] w fun e w' => e = .returned (.tuple #[.int .i64 s, .bool true]) ∧ w' = w := h ▸ do_shl a b w
theorem do_shr' {a b s : Int} (h : wrap32 a / 2 ^ stN b = s) (w : World) : Calls Try.prog 10 #[.int .i64 7, .int .i64 a, .int .i64 b] w fun e w' => e = .returned (.tuple #[.int .i64 s, .bool true]) ∧ w' = w := h ▸ do_shr a b w
theorem do_less' {a b s : Int} (h : (if wrap32 a < wrap32 b then (1 : Int) else 0) = s) (w : World) : Calls Try.prog 10 #[.int .i64 8, .int .i64 a, .int .i64 b] w fun e w' => e = .returned (.tuple #[.int .i64 s, .bool true]) ∧ w' = w := h ▸ do_less a b w
theorem of_any' {a n : Int} (h : wrap32 a = n) (w : World) : Calls Try.prog 12 #[.int .i64 a] w fun e w' => e = .returned (.int .i64 n) ∧ w' = w := h ▸ of_any a w

theorem ret_not {p : Prop} [Decidable p] (h : ¬ p) : Ending.returned (.bool (!decide p)) = .returned (.bool true) := by simp [h]

/-! ### Numbers of 32 bits go round. -/
theorem laws_back (a b : Int) : wrap32 (wrap32 (wrap32 (wrap32 a + wrap32 b)) - wrap32 b) = wrap32 a := by unfold wrap32; omega
theorem laws_twice (a : Int) : wrap32 (wrap32 a * 2 ^ stN 1) = wrap32 (wrap32 a + wrap32 a) := by
  rw [show stN 1 = 1 by decide]; unfold wrap32; omega
theorem laws_half (a : Int) : 2 * (wrap32 a / 2 ^ stN 1) = wrap32 a ∨ 2 * (wrap32 a / 2 ^ stN 1) = wrap32 a - 1 := by
  rw [show stN 1 = 1 by decide]; omega


set_option maxHeartbeats 1000000 in
theorem laws_core (a b s u x z n m : Int) (w : World) (hs : Hid (wrap32 (wrap32 a + wrap32 b) = s)) (ht : Hid (wrap32 (wrap32 s - wrap32 b) = n)) (hu : Hid (wrap32 (wrap32 a * 2 ^ stN 1) = u))
    (hv : Hid (wrap32 (wrap32 a + wrap32 a) = u)) (hx : Hid (wrap32 a / 2 ^ stN 1 = x)) (hz : Hid ((if wrap32 a < wrap32 b then (1 : Int) else 0) = z)) (hn : Hid (wrap32 a = n)) (hm : Hid (wrap32 b = m))
    (g1 : IntKind.i64.wrap (2 * x) = 2 * x) (g2 : IntKind.i64.wrap (n - 1) = n - 1) (g3 : 2 * x = n ∨ 2 * x = n - 1) (g4 : z = 1 ∧ n < m ∨ z = 0 ∧ ¬ n < m) :
    Calls Try.prog 5 #[.int .i64 a, .int .i64 b] w fun e w' => e = .returned (.bool true) ∧ w' = w := by
  go_enter Try.func5, Try.ntmps5
  go_wp2_with fail
  refine (alive_any _).mono ?_
  rintro e w' ⟨rfl, rfl⟩
  go_wp2_with fail
  refine (do_add' hs.out _).mono ?_
  rintro e w' ⟨rfl, rfl⟩
  go_wp2_with fail
  refine (do_sub' ht.out _).mono ?_
  rintro e w' ⟨rfl, rfl⟩
  go_wp2_with fail
  refine (do_shl' hu.out _).mono ?_
  rintro e w' ⟨rfl, rfl⟩
  go_wp2_with fail
  refine (do_add' hv.out _).mono ?_
  rintro e w' ⟨rfl, rfl⟩
  go_wp2_with fail
  refine (do_shr' hx.out _).mono ?_
  rintro e w' ⟨rfl, rfl⟩
  go_wp2_with fail
  refine (do_less' hz.out _).mono ?_
  rintro e w' ⟨rfl, rfl⟩
  go_wp2_with fail
  refine (of_any' hn.out _).mono ?_
  rintro e w' ⟨rfl, rfl⟩
  go_upto_region 10 with (fail)
  clear hs ht hu hv hx hn
  have g3 : ((2 * x == n) = true) ∨ ((2 * x == n) = false ∧ (2 * x == n - 1) = true) := by
    by_cases h : 2 * x = n
    · left; simp [h]
    · right; exact ⟨by simpa using h, by simpa [h] using g3⟩
  rcases g3 with h | ⟨h, h'⟩
  · rcases g4 with ⟨rfl, hl⟩ | ⟨rfl, hl⟩
    all_goals
      go_wp2_with fail
      refine (of_any' hm.out _).mono ?_
      rintro e w' ⟨rfl, rfl⟩
      go_wp2_with fail
      go_ret
      exact ⟨by first | rfl | exact ret_not (by omega), rfl⟩
  · rcases g4 with ⟨rfl, hl⟩ | ⟨rfl, hl⟩
    all_goals
      go_wp2_with fail
      refine (of_any' hm.out _).mono ?_
      rintro e w' ⟨rfl, rfl⟩
      go_wp2_with fail
      go_ret
      exact ⟨by first | rfl | exact ret_not (by omega), rfl⟩

theorem laws_walk (a b : Int) (w : World) :
    Calls Try.prog 5 #[.int .i64 a, .int .i64 b] w fun e w' => e = .returned (.bool true) ∧ w' = w := by
  have h3 := laws_half a
  have h4 := w32_range a
  have h5 := div_range (wrap32 a) (stN 1) h4
  refine laws_core a b _ _ _ _ _ _ w rfl (laws_back a b) (laws_twice a) rfl rfl rfl rfl rfl ?_ ?_ h3 ?_
  · rw [IntKind.wrap_i64]; omega
  · rw [IntKind.wrap_i64]; omega
  · by_cases h : wrap32 a < wrap32 b
    · left; simp [h]
    · right; simp [h]

end Go.Proofs.Ytndekmhgpcibdaa

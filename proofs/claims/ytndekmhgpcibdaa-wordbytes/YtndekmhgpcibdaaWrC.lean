/- The walk of WordRing: numbers of 32 bits are a ring. -/
import Derived.Test.YtndekmhgpcibdaaWrB
namespace Go.Proofs.Ytndekmhgpcibdaa
open Go.RowKit

theorem w32_congr {p q : Int} (h : p % 4294967296 = q % 4294967296) : wrap32 p = wrap32 q := by unfold wrap32; omega
theorem w32_mod (n : Int) : wrap32 n % 4294967296 = n % 4294967296 := by unfold wrap32; omega
theorem w32_mul (n c : Int) : wrap32 (wrap32 n * c) = wrap32 (n * c) :=
  w32_congr (by rw [Int.mul_emod, w32_mod, ← Int.mul_emod])
theorem w32_add (n m : Int) : wrap32 (wrap32 n + wrap32 m) = wrap32 (n + m) := by unfold wrap32; omega

theorem ring_out (A B C : Int) : wrap32 (wrap32 (wrap32 (A + B)) * C) = wrap32 (wrap32 (wrap32 (A * C)) + wrap32 (wrap32 (B * C))) := by
  rw [w32_mul, w32_mul, w32_add, w32_add, Int.add_mul]
theorem ring_neg (a : Int) : wrap32 (wrap32 a + wrap32 (wrap32 (wrap32 0 - wrap32 a))) = 0 := by unfold wrap32; omega

set_option maxHeartbeats 1000000 in
theorem ring_core (a b c x1 x y1 z u v n : Int) (w : World) (h1 : Hid (wrap32 (wrap32 a + wrap32 b) = x1)) (h2 : Hid (wrap32 (wrap32 x1 * wrap32 c) = x)) (h3 : Hid (wrap32 (wrap32 a * wrap32 c) = y1))
    (h4 : Hid (wrap32 (wrap32 b * wrap32 c) = z)) (h5 : Hid (wrap32 (wrap32 y1 + wrap32 z) = x)) (h6 : Hid (wrap32 (wrap32 a * wrap32 b) = u)) (h7 : Hid (wrap32 (wrap32 b * wrap32 a) = u))
    (h8 : Hid (wrap32 (wrap32 0 - wrap32 a) = v)) (h9 : Hid (wrap32 (wrap32 a + wrap32 v) = 0)) (hn : Hid (wrap32 a = n)) (hm : Hid (wrap32 n = n)) :
    Calls Try.prog 6 #[.int .i64 a, .int .i64 b, .int .i64 c] w fun e w' => e = .returned (.bool true) ∧ w' = w := by
  go_enter Try.func6, Try.ntmps6
  go_wp2_with fail
  refine (alive_any _).mono ?_
  rintro e w' ⟨rfl, rfl⟩
  go_wp2_with fail
  refine (do_add' h1.out _).mono ?_
  rintro e w' ⟨rfl, rfl⟩
  go_wp2_with fail
  refine (do_mul' h2.out _).mono ?_
  rintro e w' ⟨rfl, rfl⟩
  go_wp2_with fail
  refine (do_mul' h3.out _).mono ?_
  rintro e w' ⟨rfl, rfl⟩
  go_wp2_with fail
  refine (do_mul' h4.out _).mono ?_
  rintro e w' ⟨rfl, rfl⟩
  go_wp2_with fail
  refine (do_add' h5.out _).mono ?_
  rintro e w' ⟨rfl, rfl⟩
  go_wp2_with fail
  refine (do_mul' h6.out _).mono ?_
  rintro e w' ⟨rfl, rfl⟩
  go_wp2_with fail
  refine (do_mul' h7.out _).mono ?_
  rintro e w' ⟨rfl, rfl⟩
  go_wp2_with fail
  refine (do_sub' h8.out _).mono ?_
  rintro e w' ⟨rfl, rfl⟩
  go_wp2_with fail
  refine (do_add' h9.out _).mono ?_
  rintro e w' ⟨rfl, rfl⟩
  go_wp2_with fail
  refine (of_any' hn.out _).mono ?_
  rintro e w' ⟨rfl, rfl⟩
  go_wp2_with fail
  refine (of_any' hm.out _).mono ?_
  rintro e w' ⟨rfl, rfl⟩
  go_wp2_with fail
  refine (of_any' hn.out _).mono ?_
  rintro e w' ⟨rfl, rfl⟩
  go_wp2_with fail
  go_ret
  exact ⟨rfl, rfl⟩

theorem ring_walk (a b c : Int) (w : World) :
    Calls Try.prog 6 #[.int .i64 a, .int .i64 b, .int .i64 c] w fun e w' => e = .returned (.bool true) ∧ w' = w :=
  ring_core a b c _ _ _ _ _ _ _ w rfl (ring_out _ _ _) rfl rfl rfl rfl (by show wrap32 _ = wrap32 _; rw [Int.mul_comm]) rfl (ring_neg a) rfl (w32_idem a)

end Go.Proofs.Ytndekmhgpcibdaa

/- ClassRises' walk. -/
import Derived.Test.YtdaadndeegdpoaaClB
namespace Go.Proofs.Ytdaadndeegdpoaa
open Go.RowKit

theorem of_mono {a b : Int} (h1 : 1 ≤ a) (h : a ≤ b) (h16 : b ≤ 16) : ofN a ≤ ofN b ∧ 0 ≤ ofN a ∧ ofN b < 8 := by
  have key : ∀ x y : Fin 16, x.val ≤ y.val → ofN (x.val + 1 : Int) ≤ ofN (y.val + 1 : Int) ∧ 0 ≤ ofN (x.val + 1 : Int) ∧ ofN (y.val + 1 : Int) < 8 := by decide +kernel
  have := key ⟨(a - 1).toNat, by omega⟩ ⟨(b - 1).toNat, by omega⟩ (by show (a - 1).toNat ≤ (b - 1).toNat; omega)
  simp only [Int.toNat_of_nonneg (show 0 ≤ a - 1 by omega), Int.toNat_of_nonneg (show 0 ≤ b - 1 by omega)] at this
  simpa [show a - 1 + 1 = a by omega, show b - 1 + 1 = b by omega] using this
theorem sz_mono {c d : Int} (h0 : 0 ≤ c) (h : c ≤ d) (h8 : d < 8) : szN c ≤ szN d ∧ slN d ≤ slN c := by
  have key : ∀ x y : Fin 8, x.val ≤ y.val → szN (x.val : Int) ≤ szN (y.val : Int) ∧ slN (y.val : Int) ≤ slN (x.val : Int) := by decide
  have := key ⟨c.toNat, by omega⟩ ⟨d.toNat, by omega⟩ (by show c.toNat ≤ d.toNat; omega)
  simpa [Int.toNat_of_nonneg h0, Int.toNat_of_nonneg (Int.le_trans h0 h)] using this

set_option maxHeartbeats 1000000 in
theorem rises_core (a b c d s t u v : Int) (w : World) (hc : Hid (ofN a = c)) (hd : Hid (ofN b = d)) (hs : Hid (szN c = s)) (ht : Hid (szN d = t)) (hu : Hid (slN c = u)) (hv : Hid (slN d = v))
    (g1 : 1 ≤ a) (g2 : a ≤ b) (g3 : b ≤ 16) (g4 : c ≤ d) (g5 : s ≤ t) (g6 : v ≤ u) :
    Calls Try.prog 5 #[.int .i64 a, .int .i64 b] w fun e w' => e = .returned (.bool true) ∧ w' = w := by
  go_enter Try.func5, Try.ntmps5
  go_wp2_with fail
  refine (alive_any _).mono ?_
  rintro e w' ⟨rfl, rfl⟩
  go_wp2_with fail
  refine (of_any' hc.out _).mono ?_
  rintro e w' ⟨rfl, rfl⟩
  go_wp2_with fail
  refine (of_any' hd.out _).mono ?_
  rintro e w' ⟨rfl, rfl⟩
  go_wp2_with fail
  refine (of_any' hc.out _).mono ?_
  rintro e w' ⟨rfl, rfl⟩
  go_wp2_with fail
  refine (size_any' hs.out _).mono ?_
  rintro e w' ⟨rfl, rfl⟩
  go_wp2_with fail
  refine (of_any' hd.out _).mono ?_
  rintro e w' ⟨rfl, rfl⟩
  go_wp2_with fail
  refine (size_any' ht.out _).mono ?_
  rintro e w' ⟨rfl, rfl⟩
  go_wp2_with fail
  refine (of_any' hc.out _).mono ?_
  rintro e w' ⟨rfl, rfl⟩
  go_wp2_with fail
  refine (slots_any' hu.out _).mono ?_
  rintro e w' ⟨rfl, rfl⟩
  go_wp2_with fail
  refine (of_any' hd.out _).mono ?_
  rintro e w' ⟨rfl, rfl⟩
  go_wp2_with fail
  refine (slots_any' hv.out _).mono ?_
  rintro e w' ⟨rfl, rfl⟩
  go_wp2_with fail
  go_ret
  exact ⟨rfl, rfl⟩

set_option maxHeartbeats 1000000 in
theorem rises_walk (a b : Int) (w : World) :
    Calls Try.prog 5 #[.int .i64 a, .int .i64 b] w fun e w' => e = .returned (.bool true) ∧ w' = w := by
  by_cases g1 : a < 1
  · go_enter Try.func5, Try.ntmps5
    go_wp2_with fail
    refine (alive_any _).mono ?_
    rintro e w' ⟨rfl, rfl⟩
    go_wp2_with fail
    go_ret
    exact ⟨rfl, rfl⟩
  by_cases g2 : b < a
  · go_enter Try.func5, Try.ntmps5
    go_wp2_with fail
    refine (alive_any _).mono ?_
    rintro e w' ⟨rfl, rfl⟩
    go_wp2_with fail
    go_ret
    exact ⟨rfl, rfl⟩
  by_cases g3 : 16 < b
  · go_enter Try.func5, Try.ntmps5
    go_wp2_with fail
    refine (alive_any _).mono ?_
    rintro e w' ⟨rfl, rfl⟩
    go_wp2_with fail
    go_ret
    exact ⟨rfl, rfl⟩
  have h := of_mono (a := a) (b := b) (by omega) (by omega) (by omega)
  have h' := sz_mono h.2.1 h.1 h.2.2
  exact rises_core a b _ _ _ _ _ _ w rfl rfl rfl rfl rfl rfl (by omega) (by omega) (by omega) h.1 h'.1 h'.2

theorem rises_below (a b : Int) (w : World) :
    Calls Try.prog 5 #[.int .i64 a, .int .i64 b] w fun e w' => e = .returned (.bool true) ∧ Below w.heap.size w w' :=
  (rises_walk a b w).mono fun _ _ ⟨h, h'⟩ => ⟨h, h' ▸ Below.refl _ _⟩

end Go.Proofs.Ytdaadndeegdpoaa

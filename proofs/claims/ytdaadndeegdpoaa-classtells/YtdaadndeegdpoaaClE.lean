/- ClassTells' walk. -/
import Derived.Test.YtdaadndeegdpoaaClD
namespace Go.Proofs.Ytdaadndeegdpoaa
open Go.RowKit

set_option maxHeartbeats 4000000 in
theorem tells_core (c n a s t r o z k p q : Int) (ok : Bool) (w : World) (hs : Hid (szN c = s)) (ht : Hid (slN c = t)) (hr : Hid ((if szN c = 0 then 0 else 32 - slN c * szN c) = r)) (ho : Hid (ofN n = o)) (hz : Hid (waN n = z))
    (hslot : Hid (∀ w, Calls Try.prog 9 #[.int .i64 c, .int .i64 a] w fun e w' => e = .returned (.tuple #[.int .i64 k, .bool ok]) ∧ w' = w))
    (hS : (0 < s ∧ (32 / s = t) ∧ ¬ s = 0 ∧ wrap64 (t * s) = p ∧ wrap64 (32 - p) = r ∧ ((0 ≤ a ∧ a < p ∧ ok = true ∧ wrap64 (a.tdiv s) = k) ∨ (a < 0 ∧ ok = false ∧ k = 0) ∨ (p ≤ a ∧ 0 ≤ a ∧ ok = false ∧ k = 0))) ∨ (s = 0 ∧ t = 0 ∧ r = 0 ∧ ok = false ∧ k = 0))
    (hO : (0 ≤ o ∧ Hid (szN o = q) ∧ wrap64 (q - n) = z) ∨ (o = -1 ∧ z = 0)) :
    Calls Try.prog 3 #[.int .i64 c, .int .i64 n, .int .i64 a] w fun e w' => e = .returned (.bool true) ∧ Below w.heap.size w w' := by
  rcases hO with ⟨o1, hq, o2⟩ | ⟨rfl, rfl⟩
  · rcases hS with ⟨s1, s2, s3, s4, s5, ⟨k1, k2, rfl, k4⟩ | ⟨k1, rfl, rfl⟩ | ⟨k1, k2, rfl, rfl⟩⟩ | ⟨rfl, rfl, rfl, rfl, rfl⟩
    all_goals
      go_enter Try.func3, Try.ntmps3
      go_wp2_with fail
      refine (alive_any _).mono ?_
      rintro e w0 ⟨rfl, rfl⟩
      go_wp2_with fail
      refine (refSize_any' hs.out _).mono ?_
      rintro e w1 ⟨rfl, b1⟩
      have B1 : Hid (Below w0.heap.size w0 w1) := b1
      clear b1
      go_wp2_with fail
      refine (refClass_any' ho.out _).mono ?_
      rintro e w2 ⟨rfl, b2⟩
      have B2 : Hid (Below w0.heap.size w0 w2) := B1.out.trans (b2.mono B1.out.size)
      clear b2 B1
      go_wp2_with fail
      refine (refSize_any' hq.out _).mono ?_
      rintro e w3 ⟨rfl, b3⟩
      have B3 : Hid (Below w0.heap.size w0 w3) := B2.out.trans (b3.mono B2.out.size)
      clear b3 B2
      go_wp2_with fail
      refine (hslot.out _).mono ?_
      rintro e w4 ⟨rfl, rfl⟩
      go_wp2_with fail
      refine (size_any' hs.out _).mono ?_
      rintro e w5 ⟨rfl, rfl⟩
      go_wp2_with fail
      refine (slots_any' ht.out _).mono ?_
      rintro e w6 ⟨rfl, rfl⟩
      go_wp2_with fail
      refine (tail_any' hr.out _).mono ?_
      rintro e w7 ⟨rfl, rfl⟩
      go_wp2_with fail
      refine (of_any' ho.out _).mono ?_
      rintro e w8 ⟨rfl, rfl⟩
      go_wp2_with fail
      refine (waste_any' hz.out _).mono ?_
      rintro e w9 ⟨rfl, rfl⟩
      go_wp2_with fail
      go_ret
      exact ⟨by simp, B3.out⟩
  · rcases hS with ⟨s1, s2, s3, s4, s5, ⟨k1, k2, rfl, k4⟩ | ⟨k1, rfl, rfl⟩ | ⟨k1, k2, rfl, rfl⟩⟩ | ⟨rfl, rfl, rfl, rfl, rfl⟩
    all_goals
      go_enter Try.func3, Try.ntmps3
      go_wp2_with fail
      refine (alive_any _).mono ?_
      rintro e w0 ⟨rfl, rfl⟩
      go_wp2_with fail
      refine (refSize_any' hs.out _).mono ?_
      rintro e w1 ⟨rfl, b1⟩
      have B1 : Hid (Below w0.heap.size w0 w1) := b1
      clear b1
      go_wp2_with fail
      refine (refClass_any' ho.out _).mono ?_
      rintro e w2 ⟨rfl, b2⟩
      have B2 : Hid (Below w0.heap.size w0 w2) := B1.out.trans (b2.mono B1.out.size)
      clear b2 B1
      go_wp2_with fail
      refine (hslot.out _).mono ?_
      rintro e w4 ⟨rfl, rfl⟩
      go_wp2_with fail
      refine (size_any' hs.out _).mono ?_
      rintro e w5 ⟨rfl, rfl⟩
      go_wp2_with fail
      refine (slots_any' ht.out _).mono ?_
      rintro e w6 ⟨rfl, rfl⟩
      go_wp2_with fail
      refine (tail_any' hr.out _).mono ?_
      rintro e w7 ⟨rfl, rfl⟩
      go_wp2_with fail
      refine (of_any' ho.out _).mono ?_
      rintro e w8 ⟨rfl, rfl⟩
      go_wp2_with fail
      refine (waste_any' hz.out _).mono ?_
      rintro e w9 ⟨rfl, rfl⟩
      go_wp2_with fail
      go_ret
      exact ⟨by simp, B2.out⟩

theorem sl_div {c : Int} (h : 0 < szN c) : 32 / szN c = slN c := by
  rcases each_class c with h' | rfl | rfl | rfl | rfl | rfl | rfl | rfl | rfl
  · rw [none_sz h'] at h; omega
  all_goals decide
theorem sz_range (c : Int) : (szN c = 0 ∧ slN c = 0) ∨ 0 < szN c := by
  rcases each_class c with h | rfl | rfl | rfl | rfl | rfl | rfl | rfl | rfl
  · exact .inl ⟨none_sz h, none_sl h⟩
  all_goals decide

theorem tells_walk (c n a : Int) (w : World) :
    Calls Try.prog 3 #[.int .i64 c, .int .i64 n, .int .i64 a] w fun e w' => e = .returned (.bool true) ∧ Below w.heap.size w w' := by
  have hb := slsz c
  have hO : (0 ≤ ofN n ∧ Hid (szN (ofN n) = szN (ofN n)) ∧ wrap64 (szN (ofN n) - n) = waN n) ∨ (ofN n = -1 ∧ waN n = 0) := by
    rcases of_range n with h | ⟨h0, h8, h1, h2, h3⟩
    · exact .inr ⟨h, by unfold waN; rw [if_pos h]⟩
    · exact .inl ⟨h0, rfl, by unfold waN; rw [if_neg (by omega)]; exact w64_id (by omega)⟩
  have hsl : ∀ k ok, Hid (∀ w, Calls Try.prog 9 #[.int .i64 c, .int .i64 a] w fun e w' => e = .returned (.tuple #[.int .i64 k, .bool ok]) ∧ w' = w) →
      ((0 ≤ a ∧ a < slN c * szN c ∧ ok = true ∧ a / szN c = k) ∨ (a < 0 ∧ ok = false ∧ k = 0) ∨ (slN c * szN c ≤ a ∧ 0 ≤ a ∧ ok = false ∧ k = 0)) →
      Calls Try.prog 3 #[.int .i64 c, .int .i64 n, .int .i64 a] w fun e w' => e = .returned (.bool true) ∧ Below w.heap.size w w' := by
    intro k ok hslot hk
    refine tells_core c n a _ _ _ _ _ k (slN c * szN c) _ ok w rfl rfl rfl rfl rfl hslot ?_ hO
    rcases sz_range c with ⟨h, h'⟩ | h
    · right
      rw [h, h', Int.zero_mul] at hk
      refine ⟨h, h', by rw [if_pos h], ?_⟩
      rcases hk with ⟨k1, k2, _, _⟩ | ⟨_, h1, h2⟩ | ⟨_, _, h1, h2⟩
      · omega
      · exact ⟨h1, h2⟩
      · exact ⟨h1, h2⟩
    · left
      refine ⟨h, sl_div h, by omega, w64_id (by omega), ?_, ?_⟩
      · rw [if_neg (by omega)]; exact w64_id (by omega)
      · rcases hk with ⟨k1, k2, k3, k4⟩ | h1 | h1
        · refine .inl ⟨k1, k2, k3, ?_⟩
          rw [Int.tdiv_eq_ediv_of_nonneg k1, k4]
          have : 0 ≤ k := k4 ▸ Int.ediv_nonneg k1 (by omega)
          have : k ≤ a := k4 ▸ Int.ediv_le_self _ k1
          exact w64_id (by omega)
        · exact .inr (.inl h1)
        · exact .inr (.inr h1)
  by_cases h0 : a < 0
  · exact hsl 0 false (fun w => slot_out c a w (.inl h0)) (.inr (.inl ⟨h0, rfl, rfl⟩))
  · by_cases h1 : a < slN c * szN c
    · exact hsl _ true (fun w => slot_in c a w (by omega) h1) (.inl ⟨by omega, h1, rfl, rfl⟩)
    · exact hsl 0 false (fun w => slot_out c a w (.inr (by omega))) (.inr (.inr ⟨by omega, by omega, rfl, rfl⟩))

end Go.Proofs.Ytdaadndeegdpoaa

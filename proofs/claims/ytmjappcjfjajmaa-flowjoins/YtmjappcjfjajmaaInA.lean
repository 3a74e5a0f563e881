/- The walk of instr's rolesOf. -/
import Derived.Test.YtmjappcjfjajmaaInT
namespace Go.Proofs.Ytmjappcjfjajmaa
open Go.RowKit

set_option maxHeartbeats 4000000 in
set_option maxRecDepth 100000 in
theorem roles_known (op : Int) (h : kn op = true) (w : World) :
    Calls Try.prog 85 #[.int .i64 op] w fun e w' => e = .returned (.tuple #[.agg #[.int .i64 (ro op).1, .int .i64 (ro op).2.1, .int .i64 (ro op).2.2], .bool true]) ∧ w' = w.alloc (.cells #[.int .i64 (ro op).1, .int .i64 (ro op).2.1, .int .i64 (ro op).2.2] 122) := by
  rcases kn_cases h with rfl | rfl | rfl | rfl | rfl | rfl | rfl | rfl | rfl | rfl | rfl | rfl | rfl | rfl | rfl | rfl | rfl | rfl | rfl | rfl | rfl | rfl | rfl | rfl | rfl | rfl | rfl | rfl | rfl | rfl <;> (as_aux_lemma =>
    clear h
    go_enter Try.func85, Try.ntmps85
    go_wp2_with fail
    refine bodyPost_ret (by simp [results, go_sem]; rfl) rfl ?_
    exact ⟨rfl, rfl⟩)
set_option maxHeartbeats 1000000 in
set_option maxRecDepth 100000 in
theorem roles_none (op : Int) (h : kn op = false) (w : World) :
    Calls Try.prog 85 #[.int .i64 op] w fun e w' => e = .returned (.tuple #[.agg #[.int .i64 0, .int .i64 0, .int .i64 0], .bool false]) ∧ w' = w.alloc (.cells #[.int .i64 0, .int .i64 0, .int .i64 0] 122) := by
  have h0 := kn_ne h 0 (by decide) (by decide)
  have h1 := kn_ne h 1 (by decide) (by decide)
  have h2 := kn_ne h 2 (by decide) (by decide)
  have h3 := kn_ne h 3 (by decide) (by decide)
  have h4 := kn_ne h 4 (by decide) (by decide)
  have h5 := kn_ne h 5 (by decide) (by decide)
  have h6 := kn_ne h 6 (by decide) (by decide)
  have h7 := kn_ne h 7 (by decide) (by decide)
  have h8 := kn_ne h 8 (by decide) (by decide)
  have h9 := kn_ne h 9 (by decide) (by decide)
  have h10 := kn_ne h 10 (by decide) (by decide)
  have h11 := kn_ne h 11 (by decide) (by decide)
  have h12 := kn_ne h 12 (by decide) (by decide)
  have h13 := kn_ne h 13 (by decide) (by decide)
  have h14 := kn_ne h 14 (by decide) (by decide)
  have h15 := kn_ne h 15 (by decide) (by decide)
  have h16 := kn_ne h 16 (by decide) (by decide)
  have h17 := kn_ne h 17 (by decide) (by decide)
  have h18 := kn_ne h 18 (by decide) (by decide)
  have h19 := kn_ne h 19 (by decide) (by decide)
  have h20 := kn_ne h 20 (by decide) (by decide)
  have h21 := kn_ne h 21 (by decide) (by decide)
  have h22 := kn_ne h 22 (by decide) (by decide)
  have h23 := kn_ne h 23 (by decide) (by decide)
  have h24 := kn_ne h 24 (by decide) (by decide)
  have h25 := kn_ne h 25 (by decide) (by decide)
  have h26 := kn_ne h 26 (by decide) (by decide)
  have h27 := kn_ne h 27 (by decide) (by decide)
  have h28 := kn_ne h 28 (by decide) (by decide)
  have h29 := kn_ne h 29 (by decide) (by decide)
  clear h
  go_enter Try.func85, Try.ntmps85
  go_wp2_with fail
  refine bodyPost_ret (by simp [results, go_sem]; rfl) rfl ?_
  exact ⟨rfl, rfl⟩

theorem roles_any {op a0 a1 a2 : Int} {b : Bool} (h : Hid (ro op = (a0, a1, a2))) (hb : Hid (kn op = b)) (w : World) :
    Calls Try.prog 85 #[.int .i64 op] w fun e w' => e = .returned (.tuple #[.agg #[.int .i64 a0, .int .i64 a1, .int .i64 a2], .bool b]) ∧ w' = w.alloc (.cells #[.int .i64 a0, .int .i64 a1, .int .i64 a2] 122) := by
  have hr := h.out
  have hk := hb.out
  cases b with
  | true =>
    have := roles_known op hk w
    rw [hr] at this
    exact this
  | false =>
    rw [ro_none hk] at hr
    simp only [Prod.mk.injEq] at hr
    obtain ⟨rfl, rfl, rfl⟩ := hr
    exact roles_none op hk w

end Go.Proofs.Ytmjappcjfjajmaa

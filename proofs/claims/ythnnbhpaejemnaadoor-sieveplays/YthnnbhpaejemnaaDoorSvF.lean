/- The walk of Count. -/
import Derived.Test.YthnnbhpaejemnaaDoorSvE
namespace Go.Proofs.YthnnbhpaejemnaaDoor
open Go.RowKit

set_option maxHeartbeats 400000 in
theorem count_nil (w : World) :
    Calls Tryd.prog 16 #[.pointer none] w fun e w' => e = .returned (.int .i64 0) ∧ w' = w := by
  go_enter Tryd.func16, Tryd.ntmps16
  go_wp2
  go_ret
  exact ⟨rfl, rfl⟩

set_option maxHeartbeats 1000000 in
theorem count_core (w : World) {b bw n K : Nat} {S : Nat → Bool} (hcw : w.cell? ⟨b, 1, none⟩ = some (.slice (some ⟨bw, 0, none⟩) K K)) (hK : K ≤ 64)
    (hcs : ∀ j, j < K → w.cell? ⟨bw, j, none⟩ = some (.int .u64 (wd S j))) (hn : cnt S (64 * K) = n) :
    Calls Tryd.prog 16 #[.pointer (some ⟨b, 0, none⟩)] w fun e w' => e = .returned (.int .i64 n) ∧ w' = w := by
  have HC : Hid (∀ j, j < K → w.cell? ⟨bw, j, none⟩ = some (.int .u64 (wd S j))) := hcs
  have HN : Hid (cnt S (64 * K) = n) := hn
  clear hcs hn
  go_enter Tryd.func16, Tryd.ntmps16
  go_wp2
  go_loop [3, 13] (fun c i => ∃ j : Nat, j ≤ K ∧ i = .int .i64 j ∧ c = .int .i64 (cnt S (64 * j) : Nat)) (fun _ i => K - (intOf i).toNat)
  case atStart => exact ⟨0, Nat.zero_le _, rfl, rfl⟩
  case round =>
    obtain ⟨j, hj, rfl, rfl⟩ := hrel
    by_cases hlt : j < K
    · have hcell := HC.out j hlt
      have HW : Hid (cnt S (64 * (j + 1)) = cnt S (64 * j) + cnt (wd S j).testBit 64) := cnt_word S j
      have hv := wd_lt S j
      have hb1 := cnt_le S (64 * j)
      have hb2 := cnt_le (wd S j).testBit 64
      generalize wd S j = v at *
      generalize hg : cnt v.testBit 64 = p at *
      have HG : Hid (cnt v.testBit 64 = p) := hg
      clear hg
      generalize cnt S (64 * j) = c0 at *
      have hv' : Hid (v < 18446744073709551616) := hv
      clear hv
      go_wp2_with (go_at_call 28; refine (ones_any v hv'.out _).mono ?_; rintro e w' ⟨rfl, rfl⟩; rw [HG.out])
      go_round
      case rel => exact ⟨j + 1, by omega, by go_num, by rw [HW.out]; go_num⟩
      case measure => simp [intOf]; omega
    · go_wp2
      go_ret
      have e : j = K := by omega
      exact ⟨ret_int (by rw [e, HN.out]), rfl⟩

theorem count_any (w : World) {b bw n : Nat} {S : Nat → Bool} (h : SvAt w b bw n S) :
    Calls Tryd.prog 16 #[.pointer (some ⟨b, 0, none⟩)] w fun e w' => e = .returned (.int .i64 (cnt S n : Nat)) ∧ w' = w :=
  count_core w h.cw (by have := h.le; unfold svK; omega) h.cs (cnt_past S n _ (by unfold svK; omega) h.out)

end Go.Proofs.YthnnbhpaejemnaaDoor

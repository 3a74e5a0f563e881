/- The walks of Clear; of Put, Cut of a nil Sieve. -/
import Derived.Test.YthnnbhpaejemnaaDoorSvL
import Derived.Lib.SliceRun
namespace Go.Proofs.YthnnbhpaejemnaaDoor
open Go.RowKit

theorem row_fill {b n : Nat} {t : TypeId} {z : Value} : ∀ (k o : Nat) (w : World) (f : Nat → Value), w.rowIs b t n f → (w.setCells b o (List.replicate k z)).rowIs b t n (fun j => if o ≤ j ∧ j < o + k then z else f j) ∧ But b w (w.setCells b o (List.replicate k z))
  | 0, o, w, f, h => by
    refine ⟨h.congr fun i _ => ?_, But.refl _ _⟩
    rw [if_neg (by omega)]
  | k + 1, o, w, f, h => by
    obtain ⟨h1, h2⟩ := row_fill k (o + 1) (w.setCell ⟨b, o, none⟩ z) _ (h.set o z)
    refine ⟨h1.congr fun i _ => ?_, ((But.refl _ _).setCell o z).trans h2⟩
    by_cases e : o + 1 ≤ i ∧ i < o + 1 + k
    · rw [if_pos e, if_pos (by omega)]
    · rw [if_neg e]
      by_cases e2 : i = o
      · rw [if_pos e2, if_pos (by omega)]
      · rw [if_neg e2, if_neg (by omega)]

theorem zero_u64 (w : World) : (zeroValue 40).run Tryd.prog w = .ok (.int .u64 0) w := by kernel_rfl

set_option maxHeartbeats 400000 in
theorem clear_nil (w : World) :
    Calls Tryd.prog 11 #[.pointer none] w fun e w' => e = .returned (.tuple #[]) ∧ w' = w := by
  go_enter Tryd.func11, Tryd.ntmps11
  go_wp2
  go_end0
  exact ⟨rfl, rfl⟩

set_option maxHeartbeats 400000 in
theorem clear_zero (w : World) {b bw K : Nat} (hcw : w.cell? ⟨b, 1, none⟩ = some (.slice (some ⟨bw, 0, none⟩) K K)) (hK : K = 0) :
    Calls Tryd.prog 11 #[.pointer (some ⟨b, 0, none⟩)] w fun e w' => e = .returned (.tuple #[]) ∧ w' = w := by
  subst hK
  have hcl : ∀ ty, (Builtin.clear_ #[53] ty #[.slice (some ⟨bw, 0, none⟩) 0 0]).run Tryd.prog w = .ok (.tuple #[]) w := fun ty => by
    simp [Builtin.clear_, run_underlying Tryd.underlying53]
  go_enter Tryd.func11, Tryd.ntmps11
  go_wp2_with (simp only [hcl])
  go_end0
  exact ⟨rfl, rfl⟩

set_option maxHeartbeats 400000 in
theorem clear_core (w : World) {b bw K : Nat} (hcw : w.cell? ⟨b, 1, none⟩ = some (.slice (some ⟨bw, 0, none⟩) K K)) (hK : 0 < K) (hc : ∀ j, j < K → (w.cell? ⟨bw, 0 + j, none⟩).isSome = true) (hf : ∀ j, j < K → w.frozen? ⟨bw, 0 + j, none⟩ = false) :
    Calls Tryd.prog 11 #[.pointer (some ⟨b, 0, none⟩)] w fun e w' => e = .returned (.tuple #[]) ∧ w' = w.setCells bw 0 (List.replicate K (.int .u64 0)) := by
  have hcl : ∀ ty, (Builtin.clear_ #[53] ty #[.slice (some ⟨bw, 0, none⟩) K K]).run Tryd.prog w = .ok (.tuple #[]) (w.setCells bw 0 (List.replicate K (.int .u64 0))) :=
    fun ty => Lib.run_clear_slice w 53 40 ty (.int .u64 0) Tryd.underlying53 zero_u64 rfl rfl bw 0 K K hK hc hf
  clear hc hf
  go_enter Tryd.func11, Tryd.ntmps11
  go_wp2_with (simp only [hcl])
  go_end0
  exact ⟨rfl, rfl⟩

theorem clear_any (w : World) {b bw n : Nat} {S : Nat → Bool} (h : SvAt w b bw n S) :
    Calls Tryd.prog 11 #[.pointer (some ⟨b, 0, none⟩)] w fun e w' => e = .returned (.tuple #[]) ∧ SvAt w' b bw n (fun _ => false) ∧ But bw w w' := by
  by_cases hK : svK n = 0
  · refine (clear_zero w h.cw hK).mono ?_
    rintro e w' ⟨rfl, rfl⟩
    exact ⟨rfl, ⟨h.hd, h.ws.congr fun j hj => by omega, h.le, fun _ _ => rfl⟩, But.refl _ _⟩
  · refine (clear_core w h.cw (by omega) (fun j hj => by rw [Nat.zero_add, h.cs j hj]; rfl) (fun j hj => by rw [Nat.zero_add]; exact h.fw j)).mono ?_
    rintro e w' ⟨rfl, rfl⟩
    obtain ⟨r, hb⟩ := row_fill (z := .int .u64 0) (svK n) 0 w _ h.ws
    refine ⟨rfl, ⟨hb.row h.hd h.ne, r.congr fun j hj => ?_, h.le, fun _ _ => rfl⟩, hb⟩
    rw [if_pos (by omega), wd_zero]
    rfl

set_option maxHeartbeats 400000 in
theorem put_nil (k : Int) (w : World) {bl c : Nat} (hc : w.cell? ⟨bl, 0, none⟩ = some (.int .i64 k)) :
    Calls Tryd.prog 10 #[.pointer none, .slice (some ⟨bl, 0, none⟩) 1 c] w fun e w' => e = .returned (.int .i64 0) ∧ w' = w := by
  go_enter Tryd.func10, Tryd.ntmps10
  go_wp2
  go_loop [5, 10] (fun f i => f = .int .i64 0 ∧ ∃ j : Nat, j ≤ 1 ∧ i = .int .i64 j) (fun _ i => 1 - (intOf i).toNat)
  case atStart => exact ⟨rfl, 0, by decide, rfl⟩
  case round =>
    obtain ⟨rfl, j, hj, rfl⟩ := hrel
    by_cases hlt : j < 1
    · have e : j = 0 := by omega
      subst e
      go_wp2_with (go_at_call 26; refine (may_nil _ _).mono ?_; rintro e w' ⟨rfl, rfl⟩)
      go_round
      case rel => exact ⟨rfl, 1, by decide, by go_num⟩
      case measure => simp [intOf]
    · have e : j = 1 := by omega
      subst e
      go_wp2
      go_ret
      exact ⟨rfl, rfl⟩

set_option maxHeartbeats 400000 in
theorem cut_nil (k : Int) (w : World) {bl c : Nat} (hc : w.cell? ⟨bl, 0, none⟩ = some (.int .i64 k)) :
    Calls Tryd.prog 12 #[.pointer none, .slice (some ⟨bl, 0, none⟩) 1 c] w fun e w' => e = .returned (.int .i64 0) ∧ ∃ q, w' = w.drewN q := by
  go_enter Tryd.func12, Tryd.ntmps12
  go_wp2
  go_loopw [5, 10] (fun f i wr => f = .int .i64 0 ∧ ∃ j : Nat, j ≤ 1 ∧ i = .int .i64 j ∧ ∃ q, wr = w.drewN q) (fun _ i _ => 1 - (intOf i).toNat)
  case atStart => exact ⟨rfl, 0, by decide, rfl, 0, rfl⟩
  case round =>
    obtain ⟨rfl, j, hj, rfl, q, rfl⟩ := hrel
    by_cases hlt : j < 1
    · have e : j = 0 := by omega
      subst e
      go_wp2_with (go_at_call 20; refine (has_nil _ _).mono ?_; rintro e w' ⟨rfl, q2, rfl⟩)
      go_roundw
      case rel => exact ⟨rfl, 1, by decide, by go_num, _, rfl⟩
      case measure => simp [intOf]
    · have e : j = 1 := by omega
      subst e
      go_wp2
      go_ret
      exact ⟨rfl, q, rfl⟩

end Go.Proofs.YthnnbhpaejemnaaDoor

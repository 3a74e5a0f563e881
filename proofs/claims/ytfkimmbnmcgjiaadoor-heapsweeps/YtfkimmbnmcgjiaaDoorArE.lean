/- The walk of New; Grow. -/
import Derived.Test.YtfkimmbnmcgjiaaDoorArD
import Derived.Deep.DeepCutAuto
namespace Go.Proofs.YtfkimmbnmcgjiaaDoor
open Go.RowKit

theorem Tryd.info63 : (Tryd.prog.info? 63).map (fun i => (i.zero, i.size, i.bytes)) = some (some (.pointer none), 1, 8) := by kernel_rfl

theorem below_drew {B : Nat} {w w' : World} (h : Below B w w') : Below B w w'.drew := ⟨h.os, h.tape, h.output, h.size, h.block⟩

theorem new_at {w w1 : World} {m M bp bw : Nat} (hM : M = 32 * m) (hm : m ≤ 64) (hB : w.heap.size ≤ w1.heap.size) (h1 : w.heap.size ≤ bp) (h2 : w.heap.size ≤ bw)
    (r1 : w1.rowIs bp 63 m (fun _ => .pointer none)) (r2 : w1.rowIs bw 3 M (fun _ => .int .i64 0)) :
    ArAt (w1.alloc (.cells #[.slice (some ⟨bp, 0, none⟩) m m, .slice (some ⟨bw, 0, none⟩) M M] 73)) w.heap.size w1.heap.size bp bw m (fun _ => none) (fun _ => 0) := by
  subst hM
  refine ⟨?_, r1.alloc _, r2.alloc _, fun k p e => (by cases e), fun k k' p p' e => (by cases e), fun _ _ => rfl, hm, hB, h1, h2, fun k p e => (by cases e)⟩
  exact World.rowIs_alloc w1 #[.slice (some ⟨bp, 0, none⟩) m m, .slice (some ⟨bw, 0, none⟩) (32 * m) (32 * m)] 73 (arC bp bw m) (fun i hi => by
    have : i = 0 ∨ i = 1 := by simp at hi; omega
    rcases this with rfl | rfl <;> rfl)

set_option maxHeartbeats 1000000 in
theorem anew_core (pages : Int) (m M : Nat) (w : World) (h2 : min (max pages 0) 64 = (m : Int)) (h3 : (m : Int) * 32 = (M : Int)) (hM : Hid (M = 32 * m)) :
    Calls Tryd.prog 23 #[.int .i64 pages] w fun e w' => ∃ ba bp bw, e = .returned (.pointer (some ⟨ba, 0, none⟩)) ∧ ArAt w' w.heap.size ba bp bw m (fun _ => none) (fun _ => 0) ∧ Below w.heap.size w w' := by
  have hm : m ≤ 64 := by omega
  have H2 : Hid (min (max pages 0) 64 = (m : Int)) := h2
  have hM2 : M ≤ 2048 := by have := hM.out; omega
  clear h2
  go_enter Tryd.func23, Tryd.ntmps23
  go_upto_region 1 with (fail)
  go_cut [3] (fun v wk => v = .int .i64 (m : Int) ∧ wk = w)
  case first =>
    have h2 := H2.out
    go_wp2
    all_goals
      go_meet
      case rel => first | exact ⟨congrArg (Value.int .i64) (by omega), rfl⟩ | exact ⟨by simp; omega, trivial⟩
  case rest =>
    obtain ⟨rfl, rfl⟩ := hcut
    have hmk1 := run_make_row' (P := Tryd.prog) 70 63 (.pointer none) 8 Tryd.underlying70 Tryd.info63 rfl .i64 .i64 m (by omega) (by omega)
    have hmk2 := run_make_row' (P := Tryd.prog) 22 3 (.int .i64 0) 8 Tryd.underlying22 Tryd.info3 rfl .i64 .i64 M (by omega) (by omega)
    have HM1 : Hid (ArAt (((wc.alloc (.cells (madeCells #[.pointer none] m) 63)).alloc (.cells (madeCells #[.int .i64 0] M) 3)).drew.alloc (.cells #[.slice (some ⟨wc.heap.size, 0, none⟩) m m, .slice (some ⟨wc.heap.size + 1, 0, none⟩) M M] 73)) wc.heap.size (wc.heap.size + 2) wc.heap.size (wc.heap.size + 1) m (fun _ => none) (fun _ => 0) ∧
        Below wc.heap.size wc (((wc.alloc (.cells (madeCells #[.pointer none] m) 63)).alloc (.cells (madeCells #[.int .i64 0] M) 3)).drew.alloc (.cells #[.slice (some ⟨wc.heap.size, 0, none⟩) m m, .slice (some ⟨wc.heap.size + 1, 0, none⟩) M M] 73))) := by
      have r1 := World.rowIs_made wc (.pointer none) m 63
      have r2 := World.rowIs_made (wc.alloc (.cells (madeCells #[.pointer none] m) 63)) (.int .i64 0) M 3
      have e : (wc.alloc (.cells (madeCells #[.pointer none] m) 63)).heap.size = wc.heap.size + 1 := by simp
      have e2 : ((wc.alloc (.cells (madeCells #[.pointer none] m) 63)).alloc (.cells (madeCells #[.int .i64 0] M) 3)).drew.heap.size = wc.heap.size + 2 := by simp
      rw [e] at r2
      have B1 : Below wc.heap.size wc ((wc.alloc (.cells (madeCells #[.pointer none] m) 63)).alloc (.cells (madeCells #[.int .i64 0] M) 3)) := ((Below.refl _ _).alloc (Nat.le_refl _) _).alloc (by simp) _
      have g := new_at (w := wc) hM.out hm (w1 := ((wc.alloc (.cells (madeCells #[.pointer none] m) 63)).alloc (.cells (madeCells #[.int .i64 0] M) 3)).drew) (by omega) (Nat.le_refl _) (by omega) (r1.alloc _) r2
      rw [e2] at g
      exact ⟨g, (below_drew B1).alloc (by rw [e2]; omega) _⟩
    have HM2 : Hid (ArAt (((wc.alloc (.cells (madeCells #[.int .i64 0] M) 3)).alloc (.cells (madeCells #[.pointer none] m) 63)).drew.alloc (.cells #[.slice (some ⟨wc.heap.size + 1, 0, none⟩) m m, .slice (some ⟨wc.heap.size, 0, none⟩) M M] 73)) wc.heap.size (wc.heap.size + 2) (wc.heap.size + 1) wc.heap.size m (fun _ => none) (fun _ => 0) ∧
        Below wc.heap.size wc (((wc.alloc (.cells (madeCells #[.int .i64 0] M) 3)).alloc (.cells (madeCells #[.pointer none] m) 63)).drew.alloc (.cells #[.slice (some ⟨wc.heap.size + 1, 0, none⟩) m m, .slice (some ⟨wc.heap.size, 0, none⟩) M M] 73))) := by
      have r1 := World.rowIs_made wc (.int .i64 0) M 3
      have r2 := World.rowIs_made (wc.alloc (.cells (madeCells #[.int .i64 0] M) 3)) (.pointer none) m 63
      have e : (wc.alloc (.cells (madeCells #[.int .i64 0] M) 3)).heap.size = wc.heap.size + 1 := by simp
      have e2 : ((wc.alloc (.cells (madeCells #[.int .i64 0] M) 3)).alloc (.cells (madeCells #[.pointer none] m) 63)).drew.heap.size = wc.heap.size + 2 := by simp
      rw [e] at r2
      have B1 : Below wc.heap.size wc ((wc.alloc (.cells (madeCells #[.int .i64 0] M) 3)).alloc (.cells (madeCells #[.pointer none] m) 63)) := ((Below.refl _ _).alloc (Nat.le_refl _) _).alloc (by simp) _
      have g := new_at (w := wc) hM.out hm (w1 := ((wc.alloc (.cells (madeCells #[.int .i64 0] M) 3)).alloc (.cells (madeCells #[.pointer none] m) 63)).drew) (by omega) (by omega) (Nat.le_refl _) r2 (r1.alloc _)
      rw [e2] at g
      exact ⟨g, (below_drew B1).alloc (by rw [e2]; omega) _⟩
    go_wp2_with fail
    go_region
    · go_wp2
      go_ret
      exact ⟨_, _, _, rfl, HM1.out.1, HM1.out.2⟩
    · go_wp2
      go_ret
      exact ⟨_, _, _, rfl, HM2.out.1, HM2.out.2⟩
theorem anew_any (pages : Int) (m : Nat) (w : World) (h : min (max pages 0) 64 = (m : Int)) :
    Calls Tryd.prog 23 #[.int .i64 pages] w fun e w' => ∃ ba bp bw, e = .returned (.pointer (some ⟨ba, 0, none⟩)) ∧ ArAt w' w.heap.size ba bp bw m (fun _ => none) (fun _ => 0) ∧ Below w.heap.size w w' :=
  anew_core pages m (32 * m) w h (by omega) rfl

set_option maxHeartbeats 400000 in
theorem grow_nil (c : Int) (w : World) (h0 : 0 ≤ c) (h7 : c ≤ 7) :
    Calls Tryd.prog 27 #[.pointer none, .int .i64 c] w fun e w' => e = .returned (.bool false) ∧ Below w.heap.size w w' := by
  go_enter Tryd.func27, Tryd.ntmps27
  go_wp2_with fail
  refine (new_any c _ h0 h7).mono ?_
  rintro e w' ⟨b, hb, rfl, hq, hB⟩
  go_wp2_with fail
  go_ret
  exact ⟨rfl, hB⟩

section
variable (c : Int) (w : World) {B ba bp bw n : Nat} {P : Nat → Option PSt} {W : Nat → Int} (h : ArAt w B ba bp bw n P W)
include h
omit h in
set_option maxHeartbeats 400000 in
theorem grow_bad (hc : c < 0 ∨ 7 < c) :
    Calls Tryd.prog 27 #[.pointer (some ⟨ba, 0, none⟩), .int .i64 c] w fun e w' => e = .returned (.bool false) ∧ w' = w := by
  go_enter Tryd.func27, Tryd.ntmps27
  go_wp2_with fail
  refine (new_none c _ hc).mono ?_
  rintro e w' ⟨rfl, rfl⟩
  go_wp2_with fail
  go_ret
  exact ⟨rfl, rfl⟩
set_option maxHeartbeats 1000000 in
theorem grow_full (h0 : 0 ≤ c) (h7 : c ≤ 7) (hf : ∀ k, k < n → P k ≠ none) :
    Calls Tryd.prog 27 #[.pointer (some ⟨ba, 0, none⟩), .int .i64 c] w fun e w' => e = .returned (.bool false) ∧ Below w.heap.size w w' := by
  have HF : Hid (∀ k, k < n → P k ≠ none) := hf
  have H : Hid (ArAt w B ba bp bw n P W) := h
  have hN := h.n64
  clear hf h
  go_enter Tryd.func27, Tryd.ntmps27
  go_wp2_with fail
  refine (new_any c _ h0 h7).mono ?_
  rintro e w1 ⟨b, hb, rfl, hq, hB⟩
  have HB : Hid (Below w.heap.size w w1) := hB
  have H1 : Hid (ArAt w1 B ba bp bw n P W) := H.out.below hB
  have hc0 := H1.out.c0
  clear hq hB hb
  go_wp2_with fail
  go_loopw [25] (fun i wr => wr = w1 ∧ ∃ j : Nat, j ≤ n ∧ i = .int .i64 j) (fun i _ => n - (intOf i).toNat)
  case atStart => exact ⟨rfl, 0, Nat.zero_le _, rfl⟩
  case round =>
    obtain ⟨rfl, j, hj, rfl⟩ := hrel
    by_cases hlt : j < n
    · have h1 := H1.out.cp hlt
      obtain ⟨p, hp⟩ := Option.ne_none_iff_exists'.1 (HF.out j hlt)
      have HP : Hid (P j = some p) := hp
      rw [hp] at h1
      change wr.cell? ⟨bp, j, none⟩ = some (.pointer (some ⟨p.blk, 0, none⟩)) at h1
      clear hp
      go_wp2_with fail
      refine (classed_any _ (H1.out.pg j p HP.out)).mono ?_
      rintro e w' ⟨rfl, rfl⟩
      go_wp2_with fail
      go_roundw
      case rel => exact ⟨trivial, j + 1, by omega, by go_num⟩
      case measure => simp [intOf]; omega
    · have e : j = n := by omega
      subst e
      go_wp2_with fail
      go_ret
      exact ⟨rfl, HB.out⟩
set_option maxHeartbeats 1000000 in
theorem grow_some (h0 : 0 ≤ c) (h7 : c ≤ 7) {k : Nat} (hk : k < n) (hp : P k = none) (hf : ∀ j, j < k → P j ≠ none) (hBw : B ≤ w.heap.size) :
    Calls Tryd.prog 27 #[.pointer (some ⟨ba, 0, none⟩), .int .i64 c] w fun e w' => e = .returned (.bool true) ∧ ∃ b, w.heap.size ≤ b ∧ ArAt w' B ba bp bw n (upP P k (some ⟨b, c, fun _ => false, fun _ => false⟩)) W ∧ But bp w w' := by
  have HF : Hid (∀ j, j < k → P j ≠ none) := hf
  have H : Hid (ArAt w B ba bp bw n P W) := h
  have HK : Hid (P k = none) := hp
  have hN := h.n64
  clear hf h hp
  go_enter Tryd.func27, Tryd.ntmps27
  go_wp2_with fail
  refine (new_any c _ h0 h7).mono ?_
  rintro e w1 ⟨b, hb, rfl, hq, hB⟩
  have H1 : Hid (ArAt w1 B ba bp bw n P W) := H.out.below hB
  have hc0 := H1.out.c0
  have HS : Hid (ArAt (w1.setCell ⟨bp, k, none⟩ (.pointer (some ⟨b, 0, none⟩))) B ba bp bw n (upP P k (some ⟨b, c, fun _ => false, fun _ => false⟩)) W ∧ But bp w (w1.setCell ⟨bp, k, none⟩ (.pointer (some ⟨b, 0, none⟩)))) := by
    refine ⟨H1.out.newP hk HK.out hq (fun j q e => ?_) (by omega), (But.of_below hB).trans ((But.refl _ _).setCell k _)⟩
    have := (H.out.pg j q e).lt
    omega
  have HBB : Hid (w.heap.size ≤ b) := hb
  clear hq hB hb
  go_wp2_with fail
  go_loopw [25] (fun i wr => wr = w1 ∧ ∃ j : Nat, j ≤ k ∧ i = .int .i64 j) (fun i _ => n - (intOf i).toNat)
  case atStart => exact ⟨rfl, 0, Nat.zero_le _, rfl⟩
  case round =>
    obtain ⟨rfl, j, hj, rfl⟩ := hrel
    have hlt : j < n := by omega
    have h1 := H1.out.cp hlt
    by_cases hjk : j < k
    · obtain ⟨p, hp⟩ := Option.ne_none_iff_exists'.1 (HF.out j hjk)
      have HP : Hid (P j = some p) := hp
      rw [hp] at h1
      change wr.cell? ⟨bp, j, none⟩ = some (.pointer (some ⟨p.blk, 0, none⟩)) at h1
      clear hp
      go_wp2_with fail
      refine (classed_any _ (H1.out.pg j p HP.out)).mono ?_
      rintro e w' ⟨rfl, rfl⟩
      go_wp2_with fail
      go_roundw
      case rel => exact ⟨trivial, j + 1, by omega, by go_num⟩
      case measure => simp [intOf]; omega
    · have e : j = k := by omega
      subst e
      rw [HK.out] at h1
      change wr.cell? ⟨bp, j, none⟩ = some (.pointer none) at h1
      have h2 := H1.out.pr.frozen j
      have h3 := H1.out.pr.lt
      go_wp2_with fail
      refine (classed_nil _).mono ?_
      rintro e w' ⟨rfl, rfl⟩
      go_wp2_with fail
      go_ret
      exact ⟨rfl, b, HBB.out, HS.out⟩
end

end Go.Proofs.YtfkimmbnmcgjiaaDoor

/- The walk of alive: calls whose answers the document fixes. -/
import Derived.Test.YtboajgkfienboaaShF
namespace Go.Proofs.Ytboajgkfienboaa
open Go.RowKit Go.Maps

def sL : List Int := [1, 16, 17]
theorem fit_sL : FitL sL := by intro n hn; simp [sL] at hn; rcases hn with rfl | rfl | rfl <;> decide
theorem lo_sL : loS sL 16 = 6 := by decide +kernel
theorem chk2 : chkN [sL, sL] = 0 := by decide +kernel
theorem chk1 : chkN [sL] = 3 := by decide +kernel

theorem pointers_s (g : Nat) (w : World) (h : Hid (SrcAt w (.slice (some ⟨g, 0, none⟩) 3 3) sL)) :
    Calls Try.prog 16 #[.agg #[.slice (some ⟨g, 0, none⟩) 3 3]] w fun e w' => e = .returned (.int .u16 6) ∧ Below w.heap.size w w' :=
  pointers_any (L := sL) (s := 6) lo_sL (some ⟨g, 0, none⟩) 3 w (by decide) (by unfold maxLen; omega) h.out
theorem sh_two {g : Nat} {w : World} (h : Hid (SrcAt w (.slice (some ⟨g, 0, none⟩) 3 3) sL)) :
    ShV (w.alloc (.cells #[.slice (some ⟨g, 0, none⟩) 3 3, .slice (some ⟨g, 0, none⟩) 3 3] 26)) (.slice (some ⟨w.heap.size, 0, none⟩) 2 2) [sL, sL] := by
  refine Or.inr ⟨w.heap.size, 0, 2, rfl, by simp, fun j hj => ⟨some ⟨g, 0, none⟩, 3, ?_⟩⟩
  match j, hj with
  | 0, _ => exact ⟨by simp [sL], h.out.alloc _⟩
  | 1, _ => exact ⟨by simp [sL], h.out.alloc _⟩
theorem sh_one {g : Nat} {w : World} (h : Hid (SrcAt w (.slice (some ⟨g, 0, none⟩) 3 3) sL)) :
    ShV (w.alloc (.cells #[.slice (some ⟨g, 0, none⟩) 3 3] 26)) (.slice (some ⟨w.heap.size, 0, none⟩) 1 1) [sL] := by
  refine Or.inr ⟨w.heap.size, 0, 1, rfl, by simp, fun j hj => ⟨some ⟨g, 0, none⟩, 3, ?_⟩⟩
  match j, hj with
  | 0, _ => exact ⟨by simp [sL], h.out.alloc _⟩

set_option maxHeartbeats 2000000 in
theorem alive_any (w : World) : Calls Try.prog 6 #[] w fun e w' => e = .returned (.bool true) ∧ Below w.heap.size w w' := by
  go_enter Try.func6, Try.ntmps6
  go_wp2_with fail
  refine (points_any (k := 17) (n := 1) (b := true) (show upN 16 17 = 1 from rfl) (show upB 16 17 = true from rfl) _).mono ?_
  rintro e w1 ⟨rfl, hw1⟩
  have hcell : w1.cell? ⟨w.heap.size + 1, 0, none⟩ = some (.slice (some ⟨w.heap.size, 0, none⟩) 3 3) := by rw [hw1]; simp
  have HS : Hid (SrcAt w1 (.slice (some ⟨w.heap.size, 0, none⟩) 3 3) sL) := by
    rw [hw1]
    refine SrcAt.alloc (Or.inr ⟨w.heap.size, 0, 3, rfl, by simp, fun j hj => ?_⟩) _
    match j, hj with
    | 0, _ => simp [sL]
    | 1, _ => simp [sL]
    | 2, _ => simp [sL]
  have HB : Hid (Below w.heap.size w w1) := by
    rw [hw1]
    exact ((Below.refl _ _).alloc (Nat.le_refl _) _).alloc (by simp) _
  have hsz : w1.heap.size = w.heap.size + 2 := by rw [hw1]; simp
  clear hw1
  go_wp2_with fail
  refine (pointers_s _ _ HS).mono ?_
  rintro e w2 ⟨rfl, hw2⟩
  replace HS : Hid (SrcAt w2 (.slice (some ⟨w.heap.size, 0, none⟩) 3 3) sL) := HS.out.below hw2
  replace hcell : w2.cell? ⟨w.heap.size + 1, 0, none⟩ = some (.slice (some ⟨w.heap.size, 0, none⟩) 3 3) := (hw2.cell (p := ⟨w.heap.size + 1, 0, none⟩) (by show w.heap.size + 1 < _; omega)).trans hcell
  replace HB : Hid (Below w.heap.size w w2) := HB.out.trans (hw2.mono (by omega))
  have hsz2 := hw2.size
  clear hw2
  go_wp2_with fail
  refine (check_any (Ls := [sL, sL]) chk2 _ _ (by intro L hL; simp at hL; subst hL; exact fit_sL) (sh_two HS)).mono ?_
  rintro e w3 ⟨rfl, hw3⟩
  have hw3' : Below w2.heap.size w2 w3 := ((Below.refl _ _).alloc (Nat.le_refl _) _).trans (hw3.mono (by simp))
  clear hw3
  replace HS : Hid (SrcAt w3 (.slice (some ⟨w.heap.size, 0, none⟩) 3 3) sL) := HS.out.below hw3'
  replace hcell : w3.cell? ⟨w.heap.size + 1, 0, none⟩ = some (.slice (some ⟨w.heap.size, 0, none⟩) 3 3) := (hw3'.cell (p := ⟨w.heap.size + 1, 0, none⟩) (by show w.heap.size + 1 < _; omega)).trans hcell
  replace HB : Hid (Below w.heap.size w w3) := HB.out.trans (hw3'.mono (by omega))
  have hsz3 := hw3'.size
  clear hw3'
  go_wp2_with fail
  refine (check_any (Ls := [sL]) chk1 _ _ (by intro L hL; simp at hL; subst hL; exact fit_sL) (sh_one HS)).mono ?_
  rintro e w4 ⟨rfl, hw4⟩
  have hw4' : Below w3.heap.size w3 w4 := ((Below.refl _ _).alloc (Nat.le_refl _) _).trans (hw4.mono (by simp))
  have HB4 : Hid (Below w.heap.size w w4) := HB.out.trans (hw4'.mono (by omega))
  clear hw4 hw4'
  go_wp2_with fail
  go_ret
  exact ⟨rfl, HB4.out⟩

end Go.Proofs.Ytboajgkfienboaa

/- The walk of besomlaw1's alive. -/
import Derived.Test.YthnnbhpaejemnaaDoorSvG
import Derived.WalkSmall
namespace Go.Proofs.YthnnbhpaejemnaaDoor
open Go.RowKit

theorem Tab.size {w : World} (h : Tab w) : 0 < w.heap.size := by
  have h0 := h 0 (by decide)
  cases hb : w.heap[0]? with
  | none => simp [World.cell?, hb] at h0
  | some o =>
    obtain ⟨hlt, _⟩ := Array.getElem?_eq_some_iff.1 hb
    exact hlt
theorem Tab.below {B : Nat} {w w' : World} (h : Tab w) (hb : Below B w w') (hB : 0 < B) : Tab w' := fun j hj => (hb.cell (p := ⟨0, j, none⟩) hB).trans (h j hj)

theorem SvAt.alloc {w : World} {b bw n : Nat} {S : Nat → Bool} (h : SvAt w b bw n S) (o : Obj) : SvAt (w.alloc o) b bw n S := ⟨h.hd.alloc o, h.ws.alloc o, h.le, h.out⟩
theorem SvAt.blt {w : World} {b bw n : Nat} {S : Nat → Bool} (h : SvAt w b bw n S) : b < w.heap.size := h.hd.lt
theorem SvAt.bwlt {w : World} {b bw n : Nat} {S : Nat → Bool} (h : SvAt w b bw n S) : bw < w.heap.size := h.ws.lt

set_option maxHeartbeats 400000 in
theorem alive_any (w : World) (hT : Tab w) :
    Calls Tryd.prog 7 #[] w fun e w' => e = .returned (.bool true) ∧ Below w.heap.size w w' := by
  go_enter Tryd.func7, Tryd.ntmps7
  go_wp2_with fail
  refine (new_any 70 _).mono ?_
  rintro e w1 ⟨b, bw, hb, hbw, rfl, hs, hB⟩
  go_wp2_with fail
  have hs1 := hs.alloc (.cells #[.int .i64 3, .int .i64 66, .int .i64 3, .int .i64 70] 3)
  have hp := put_core [3, 66, 3, 70] (w1.alloc (.cells #[.int .i64 3, .int .i64 66, .int .i64 3, .int .i64 70] 3)) (bl := w1.heap.size) (off := 0) (c := 4) hs1 (by have := hs.bwlt; omega) (by simp) (by decide)
    (fun j hj => by
      have : j = 0 ∨ j = 1 ∨ j = 2 ∨ j = 3 := by simp at hj; omega
      rcases this with rfl | rfl | rfl | rfl <;> simp)
  refine hp.mono ?_
  rintro e w2 ⟨rfl, hs2, hB2⟩
  have hBb : Below w.heap.size w w2 := (hB.alloc hB.size _).trans (hB2.below hbw (Nat.le_trans hB.size (by simp)))
  have hT2 : Tab w2 := hT.below hBb hT.size
  rw [show putC (svN 70) (fun _ => false) [3, 66, 3, 70] = 2 from by decide +kernel]
  rw [show svN 70 = 70 from by decide +kernel] at hs2
  have F1 : Hid (nx (putS 70 (fun _ => false) [3, 66, 3, 70]) 70 4 = 66) := by unfold Hid; decide +kernel
  have F2 : Hid (wordF (putS 70 (fun _ => false) [3, 66, 3, 70]) 1 = 4) := by unfold Hid; decide +kernel
  have F3 : Hid (hasB 70 (putS 70 (fun _ => false) [3, 66, 3, 70]) 3 = true) := by unfold Hid; decide +kernel
  have F4 : Hid (cnt (putS 70 (fun _ => false) [3, 66, 3, 70]) 70 = 2) := by unfold Hid; decide +kernel
  generalize putS 70 (fun _ => false) [3, 66, 3, 70] = S at *
  have HB : Hid (Below w.heap.size w w2) := hBb
  clear hp hs1 hs hB hB2 hb hbw hT hBb
  go_wp2_with fail
  refine (next_any 4 _ (by decide) hs2 hT2).mono ?_
  rintro e w3 ⟨rfl, q, rfl⟩
  rw [F1.out]
  go_wp2_with fail
  refine (word_any 1 _ (hs2.drewN q)).mono ?_
  rintro e w3 ⟨rfl, rfl⟩
  rw [F2.out]
  go_wp2_with fail
  refine (has_is 3 true _ (hs2.drewN q) F3.out).mono ?_
  rintro e w3 ⟨rfl, q2, rfl⟩
  go_wp2_with fail
  refine (count_any _ (hs2.drewN (q + q2))).mono ?_
  rintro e w3 ⟨rfl, rfl⟩
  rw [F4.out]
  go_wp2_with fail
  go_ret
  exact ⟨rfl, below_drewN HB.out _⟩

end Go.Proofs.YthnnbhpaejemnaaDoor

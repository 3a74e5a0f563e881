/- The walks of besombook's LentInstrs, StaysInstrs. -/
import Derived.Test.YtglalihheppgpaaKiA
namespace Go.Proofs.Ytglalihheppgpaa
open Go.RowKit

def mark77 : Ins := ⟨-77, 0, 0, 0⟩

set_option maxRecDepth 100000 in
set_option maxHeartbeats 400000 in
theorem lent_anyI (L : List Ins) (a : Option Addr) (c : Nat) (w : World) (hlen : L.length ≤ 1000) (h : SrcI w (.slice a L.length c) L) :
    Calls Try.prog 20 #[.slice a L.length c] w fun e w' => ∃ g cap, e = .returned (.slice (some ⟨g, 0, none⟩) L.length cap) ∧
      w'.ownsRow w.heap.size 23 4 (.slice (some ⟨g, 0, none⟩) (L.length + 1) cap) (L.length + 1) ((L ++ [mark77]).flatMap Ins.cs) ∧ Below w.heap.size w w' := by
  obtain ⟨i0, hi, hz0, hz1, hz2⟩ := info_parts Try.info23
  go_enter Try.func20, Try.ntmps20
  go_wp2_with fail
  refine (copy_anyI L _ _ (by omega) h).mono ?_
  rintro e w1 ⟨v1, rfl, hown, hB⟩
  clear h
  have HH : Hid ((∀ j u, mark77.cs[j]? = some u → (w1.alloc (.cells #[.int .i64 (-77), .int .i64 0, .int .i64 0, .int .i64 0] 23)).cell? ((⟨w1.heap.size, 0, none⟩ : Addr).add j) = some u) ∧ (∀ u ∈ mark77.cs, u.oneCell' = true) ∧ L.length + 1 ≤ maxLen ∧ (L.length + 1) * 32 ≤ 140737488355328 ∧ w.heap.size ≤ (w1.alloc (.cells #[.int .i64 (-77), .int .i64 0, .int .i64 0, .int .i64 0] 23)).heap.size) := by
    refine ⟨fun j u hu => ?_, fun u hu => ?_, by unfold maxLen; omega, by omega, by have := hB.size; simp; omega⟩
    · rw [Go.WideShapes.add_plain, Nat.zero_add]
      exact cell_new w1 _ _ (by rw [← hu]; simp [mark77, Ins.cs])
    · simp [mark77, Ins.cs] at hu
      rcases hu with rfl | rfl <;> rfl
  go_wp2_with (at_builtin; refine wpList_append_keepG _ rfl _ _ 43 rfl w.heap.size 23 i0 (.agg #[.int .i64 0, .int .i64 0, .int .i64 0, .int .i64 0]) 4 32 Try.underlying43 hi hz0 hz1 hz2 rfl (by decide) _ _ _ rfl (hown.alloc _) ⟨w1.heap.size, 0, none⟩ 1 1 mark77.cs rfl rfl HH.out.1 HH.out.2.1 (by decide) HH.out.2.2.1 HH.out.2.2.2.1 HH.out.2.2.2.2 ?_)
  · intro g cap w2 hown2 _ hgrow _
    have hBa : Below w.heap.size w (w1.alloc (.cells #[.int .i64 (-77), .int .i64 0, .int .i64 0, .int .i64 0] 23)) := hB.alloc hB.size _
    have hB2 : Below w.heap.size w w2 := hBa.grown hgrow hBa.size (fun k hk => (hown.lt k hk).1)
    obtain ⟨hc1, hc2, _⟩ := own_capG hown2
    unfold maxLen at hc2
    have HO : Hid (w2.ownsRow w.heap.size 23 4 (.slice (some ⟨g, 0, none⟩) (L.length + 1) cap) (L.length + 1) ((L ++ [mark77]).flatMap Ins.cs)) := by
      unfold Hid
      rw [List.flatMap_append]
      simpa using hown2
    clear hown2 hgrow hown hB hBa HH
    go_wp2_with fail
    go_ret
    exact ⟨g, cap, rfl, by simpa using HO.out, hB2⟩

set_option maxRecDepth 100000 in
set_option maxHeartbeats 400000 in
theorem stays_anyI (L : List Ins) (v : Value) (g cap base : Nat) (w : World) (hlen : L.length ≤ 1000) (h1 : w.ownsRow base 23 4 (.slice (some ⟨g, 0, none⟩) (L.length + 1) cap) (L.length + 1) ((L ++ [mark77]).flatMap Ins.cs)) (h2 : SrcI w v L) :
    Calls Try.prog 27 #[.slice (some ⟨g, 0, none⟩) L.length cap, v] w fun e w' => e = .returned (.bool true) ∧ ∃ q, w' = w.drewN q := by
  obtain ⟨hc1, hc2, _⟩ := own_capG h1
  unfold maxLen at hc2
  have hcell : w.cell? ⟨g, L.length * 4, none⟩ = some (.int .i64 (-77)) := by
    have := h1.cellAt (g := g) (cap := cap) (L.length * 4) (by omega)
    rw [this]
    have h4 := flI_at (L ++ [mark77]) L.length mark77 (by simp) 0 (by decide)
    exact h4
  rw [List.flatMap_append] at h1
  have hp := own_prefixG (n := L.length) (m := 1) h1 (flI_len L)
  have hs : SrcI w (.slice (some ⟨g, 0, none⟩) L.length cap) L := srcI_of_own hp
  clear h1 hp
  go_enter Try.func27, Try.ntmps27
  go_wp2_with fail
  refine (same_anyI L _ _ _ (by unfold maxLen; omega) hs h2).mono ?_
  rintro e w1 ⟨rfl, q, rfl⟩
  clear hs h2
  go_wp2_with fail
  go_ret
  exact ⟨rfl, q, rfl⟩

end Go.Proofs.Ytglalihheppgpaa

/- The walks of besombook's SameInts, copyInts, LentInts, StaysInts, markInts. -/
import Derived.Test.YtkgicalkcbagaaaLsA
namespace Go.Proofs.Ytkgicalkcbagaaa
open Go.RowKit

theorem ints_one (L : List Int) : ∀ u ∈ L.map (Value.int .i64), u.oneCell' = true := by
  intro u hu
  obtain ⟨x, _, rfl⟩ := List.mem_map.1 hu
  rfl
theorem ints_cells {w : World} {b off : Nat} {L : List Int} (h : ∀ j, j < L.length → w.cell? ⟨b, off + j, none⟩ = some (.int .i64 (L.getD j 0))) :
    ∀ j u, (L.map (Value.int .i64))[j]? = some u → w.cell? ((⟨b, off, none⟩ : Addr).add j) = some u := by
  intro j u hj
  rw [Go.WideShapes.add_plain]
  obtain ⟨hlt, he⟩ := List.getElem?_eq_some_iff.1 hj
  have hlt' : j < L.length := by simpa using hlt
  rw [h j hlt', ← he]
  simp [hlt']

end Go.Proofs.Ytkgicalkcbagaaa

/- An argument that is a slice of ints, opened. -/
import Derived.Test.YthnnbhpaejemnaaDoorSvJ
import Derived.Test.YthnnbhpaejemnaaDoorSvK
namespace Go.Proofs.YthnnbhpaejemnaaDoor
open Go.ChangeShapes Go.WideShapes Go.ChangeAt Go.RowKit

theorem Tryd.cells3 : Tryd.prog.cellsOf 3 = 1 := by kernel_rfl

theorem cell_lt {w : World} {a : Addr} {v : Value} (h : w.cell? a = some v) : a.block < w.heap.size ∧ a.spot = none := by
  unfold World.cell? at h
  cases hb : w.heap[a.block]? with
  | none => simp [hb] at h
  | some o =>
    obtain ⟨hlt, _⟩ := Array.getElem?_eq_some_iff.1 hb
    refine ⟨hlt, ?_⟩
    rw [hb] at h
    cases o <;> simp at h
    exact h.1

theorem ints_arg {H : Type} {enc : TypeId × Value → H} {W : World} {base : Nat} {v : Value} {d : DataW H} {p : List MemPlace} (h : DataW.Trod enc Tryd.prog W 0 (fun _ => true) true 35 v d p)
    (hv : Value.okWide Tryd.prog W .any base 35 v) : ∃ (L : List Int) (a : Option Addr) (c : Nat), v = .slice a L.length c ∧ L.length ≤ maxLen ∧ IntsIn W W.heap.size (.slice a L.length c) L := by
  obtain ⟨a0, len, cap, rfl⟩ := okWide_slice Tryd.underlying35 hv
  obtain ⟨fuel, hf⟩ := h
  rcases open_ints Tryd.underlying35 Tryd.underlying3 Tryd.cells3 hf with ⟨hcs, _⟩ | ⟨a, len', cap', zs, hcs, _, hl, hm, hz, _, hcell, _⟩
  · simp only [Value.cells] at hcs
    simp at hcs
    obtain ⟨rfl, rfl, rfl⟩ := hcs
    exact ⟨[], none, 0, rfl, Nat.zero_le _, Or.inl ⟨rfl, _, _, rfl⟩⟩
  · simp only [Value.cells] at hcs
    simp at hcs
    obtain ⟨rfl, rfl, rfl⟩ := hcs
    simp at hz
    have hlen : (zs.take len).length = len := by rw [List.length_take]; omega
    refine ⟨zs.take len, some a, cap, by rw [hlen], by rw [hlen]; omega, ?_⟩
    rw [hlen]
    by_cases h0 : len = 0
    · subst h0
      exact Or.inl ⟨by simp, _, _, rfl⟩
    · have hc0 := cell_lt (hcell 0 (by omega))
      obtain ⟨ab, ao, sp⟩ := a
      have hsp : sp = none := hc0.2
      subst hsp
      refine Or.inr ⟨ab, ao, cap, by rw [hlen], hc0.1, Nat.le_refl _, fun j hj => ?_⟩
      rw [hlen] at hj
      have := hcell j (by omega)
      rw [← Go.WideShapes.add_plain, this]
      simp [List.getD, hj]

end Go.Proofs.YthnnbhpaejemnaaDoor

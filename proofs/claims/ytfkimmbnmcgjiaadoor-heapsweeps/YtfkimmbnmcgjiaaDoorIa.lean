/- An argument that is a slice of ints, opened. -/
import Derived.Test.YtfkimmbnmcgjiaaDoorSvJ
import Derived.Test.YtfkimmbnmcgjiaaDoorLsA
namespace Go.Proofs.YtfkimmbnmcgjiaaDoor
open Go.ChangeShapes Go.WideShapes Go.ChangeAt Go.RowKit

theorem Tryd.cells3 : Tryd.prog.cellsOf 3 = 1 := by kernel_rfl

set_option maxRecDepth 100000 in
theorem ints_of {H : Type} {enc : TypeId × Value → H} {W : World} {n : Nat} {cs : List Value} {y : DataW H × List MemPlace} (h : DataW.trod enc Tryd.prog W 0 (fun _ => true) true n 22 cs = some y) :
    ∃ (L : List Int) (v : Value), cs = [v] ∧ L.length ≤ maxLen ∧ SrcAt W v L := by
  rcases open_ints Tryd.underlying22 Tryd.underlying3 Tryd.cells3 h with ⟨rfl, _⟩ | ⟨a, len', cap', zs, rfl, _, hl, hm, hz, _, hcell, _⟩
  · exact ⟨[], _, rfl, Nat.zero_le _, Or.inl ⟨rfl, Or.inl rfl⟩⟩
  · simp at hz
    have hlen : (zs.take len').length = len' := by rw [List.length_take]; omega
    refine ⟨zs.take len', _, rfl, by rw [hlen]; omega, ?_⟩
    by_cases h0 : len' = 0
    · subst h0
      exact Or.inl ⟨by simp, Or.inr ⟨a, cap', rfl⟩⟩
    · have hc0 := cell_lt (hcell 0 (by omega))
      obtain ⟨ab, ao, sp⟩ := a
      have hsp : sp = none := hc0.2
      subst hsp
      refine Or.inr ⟨ab, ao, cap', by rw [hlen], hc0.1, fun j hj => ?_⟩
      rw [hlen] at hj
      have := hcell j (by omega)
      rw [← Go.WideShapes.add_plain, this]
      simp [List.getD, hj]

set_option maxRecDepth 100000 in
theorem ints_arg {H : Type} {enc : TypeId × Value → H} {W : World} {base : Nat} {v : Value} {d : DataW H} {p : List MemPlace} (h : DataW.Trod enc Tryd.prog W 0 (fun _ => true) true 22 v d p)
    (hv : Value.okWide Tryd.prog W .any base 22 v) : ∃ (L : List Int) (a : Option Addr) (c : Nat), v = .slice a L.length c ∧ L.length ≤ maxLen ∧ SrcAt W (.slice a L.length c) L := by
  obtain ⟨a0, len, cap, rfl⟩ := okWide_slice Tryd.underlying22 hv
  obtain ⟨fuel, hf⟩ := h
  obtain ⟨L, v, hcs, hm, hs⟩ := ints_of hf
  simp only [Value.cells] at hcs
  simp at hcs
  subst hcs
  obtain ⟨a, c, e⟩ := hs.len
  rw [e] at hs
  exact ⟨L, a, c, e, hm, hs⟩

end Go.Proofs.YtfkimmbnmcgjiaaDoor

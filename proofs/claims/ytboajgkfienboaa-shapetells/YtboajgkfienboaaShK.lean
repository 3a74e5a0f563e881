/- Arguments that are slices of ints, and slices of shapes, opened. -/
import Derived.Test.YtboajgkfienboaaShE
import Derived.ProofKit
import Derived.OpenShut
import Derived.Deep.Slices
namespace Go.Proofs.Ytboajgkfienboaa
open Go.ChangeShapes Go.WideShapes Go.ChangeAt Go.RowKit Go.Deep

theorem Try.cells3 : Try.prog.cellsOf 3 = 1 := by kernel_rfl
theorem Try.cells26 : Try.prog.cellsOf 26 = 1 := by kernel_rfl
theorem Try.cells23 : Try.prog.cellsOf 23 = 1 := by kernel_rfl
theorem Try.laidOut : laidOutB Try.prog = true := by kernel_rfl
theorem shapeField : ∃ f : Field, Try.prog.underlying 26 = some (.struct #[f]) ∧ f.type = 23 ∧ f.offset = 0 := ⟨_, Try.underlying26, rfl, rfl⟩

theorem ints_cs {H : Type} {enc : TypeId × Value → H} {W : World} {fuel : Nat} {v : Value} {x : DataW H × List MemPlace} (h : DataW.trod enc Try.prog W 0 (fun _ => true) true fuel 23 [v] = some x) :
    ∃ (L : List Int) (a : Option Addr) (c : Nat), v = .slice a L.length c ∧ SrcAt W (.slice a L.length c) L ∧ FitL L := by
  rcases open_ints Try.underlying23 Try.underlying3 Try.cells3 h with ⟨hcs, _⟩ | ⟨a, len, cap, zs, hcs, _, hl, hm, hz, _, hcell, hw⟩
  · simp at hcs
    subst hcs
    exact ⟨[], none, 0, rfl, Or.inl ⟨rfl, Or.inl rfl⟩, fun n hn => by simp at hn⟩
  · simp at hcs
    subst hcs
    simp at hz
    have hlen : (zs.take len).length = len := by rw [List.length_take]; omega
    refine ⟨zs.take len, some a, cap, by rw [hlen], ?_, fun n hn => hw n (List.mem_of_mem_take hn)⟩
    rw [hlen]
    by_cases h0 : len = 0
    · subst h0
      exact Or.inl ⟨by simp, Or.inr ⟨_, _, rfl⟩⟩
    · have hc0 := cell_lt (hcell 0 (by omega))
      obtain ⟨ab, ao, sp⟩ := a
      have hsp : sp = none := hc0.2
      subst hsp
      refine Or.inr ⟨ab, ao, cap, by rw [hlen], hc0.1, fun j hj => ?_⟩
      rw [hlen] at hj
      have := hcell j (by omega)
      rw [← Go.WideShapes.add_plain, this]
      simp [List.getD, hj]

theorem ints_arg {H : Type} {enc : TypeId × Value → H} {W : World} {base : Nat} {v : Value} {d : DataW H} {p : List MemPlace} (h : DataW.Trod enc Try.prog W 0 (fun _ => true) true 23 v d p)
    (hv : Value.okWide Try.prog W .any base 23 v) : ∃ (L : List Int) (a : Option Addr) (c : Nat), v = .slice a L.length c ∧ SrcAt W (.slice a L.length c) L ∧ FitL L := by
  obtain ⟨a0, len, cap, rfl⟩ := okWide_slice Try.underlying23 hv
  obtain ⟨fuel, hf⟩ := h
  exact ints_cs hf

theorem shapes_arg {H : Type} {enc : TypeId × Value → H} {W : World} {base : Nat} {v : Value} {d : DataW H} {p : List MemPlace} (h : DataW.Trod enc Try.prog W 0 (fun _ => true) true 22 v d p)
    (hv : Value.okWide Try.prog W .any base 22 v) : ∃ Ls : List (List Int), ShV W v Ls ∧ FitA Ls := by
  obtain ⟨a0, len, cap, rfl⟩ := okWide_slice Try.underlying22 hv
  obtain ⟨fuel, hf⟩ := h
  rcases open_slice1 Try.underlying22 Try.cells26 hf with ⟨hcs, _⟩ | ⟨a, len', cap', m, n, V, D, Pl, hcs, _, hl, hm, hmm, _, hx⟩
  · simp only [Value.cells] at hcs
    simp at hcs
    obtain ⟨rfl, rfl, rfl⟩ := hcs
    exact ⟨[], Or.inl ⟨rfl, _, _, rfl⟩, fun L hL => by simp at hL⟩
  · simp only [Value.cells] at hcs
    simp at hcs
    obtain ⟨rfl, rfl, rfl⟩ := hcs
    simp at hmm
    subst hmm
    obtain ⟨f, hu, hft, hfo⟩ := shapeField
    have each : ∀ i, i < len → ∃ L : List Int, ∃ (fa : Option Addr) (fc : Nat), W.cell? (a.add i) = some (.slice fa L.length fc) ∧ SrcAt W (.slice fa L.length fc) L ∧ FitL L := by
      intro i hi
      obtain ⟨h1, h2⟩ := hx i (by omega)
      obtain ⟨y0, n', _, _, h3⟩ := trod_struct1 hu h2
      rw [hft, hfo, Try.cells23] at h3
      obtain ⟨L, fa, fc, e, h4, h5⟩ := ints_cs h3
      exact ⟨L, fa, fc, by rw [h1, e], h4, h5⟩
    obtain ⟨G, hG⟩ := choose_lt (α := List Int) each
    have hlen : ((List.range len).map G).length = len := by simp
    refine ⟨(List.range len).map G, ?_, fun L hL => ?_⟩
    · by_cases h0 : len = 0
      · subst h0
        exact Or.inl ⟨by simp, _, _, rfl⟩
      · obtain ⟨fa, fc, hc0, _⟩ := hG 0 (by omega)
        have hc0 := cell_lt hc0
        obtain ⟨ab, ao, sp⟩ := a
        have hsp : sp = none := hc0.2
        subst hsp
        refine Or.inr ⟨ab, ao, _, by rw [hlen], hc0.1, fun j hj => ?_⟩
        rw [hlen] at hj
        obtain ⟨fa, fc, h1, h2, _⟩ := hG j hj
        have e : ((List.range len).map G).getD j [] = G j := by simp [hj]
        rw [e, ← Go.WideShapes.add_plain]
        exact ⟨fa, fc, h1, h2⟩
    · simp at hL
      obtain ⟨j, hj, rfl⟩ := hL
      obtain ⟨_, _, _, _, h3⟩ := hG j hj
      exact h3

end Go.Proofs.Ytboajgkfienboaa

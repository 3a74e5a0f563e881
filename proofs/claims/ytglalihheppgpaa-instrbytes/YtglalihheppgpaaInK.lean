/- Arguments that are instructions, and lists of them, opened; InstrPrefix of arguments as read. -/
import Derived.Test.YtglalihheppgpaaInJ
import Derived.ProofKit
import Derived.OpenShut
import Derived.ChangeMaps5
import Derived.Deep.Slices
namespace Go.Proofs.Ytglalihheppgpaa
open Go.ChangeShapes Go.WideShapes Go.ChangeAt Go.RowKit

theorem Try.cells3 : Try.prog.cellsOf 3 = 1 := by kernel_rfl
theorem Try.laidOut : laidOutB Try.prog = true := by kernel_rfl
theorem Try.cells23 : Try.prog.cellsOf 23 = 4 := by kernel_rfl

section
variable {H : Type} {enc : TypeId × Value → H} {P : Program} {w : World} {base : Nat} {spare : Nat → Bool} {held : Bool}
theorem trod_struct4 {t : TypeId} {f0 f1 f2 f3 : Field} {fuel : Nat} {cs : List Value} {x : DataW H × List MemPlace} (ht : P.underlying t = some (.struct #[f0, f1, f2, f3])) (h : DataW.trod enc P w base spare held fuel t cs = some x) :
    ∃ y0 y1 y2 y3 n, DataW.trod enc P w base spare held n f0.type ((cs.drop f0.offset).take (P.cellsOf f0.type)) = some y0 ∧ DataW.trod enc P w base spare held n f1.type ((cs.drop f1.offset).take (P.cellsOf f1.type)) = some y1 ∧
      DataW.trod enc P w base spare held n f2.type ((cs.drop f2.offset).take (P.cellsOf f2.type)) = some y2 ∧ DataW.trod enc P w base spare held n f3.type ((cs.drop f3.offset).take (P.cellsOf f3.type)) = some y3 := by
  obtain ⟨xs, n, _, rfl, hl, hlen, hf⟩ := DataW.trod_struct ht h
  match xs, hlen with
  | [y0, y1, y2, y3], _ => exact ⟨y0, y1, y2, y3, n, by simpa using hf 0 f0 rfl, by simpa using hf 1 f1 rfl, by simpa using hf 2 f2 rfl, by simpa using hf 3 f3 rfl⟩
end

set_option maxRecDepth 100000 in
/-- The four cells of an instruction. -/
theorem ins_cells {H : Type} {enc : TypeId × Value → H} {W : World} {n : Nat} {cs : List Value} {y : DataW H × List MemPlace} (h : DataW.trod enc Try.prog W 0 (fun _ => true) true n 23 cs = some y) (hl : cs.length = 4) : ∃ i : Ins, cs = i.cs := by
  obtain ⟨y0, y1, y2, y3, n', g0, g1, g2, g3⟩ := trod_struct4 Try.underlying23 h
  match cs, hl with
  | [c0, c1, c2, c3], _ =>
    have g0' : DataW.trod enc Try.prog W 0 (fun _ => true) true n' 3 [c0] = some y0 := by simpa [Try.cells3] using g0
    have g1' : DataW.trod enc Try.prog W 0 (fun _ => true) true n' 3 [c1] = some y1 := by simpa [Try.cells3] using g1
    have g2' : DataW.trod enc Try.prog W 0 (fun _ => true) true n' 3 [c2] = some y2 := by simpa [Try.cells3] using g2
    have g3' : DataW.trod enc Try.prog W 0 (fun _ => true) true n' 3 [c3] = some y3 := by simpa [Try.cells3] using g3
    obtain ⟨k0, e0, _, _⟩ := DataW.trod_int Try.underlying3 g0'
    obtain ⟨k1, e1, _, _⟩ := DataW.trod_int Try.underlying3 g1'
    obtain ⟨k2, e2, _, _⟩ := DataW.trod_int Try.underlying3 g2'
    obtain ⟨k3, e3, _, _⟩ := DataW.trod_int Try.underlying3 g3'
    simp at e0 e1 e2 e3
    subst e0 e1 e2 e3
    exact ⟨⟨k0, k1, k2, k3⟩, rfl⟩

set_option maxRecDepth 100000 in
theorem instrs_arg {H : Type} {enc : TypeId × Value → H} {W : World} {base : Nat} {v : Value} {d : DataW H} {p : List MemPlace} (h : DataW.Trod enc Try.prog W 0 (fun _ => true) true 43 v d p)
    (hv : Value.okWide Try.prog W .any base 43 v) : ∃ (L : List Ins) (a : Option Addr) (c : Nat), v = .slice a L.length c ∧ L.length ≤ maxLen ∧ SrcI W (.slice a L.length c) L := by
  obtain ⟨a0, len, cap, rfl⟩ := okWide_slice Try.underlying43 hv
  obtain ⟨fuel, hf⟩ := h
  rcases Deep.open_slice Try.underlying43 hf with ⟨hcs, _⟩ | ⟨a, len', cap', m, n, D, Pl, hcs, _, hl, hm, hmm, _, hel⟩
  · simp only [Value.cells] at hcs
    simp at hcs
    obtain ⟨rfl, rfl, rfl⟩ := hcs
    exact ⟨[], none, 0, rfl, Nat.zero_le _, Or.inl ⟨rfl, Or.inl rfl⟩⟩
  · simp only [Value.cells] at hcs
    simp at hcs
    obtain ⟨rfl, rfl, rfl⟩ := hcs
    simp at hmm
    rw [Try.cells23] at hel
    have each : ∀ i, i < len → ∃ o : Ins, W.cell? ((a.add (i * 4)).add 0) = some (.int .i64 o.o) ∧ W.cell? ((a.add (i * 4)).add 1) = some (.int .i64 o.a) ∧ W.cell? ((a.add (i * 4)).add 2) = some (.int .i64 o.b) ∧ W.cell? ((a.add (i * 4)).add 3) = some (.int .i64 o.c) := by
      intro i hi
      obtain ⟨cs', h1, h2⟩ := hel i (by omega)
      obtain ⟨_, hlen', hcell⟩ := World.cells?_some h1
      obtain ⟨k, hk⟩ := ins_cells h2 hlen'
      subst hk
      exact ⟨k, by simpa [Ins.cs] using hcell 0 (by decide), by simpa [Ins.cs] using hcell 1 (by decide), by simpa [Ins.cs] using hcell 2 (by decide), by simpa [Ins.cs] using hcell 3 (by decide)⟩
    haveI : Inhabited Ins := ⟨⟨0, 0, 0, 0⟩⟩
    obtain ⟨f, hf'⟩ := Deep.choose_lt each
    refine ⟨(List.range len).map f, some a, cap, by simp, by simp; omega, ?_⟩
    by_cases h0 : len = 0
    · subst h0
      exact Or.inl ⟨by simp, Or.inr ⟨_, _, by simp; exact ⟨rfl, rfl⟩⟩⟩
    · have hc0 := cell_lt (hf' 0 (by omega)).1
      obtain ⟨ab, ao, sp⟩ := a
      have hsp : sp = none := by simpa [Addr.add] using hc0.2
      subst hsp
      refine Or.inr ⟨ab, ao, cap, by simp, by simpa [Addr.add] using hc0.1, fun j o hj => ?_⟩
      have hjl : j < len := by
        have := (List.getElem?_eq_some_iff.1 hj).1
        simpa using this
      have e : f j = o := by
        simp [hjl] at hj
        exact hj
      subst e
      obtain ⟨k1, k2, k3, k4⟩ := hf' j hjl
      rw [Go.WideShapes.add_plain, Go.WideShapes.add_plain] at k1 k2 k3 k4
      exact ⟨k1, k2, k3, k4⟩

theorem prefix_arg {H : Type} {enc : TypeId × Value → H} {W : World} {base : Nat} {v : Value} {d : DataW H} {p : List MemPlace} (h : DataW.Trod enc Try.prog W 0 (fun _ => true) true 43 v d p)
    (hv : Value.okWide Try.prog W .any base 43 v) (k : Int) :
    Calls Try.prog 5 #[v, .int .i64 k] W fun e w' => e = .returned (.bool true) ∧ Below W.heap.size W w' := by
  obtain ⟨L, a, c, rfl, hl, hs⟩ := instrs_arg h hv
  exact prefix_walk L a c k W hl hs

end Go.Proofs.Ytglalihheppgpaa

/- An argument that is a slice of structs of two ints, opened. -/
import Derived.Test.YtpofggadlaonfaaDoorIa
import Derived.Deep.Slices
namespace Go.Proofs.YtpofggadlaonfaaDoor
open Go.ChangeShapes Go.WideShapes Go.ChangeAt Go.RowKit

theorem Tryd.cells39 : Tryd.prog.cellsOf 39 = 2 := by kernel_rfl

/-- THE VALUE v IS A SLICE OF THE OPS. -/
def OpsAt (w : World) (v : Value) (ops : List (Int × Int)) : Prop :=
  (ops = [] ∧ ∃ a c, v = .slice a 0 c) ∨ ∃ b off c, v = .slice (some ⟨b, off, none⟩) ops.length c ∧ b < w.heap.size ∧
    ∀ (j : Nat) (o : Int × Int), ops[j]? = some o → w.cell? ⟨b, off + j * 2, none⟩ = some (.int .i64 o.1) ∧ w.cell? ⟨b, off + j * 2 + 1, none⟩ = some (.int .i64 o.2)

theorem ops_arg {H : Type} {enc : TypeId × Value → H} {W : World} {base : Nat} {v : Value} {d : DataW H} {p : List MemPlace} (h : DataW.Trod enc Tryd.prog W 0 (fun _ => true) true 22 v d p)
    (hv : Value.okWide Tryd.prog W .any base 22 v) : ∃ (ops : List (Int × Int)) (a : Option Addr) (c : Nat), v = .slice a ops.length c ∧ ops.length ≤ maxLen ∧ OpsAt W (.slice a ops.length c) ops := by
  obtain ⟨a0, len, cap, rfl⟩ := okWide_slice Tryd.underlying22 hv
  obtain ⟨fuel, hf⟩ := h
  rcases Deep.open_slice Tryd.underlying22 hf with ⟨hcs, _⟩ | ⟨a, len', cap', m, n, D, Pl, hcs, _, hl, hm, hmm, _, hel⟩
  · simp only [Value.cells] at hcs
    simp at hcs
    obtain ⟨rfl, rfl, rfl⟩ := hcs
    exact ⟨[], none, 0, rfl, Nat.zero_le _, Or.inl ⟨rfl, _, _, rfl⟩⟩
  · simp only [Value.cells] at hcs
    simp at hcs
    obtain ⟨rfl, rfl, rfl⟩ := hcs
    simp at hmm
    rw [Tryd.cells39] at hel
    have each : ∀ i, i < len → ∃ o : Int × Int, W.cell? ((a.add (i * 2)).add 0) = some (.int .i64 o.1) ∧ W.cell? ((a.add (i * 2)).add 1) = some (.int .i64 o.2) := by
      intro i hi
      obtain ⟨cs', h1, h2⟩ := hel i (by omega)
      obtain ⟨_, hlen', hcell⟩ := World.cells?_some h1
      obtain ⟨y0, y1, n', _, _, g0, g1⟩ := trod_struct2 Tryd.underlying39 h2
      match cs', hlen' with
      | [c0, c1], _ =>
        have g0' : DataW.trod enc Tryd.prog W 0 (fun _ => true) true n' 3 [c0] = some y0 := by simpa [Tryd.cells3] using g0
        have g1' : DataW.trod enc Tryd.prog W 0 (fun _ => true) true n' 3 [c1] = some y1 := by simpa [Tryd.cells3] using g1
        obtain ⟨kd, e0, _, _⟩ := DataW.trod_int Tryd.underlying3 g0'
        obtain ⟨k, e1, _, _⟩ := DataW.trod_int Tryd.underlying3 g1'
        simp at e0 e1
        subst e0 e1
        exact ⟨(kd, k), by simpa using hcell 0 (by decide), by simpa using hcell 1 (by decide)⟩
    obtain ⟨f, hf'⟩ := Deep.choose_lt each
    refine ⟨(List.range len).map f, some a, cap, by simp, by simp; omega, ?_⟩
    by_cases h0 : len = 0
    · subst h0
      exact Or.inl ⟨by simp, some a, cap, by simp⟩
    · have hc0 := cell_lt (hf' 0 (by omega)).1
      obtain ⟨ab, ao, sp⟩ := a
      have hsp : sp = none := by simpa [Addr.add] using hc0.2
      subst hsp
      refine Or.inr ⟨ab, ao, cap, by simp, by simpa [Addr.add] using hc0.1, fun j o hj => ?_⟩
      have hjl : j < len := by
        have := (List.getElem?_eq_some_iff.1 hj).1
        simpa using this
      have e : f j = o := by
        simp [hjl] at hj
        exact hj
      subst e
      obtain ⟨k1, k2⟩ := hf' j hjl
      rw [Go.WideShapes.add_plain, Go.WideShapes.add_plain] at k1 k2
      exact ⟨k1, k2⟩

end Go.Proofs.YtpofggadlaonfaaDoor

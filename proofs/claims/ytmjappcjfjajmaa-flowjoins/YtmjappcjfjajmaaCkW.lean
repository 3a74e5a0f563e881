/- Arguments that are programs, opened; and that their numbers fit. -/
import Derived.Test.YtmjappcjfjajmaaCkU
import Derived.Test.YtmjappcjfjajmaaShE
import Derived.ProofKit
import Derived.OpenShut
import Derived.ChangeMaps5
import Derived.Deep.Slices
import Derived.ChangeSlices
import Derived.ChangeSame
namespace Go.Proofs.Ytmjappcjfjajmaa
open Go.ChangeShapes Go.WideShapes Go.ChangeAt Go.RowKit

theorem Try.cells3 : Try.prog.cellsOf 3 = 1 := by kernel_rfl
theorem Try.laidOut : laidOutB Try.prog = true := by kernel_rfl
theorem Try.cells47 : Try.prog.cellsOf 47 = 4 := by kernel_rfl
theorem Try.cells58 : Try.prog.cellsOf 58 = 1 := by kernel_rfl
theorem Try.cells41 : Try.prog.cellsOf 41 = 5 := by kernel_rfl
theorem Try.cells26 : Try.prog.cellsOf 26 = 3 := by kernel_rfl
theorem Try.cells22 : Try.prog.cellsOf 22 = 1 := by kernel_rfl
theorem Try.cells39 : Try.prog.cellsOf 39 = 1 := by kernel_rfl
theorem Try.cells23 : Try.prog.cellsOf 23 = 1 := by kernel_rfl
theorem Try.cells24 : Try.prog.cellsOf 24 = 1 := by kernel_rfl
theorem shapeField : ∃ f : Field, Try.prog.underlying 58 = some (.struct #[f]) ∧ f.type = 22 ∧ f.offset = 0 := ⟨_, Try.underlying58, rfl, rfl⟩

section
variable {H : Type} {enc : TypeId × Value → H} {P : Program} {w : World} {base : Nat} {spare : Nat → Bool} {held : Bool}
theorem trod_struct4 {t : TypeId} {f0 f1 f2 f3 : Field} {fuel : Nat} {cs : List Value} {x : DataW H × List MemPlace} (ht : P.underlying t = some (.struct #[f0, f1, f2, f3])) (h : DataW.trod enc P w base spare held fuel t cs = some x) :
    ∃ y0 y1 y2 y3 n, DataW.trod enc P w base spare held n f0.type ((cs.drop f0.offset).take (P.cellsOf f0.type)) = some y0 ∧ DataW.trod enc P w base spare held n f1.type ((cs.drop f1.offset).take (P.cellsOf f1.type)) = some y1 ∧
      DataW.trod enc P w base spare held n f2.type ((cs.drop f2.offset).take (P.cellsOf f2.type)) = some y2 ∧ DataW.trod enc P w base spare held n f3.type ((cs.drop f3.offset).take (P.cellsOf f3.type)) = some y3 := by
  obtain ⟨xs, n, _, rfl, hl, hlen, hf⟩ := DataW.trod_struct ht h
  match xs, hlen with
  | [y0, y1, y2, y3], _ => exact ⟨y0, y1, y2, y3, n, by simpa using hf 0 f0 rfl, by simpa using hf 1 f1 rfl, by simpa using hf 2 f2 rfl, by simpa using hf 3 f3 rfl⟩
theorem trod_struct3 {t : TypeId} {f0 f1 f2 : Field} {fuel : Nat} {cs : List Value} {x : DataW H × List MemPlace} (ht : P.underlying t = some (.struct #[f0, f1, f2])) (h : DataW.trod enc P w base spare held fuel t cs = some x) :
    ∃ y0 y1 y2 n, DataW.trod enc P w base spare held n f0.type ((cs.drop f0.offset).take (P.cellsOf f0.type)) = some y0 ∧ DataW.trod enc P w base spare held n f1.type ((cs.drop f1.offset).take (P.cellsOf f1.type)) = some y1 ∧
      DataW.trod enc P w base spare held n f2.type ((cs.drop f2.offset).take (P.cellsOf f2.type)) = some y2 := by
  obtain ⟨xs, n, _, rfl, hl, hlen, hf⟩ := DataW.trod_struct ht h
  match xs, hlen with
  | [y0, y1, y2], _ => exact ⟨y0, y1, y2, n, by simpa using hf 0 f0 rfl, by simpa using hf 1 f1 rfl, by simpa using hf 2 f2 rfl⟩
theorem trod_struct5 {t : TypeId} {f0 f1 f2 f3 f4 : Field} {fuel : Nat} {cs : List Value} {x : DataW H × List MemPlace} (ht : P.underlying t = some (.struct #[f0, f1, f2, f3, f4])) (h : DataW.trod enc P w base spare held fuel t cs = some x) :
    ∃ y0 y1 y2 y3 y4 n, DataW.trod enc P w base spare held n f0.type ((cs.drop f0.offset).take (P.cellsOf f0.type)) = some y0 ∧ DataW.trod enc P w base spare held n f1.type ((cs.drop f1.offset).take (P.cellsOf f1.type)) = some y1 ∧
      DataW.trod enc P w base spare held n f2.type ((cs.drop f2.offset).take (P.cellsOf f2.type)) = some y2 ∧ DataW.trod enc P w base spare held n f3.type ((cs.drop f3.offset).take (P.cellsOf f3.type)) = some y3 ∧
      DataW.trod enc P w base spare held n f4.type ((cs.drop f4.offset).take (P.cellsOf f4.type)) = some y4 := by
  obtain ⟨xs, n, _, rfl, hl, hlen, hf⟩ := DataW.trod_struct ht h
  match xs, hlen with
  | [y0, y1, y2, y3, y4], _ => exact ⟨y0, y1, y2, y3, y4, n, by simpa using hf 0 f0 rfl, by simpa using hf 1 f1 rfl, by simpa using hf 2 f2 rfl, by simpa using hf 3 f3 rfl, by simpa using hf 4 f4 rfl⟩
end

theorem ints_cs {H : Type} {enc : TypeId × Value → H} {W : World} {fuel : Nat} {v : Value} {x : DataW H × List MemPlace} (h : DataW.trod enc Try.prog W 0 (fun _ => true) true fuel 22 [v] = some x) :
    ∃ L : List Int, SrcP Any W v L ∧ L.length ≤ maxLen ∧ FitL L := by
  rcases open_ints Try.underlying22 Try.underlying3 Try.cells3 h with ⟨hcs, _⟩ | ⟨a, len, cap, zs, hcs, _, hl, hm, hz, _, hcell, hw⟩
  · simp at hcs
    subst hcs
    exact ⟨[], srcP_nil _ _, Nat.zero_le _, fun n hn => by simp at hn⟩
  · simp at hcs
    subst hcs
    simp at hz
    have hlen : (zs.take len).length = len := by rw [List.length_take]; omega
    refine ⟨zs.take len, SrcAt.p ?_, by rw [hlen]; omega, fun n hn => hw n (List.mem_of_mem_take hn)⟩
    by_cases h0 : len = 0
    · subst h0
      exact Or.inl ⟨by simp, Or.inr ⟨_, _, rfl⟩⟩
    · have hc0 := cell_lt (hcell 0 (by omega))
      obtain ⟨ab, ao, sp⟩ := a
      have hsp : sp = none := hc0.2
      subst hsp
      refine Or.inr ⟨ab, ao, cap, by rw [hlen], hc0.1, fun j hj => ?_⟩
      rw [hlen] at hj
      have := hcell j (by omega)
      rw [← Go.WideShapes.add_plain, this]
      simp [List.getD, hj]

set_option maxRecDepth 100000 in
theorem ins_cells {H : Type} {enc : TypeId × Value → H} {W : World} {n : Nat} {cs : List Value} {y : DataW H × List MemPlace} (h : DataW.trod enc Try.prog W 0 (fun _ => true) true n 47 cs = some y) (hl : cs.length = 4) : ∃ i : Ins, cs = i.cs := by
  obtain ⟨y0, y1, y2, y3, n', g0, g1, g2, g3⟩ := trod_struct4 Try.underlying47 h
  match cs, hl with
  | [c0, c1, c2, c3], _ =>
    have g0' : DataW.trod enc Try.prog W 0 (fun _ => true) true n' 3 [c0] = some y0 := by simpa [Try.cells3] using g0
    have g1' : DataW.trod enc Try.prog W 0 (fun _ => true) true n' 3 [c1] = some y1 := by simpa [Try.cells3] using g1
    have g2' : DataW.trod enc Try.prog W 0 (fun _ => true) true n' 3 [c2] = some y2 := by simpa [Try.cells3] using g2
    have g3' : DataW.trod enc Try.prog W 0 (fun _ => true) true n' 3 [c3] = some y3 := by simpa [Try.cells3] using g3
    obtain ⟨k0, e0, _, _⟩ := DataW.trod_int Try.underlying3 g0'
    obtain ⟨k1, e1, _, _⟩ := DataW.trod_int Try.underlying3 g1'
    obtain ⟨k2, e2, _, _⟩ := DataW.trod_int Try.underlying3 g2'
    obtain ⟨k3, e3, _, _⟩ := DataW.trod_int Try.underlying3 g3'
    simp at e0 e1 e2 e3
    subst e0 e1 e2 e3
    exact ⟨⟨k0, k1, k2, k3⟩, rfl⟩

set_option maxRecDepth 100000 in
theorem instrs_cs {H : Type} {enc : TypeId × Value → H} {W : World} {fuel : Nat} {v : Value} {x : DataW H × List MemPlace} (hf : DataW.trod enc Try.prog W 0 (fun _ => true) true fuel 39 [v] = some x) :
    ∃ L : List Ins, SrcJ Any W v L ∧ L.length ≤ maxLen := by
  rcases Deep.open_slice Try.underlying39 hf with ⟨hcs, _⟩ | ⟨a, len', cap', m, n, D, Pl, hcs, _, hl, hm, hmm, _, hel⟩
  · simp at hcs
    subst hcs
    exact ⟨[], srcJ_nil _ _, Nat.zero_le _⟩
  · simp at hcs
    subst hcs
    simp at hmm
    rw [Try.cells47] at hel
    have each : ∀ i, i < len' → ∃ o : Ins, W.cell? ((a.add (i * 4)).add 0) = some (.int .i64 o.o) ∧ W.cell? ((a.add (i * 4)).add 1) = some (.int .i64 o.a) ∧ W.cell? ((a.add (i * 4)).add 2) = some (.int .i64 o.b) ∧ W.cell? ((a.add (i * 4)).add 3) = some (.int .i64 o.c) := by
      intro i hi
      obtain ⟨cs', h1, h2⟩ := hel i (by omega)
      obtain ⟨_, hlen', hcell⟩ := World.cells?_some h1
      obtain ⟨k, hk⟩ := ins_cells h2 hlen'
      subst hk
      exact ⟨k, by simpa [Ins.cs] using hcell 0 (by decide), by simpa [Ins.cs] using hcell 1 (by decide), by simpa [Ins.cs] using hcell 2 (by decide), by simpa [Ins.cs] using hcell 3 (by decide)⟩
    haveI : Inhabited Ins := ⟨⟨0, 0, 0, 0⟩⟩
    obtain ⟨f, hf'⟩ := Deep.choose_lt each
    refine ⟨(List.range len').map f, SrcI.p ?_, by simp; omega⟩
    by_cases h0 : len' = 0
    · subst h0
      exact Or.inl ⟨by simp, Or.inr ⟨_, _, rfl⟩⟩
    · have hc0 := cell_lt (hf' 0 (by omega)).1
      obtain ⟨ab, ao, sp⟩ := a
      have hsp : sp = none := by simpa [Addr.add] using hc0.2
      subst hsp
      refine Or.inr ⟨ab, ao, cap', by simp, by simpa [Addr.add] using hc0.1, fun j o hj => ?_⟩
      have hjl : j < len' := by
        have := (List.getElem?_eq_some_iff.1 hj).1
        simpa using this
      have e : f j = o := by
        simp [hjl] at hj
        exact hj
      subst e
      obtain ⟨k1, k2, k3, k4⟩ := hf' j hjl
      rw [Go.WideShapes.add_plain, Go.WideShapes.add_plain] at k1 k2 k3 k4
      exact ⟨k1, k2, k3, k4⟩

/-- The values of a function's cells. -/
structure FnU (W : World) (q : FnV) : Prop where
  c : FnC Any W q.f q.v0 (.int .i64 q.f.res) (.int .i64 q.f.slots) q.v3 q.v4
  l : q.f.args.length ≤ maxLen ∧ q.f.objs.length ≤ maxLen ∧ q.f.code.length ≤ maxLen
  s : (Lit.int .i64 q.f.slots).wf = true
set_option maxRecDepth 100000 in
theorem fn_cells {H : Type} {enc : TypeId × Value → H} {W : World} {n : Nat} {cs : List Value} {y : DataW H × List MemPlace} (h : DataW.trod enc Try.prog W 0 (fun _ => true) true n 41 cs = some y) (hl : cs.length = 5) : ∃ q : FnV, cs = q.cs ∧ FnU W q := by
  obtain ⟨y0, y1, y2, y3, y4, n', g0, g1, g2, g3, g4⟩ := trod_struct5 Try.underlying41 h
  match cs, hl with
  | [c0, c1, c2, c3, c4], _ =>
    have g0' : DataW.trod enc Try.prog W 0 (fun _ => true) true n' 22 [c0] = some y0 := by simpa [Try.cells22] using g0
    have g1' : DataW.trod enc Try.prog W 0 (fun _ => true) true n' 3 [c1] = some y1 := by simpa [Try.cells3] using g1
    have g2' : DataW.trod enc Try.prog W 0 (fun _ => true) true n' 3 [c2] = some y2 := by simpa [Try.cells3] using g2
    have g3' : DataW.trod enc Try.prog W 0 (fun _ => true) true n' 22 [c3] = some y3 := by simpa [Try.cells22] using g3
    have g4' : DataW.trod enc Try.prog W 0 (fun _ => true) true n' 39 [c4] = some y4 := by simpa [Try.cells39] using g4
    obtain ⟨k1, e1, _, _⟩ := DataW.trod_int Try.underlying3 g1'
    obtain ⟨k2, e2, _, q2⟩ := DataW.trod_int Try.underlying3 g2'
    simp at e1 e2
    subst e1 e2
    obtain ⟨L0, s0, l0, _⟩ := ints_cs g0'
    obtain ⟨L3, s3, l3, _⟩ := ints_cs g3'
    obtain ⟨L4, s4, l4⟩ := instrs_cs g4'
    exact ⟨⟨⟨L0, k1, k2, L3, L4⟩, c0, c3, c4⟩, rfl, ⟨s0, rfl, rfl, s3, s4⟩, ⟨l0, l3, l4⟩, q2⟩

set_option maxRecDepth 100000 in
theorem funcs_cs {H : Type} {enc : TypeId × Value → H} {W : World} {fuel : Nat} {v : Value} {x : DataW H × List MemPlace} (hf : DataW.trod enc Try.prog W 0 (fun _ => true) true fuel 24 [v] = some x) :
    ∃ L : List Fn, FsV Any W v L ∧ L.length ≤ maxLen ∧ (∀ f ∈ L, f.args.length ≤ maxLen ∧ f.objs.length ≤ maxLen ∧ f.code.length ≤ maxLen) ∧ ∀ f ∈ L, (Lit.int .i64 f.slots).wf = true := by
  rcases Deep.open_slice Try.underlying24 hf with ⟨hcs, _⟩ | ⟨a, len', cap', m, n, D, Pl, hcs, _, hl, hm, hmm, _, hel⟩
  · simp at hcs
    subst hcs
    exact ⟨[], Or.inl ⟨rfl, _, _, rfl⟩, Nat.zero_le _, fun f hf => by simp at hf, fun f hf => by simp at hf⟩
  · simp at hcs
    subst hcs
    simp at hmm
    rw [Try.cells41] at hel
    have each : ∀ i, i < len' → ∃ q : FnV, (∀ k u, k < 5 → q.cs[k]? = some u → W.cell? ((a.add (i * 5)).add k) = some u) ∧ FnU W q := by
      intro i hi
      obtain ⟨cs', h1, h2⟩ := hel i (by omega)
      obtain ⟨_, hlen', hcell⟩ := World.cells?_some h1
      obtain ⟨q, hk, hq⟩ := fn_cells h2 hlen'
      subst hk
      refine ⟨q, fun k u hk hu => ?_, hq⟩
      rw [hcell k (by omega), hu]
    haveI : Inhabited FnV := ⟨⟨⟨[], 0, 0, [], []⟩, undef, undef, undef⟩⟩
    obtain ⟨f, hf'⟩ := Deep.choose_lt each
    refine ⟨(List.range len').map (fun i => (f i).f), ?_, by simp; omega, fun g hg => ?_, fun g hg => ?_⟩
    · by_cases h0 : len' = 0
      · subst h0
        exact Or.inl ⟨by simp, _, _, rfl⟩
      · have hc0 := cell_lt ((hf' 0 (by omega)).1 0 _ (by omega) rfl)
        obtain ⟨ab, ao, sp⟩ := a
        have hsp : sp = none := by simpa [Addr.add] using hc0.2
        subst hsp
        refine Or.inr ⟨ab, ao, cap', by simp, by simpa [Addr.add] using hc0.1, trivial, fun j o hj => ?_⟩
        have hjl : j < len' := by
          have := (List.getElem?_eq_some_iff.1 hj).1
          simpa using this
        have e : (f j).f = o := by
          simp [hjl] at hj
          exact hj
        subst e
        obtain ⟨k1, k2⟩ := hf' j hjl
        have kk := fun k u (hk : k < 5) (hu : (f j).cs[k]? = some u) => k1 k u hk hu
        simp only [Go.WideShapes.add_plain] at kk
        exact ⟨(f j).v0, _, _, (f j).v3, (f j).v4, kk 0 _ (by omega) rfl, kk 1 _ (by omega) rfl, kk 2 _ (by omega) rfl, kk 3 _ (by omega) rfl, kk 4 _ (by omega) rfl, k2.c⟩
    · simp at hg
      obtain ⟨j, hj, rfl⟩ := hg
      exact (hf' j hj).2.l
    · simp at hg
      obtain ⟨j, hj, rfl⟩ := hg
      exact (hf' j hj).2.s

theorem shapes_cs {H : Type} {enc : TypeId × Value → H} {W : World} {fuel : Nat} {v : Value} {x : DataW H × List MemPlace} (hf : DataW.trod enc Try.prog W 0 (fun _ => true) true fuel 23 [v] = some x) :
    ∃ Ls : List (List Int), SgV Any W v Ls ∧ Ls.length ≤ maxLen ∧ (∀ L ∈ Ls, L.length ≤ maxLen) ∧ ∀ L ∈ Ls, FitL L := by
  rcases Deep.open_slice1 Try.underlying23 Try.cells58 hf with ⟨hcs, _⟩ | ⟨a, len, cap, m, n, V, D, Pl, hcs, _, hl, hm, hmm, _, hx⟩
  · simp at hcs
    subst hcs
    exact ⟨[], Or.inl ⟨rfl, _, _, rfl⟩, Nat.zero_le _, fun f hf => by simp at hf, fun f hf => by simp at hf⟩
  · simp at hcs
    subst hcs
    simp at hmm
    obtain ⟨f, hu, hft, hfo⟩ := shapeField
    have each : ∀ i, i < len → ∃ L : List Int, ∃ v : Value, W.cell? (a.add i) = some v ∧ SrcP Any W v L ∧ L.length ≤ maxLen ∧ FitL L := by
      intro i hi
      obtain ⟨h1, h2⟩ := hx i (by omega)
      obtain ⟨y0, n', _, _, h3⟩ := trod_struct1 hu h2
      rw [hft, hfo, Try.cells22] at h3
      obtain ⟨L, h4, h5⟩ := ints_cs (v := V i) (by simpa using h3)
      exact ⟨L, V i, h1, h4, h5⟩
    obtain ⟨G, hG⟩ := Deep.choose_lt (α := List Int) each
    refine ⟨(List.range len).map G, ?_, by simp; omega, fun L hL => ?_, fun L hL => ?_⟩
    · by_cases h0 : len = 0
      · subst h0
        exact Or.inl ⟨by simp, _, _, rfl⟩
      · obtain ⟨v0, hc0, _⟩ := hG 0 (by omega)
        have hc0 := cell_lt hc0
        obtain ⟨ab, ao, sp⟩ := a
        have hsp : sp = none := hc0.2
        subst hsp
        refine Or.inr ⟨ab, ao, cap, by simp, hc0.1, trivial, fun j L hj => ?_⟩
        have hjl : j < len := by
          have := (List.getElem?_eq_some_iff.1 hj).1
          simpa using this
        have e : G j = L := by
          simp [hjl] at hj
          exact hj
        subst e
        obtain ⟨v, h1, h2, _⟩ := hG j hjl
        rw [Go.WideShapes.add_plain] at h1
        exact ⟨v, h1, h2⟩
    · simp at hL
      obtain ⟨j, hj, rfl⟩ := hL
      obtain ⟨_, _, _, h3, _⟩ := hG j hj
      exact h3
    · simp at hL
      obtain ⟨j, hj, rfl⟩ := hL
      obtain ⟨_, _, _, _, h3⟩ := hG j hj
      exact h3

/-- A program's numbers fit: its fields' kinds, its functions' slots. -/
structure FitP (p : Pg) : Prop where
  sh : FitA p.shapes
  sl : ∀ f ∈ p.funcs, (Lit.int .i64 f.slots).wf = true

set_option maxRecDepth 100000 in
theorem prog_arg {H : Type} {enc : TypeId × Value → H} {W : World} {base : Nat} {v : Value} {d : DataW H} {p : List MemPlace} (h : DataW.Trod enc Try.prog W 0 (fun _ => true) true 26 v d p)
    (hv : Value.okWide Try.prog W .any base 26 v) : ∃ (q : Pg) (ag : Option Addr) (cg : Nat) (az : Option Addr) (cs : Nat) (af : Option Addr) (cf : Nat), v = .agg #[.slice ag q.glob.length cg, .slice az q.shapes.length cs, .slice af q.funcs.length cf] ∧ (Len q ∧ FitP q) ∧ PgV Any W (.slice ag q.glob.length cg) (.slice az q.shapes.length cs) (.slice af q.funcs.length cf) q := by
  unfold Value.okWide at hv
  rw [Try.underlying26] at hv
  obtain ⟨cs, rfl, hsz, _⟩ := hv
  rw [Try.cells26] at hsz
  obtain ⟨fuel, hf⟩ := h
  obtain ⟨y0, y1, y2, n', g0, g1, g2⟩ := trod_struct3 Try.underlying26 hf
  obtain ⟨c0, c1, c2, rfl⟩ : ∃ c0 c1 c2, cs = #[c0, c1, c2] := by
    obtain ⟨l⟩ := cs
    match l, hsz with
    | [c0, c1, c2], _ => exact ⟨c0, c1, c2, rfl⟩
  have g0' : DataW.trod enc Try.prog W 0 (fun _ => true) true n' 22 [c0] = some y0 := by simpa [Try.cells22, Value.cells] using g0
  have g1' : DataW.trod enc Try.prog W 0 (fun _ => true) true n' 23 [c1] = some y1 := by simpa [Try.cells23, Value.cells] using g1
  have g2' : DataW.trod enc Try.prog W 0 (fun _ => true) true n' 24 [c2] = some y2 := by simpa [Try.cells24, Value.cells] using g2
  obtain ⟨L0, s0, l0, _⟩ := ints_cs g0'
  obtain ⟨L1, s1, l1, m1, n1⟩ := shapes_cs g1'
  obtain ⟨L2, s2, l2, m2, n2⟩ := funcs_cs g2'
  have hp : PgV Any W c0 c1 c2 ⟨L0, L1, L2⟩ := ⟨s0, s1, s2⟩
  obtain ⟨ag, cg, az, cs, af, cf, rfl, rfl, rfl⟩ := hp.lens
  exact ⟨⟨L0, L1, L2⟩, ag, cg, az, cs, af, cf, rfl, ⟨⟨l0, l1, l2, m1, m2⟩, n1, n2⟩, hp⟩

end Go.Proofs.Ytmjappcjfjajmaa

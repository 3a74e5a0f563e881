/- The walk of CheckTells. -/
import Derived.Test.YtmacipjdmaaccaaCkS
import Derived.Test.YtmacipjdmaaccaaCkW
import Derived.Test.YtmacipjdmaaccaaQi
import Derived.Laws.StructEq
namespace Go.Proofs.Ytmacipjdmaaccaa
open Go.RowKit

theorem fun_zero {p : Pg} {fn : Int} (h : (funE p fn).1 = 0) : (funE p fn).2 = 0 := by
  unfold funE at h ⊢
  cases hf : fnAt p fn with
  | none => rfl
  | some f =>
    rw [hf] at h
    simp only at h ⊢
    by_cases h0 : headE p f = 0
    · rw [if_pos h0] at h ⊢
      cases hb : badAt (fun k => insAt p fn (k : Int)) f.code.length with
      | none => rfl
      | some k =>
        rw [hb] at h
        simp only at h
        unfold badAt at hb
        have := List.find?_some hb
        simp [h] at this
    · rw [if_neg h0]

set_option maxRecDepth 100000 in
set_option maxHeartbeats 8000000 in
theorem tells_small (p : Pg) (ag az af : Option Addr) (cg cs cf : Nat) (fn pc : Int) (w : World) (hl : Len p) (hs : Hid (decide (szP p ≤ 3000) = false)) (hp : PgV Any w (.slice ag p.glob.length cg) (.slice az p.shapes.length cs) (.slice af p.funcs.length cf) p) :
    Calls Try.prog 3 #[.agg #[.slice ag p.glob.length cg, .slice az p.shapes.length cs, .slice af p.funcs.length cf], .int .i64 fn, .int .i64 pc] w fun e w' => e = .returned (.bool true) ∧ Below w.heap.size w w' := by
  obtain ⟨wp, hwp⟩ : ∃ wp, w.alloc (.cells #[.slice ag p.glob.length cg, .slice az p.shapes.length cs, .slice af p.funcs.length cf] 26) = wp := ⟨_, rfl⟩
  have HQ : Hid (OnR w wp p ag az af cg cs cf) := onR_start hwp hp
  have HL : Hid (Len p) := hl
  obtain ⟨d0, d1, d2⟩ := HQ.out.c
  clear hp hl
  go_enter Try.func3, Try.ntmps3
  go_wp2_with fail
  refine (smallN HL.out ag az af cg cs cf _ hs HQ.out.pp).mono ?_
  rintro e w1 ⟨rfl, hb⟩
  have HB : Hid (Below w.heap.size w w1) := (HQ.out.below hb).low
  clear hb d0 d1 d2 hwp
  go_wp2_with fail
  refine (alive_any _).mono ?_
  rintro e w2 ⟨rfl, hb⟩
  have HB2 : Hid (Below w.heap.size w w2) := HB.out.trans (hb.mono HB.out.size)
  clear hb
  go_wp2_with fail
  go_ret
  exact ⟨rfl, HB2.out⟩

set_option maxRecDepth 100000 in
set_option maxHeartbeats 16000000 in
theorem tells_big (p : Pg) (ag az af : Option Addr) (cg cs cf : Nat) (fn pc : Int) (w : World) (hg : Hid (Gd p)) (hp : PgV Any w (.slice ag p.glob.length cg) (.slice az p.shapes.length cs) (.slice af p.funcs.length cf) p) :
    Calls Try.prog 3 #[.agg #[.slice ag p.glob.length cg, .slice az p.shapes.length cs, .slice af p.funcs.length cf], .int .i64 fn, .int .i64 pc] w fun e w' => e = .returned (.bool true) ∧ Below w.heap.size w w' := by
  obtain ⟨wp, hwp⟩ : ∃ wp, w.alloc (.cells #[.slice ag p.glob.length cg, .slice az p.shapes.length cs, .slice af p.funcs.length cf] 26) = wp := ⟨_, rfl⟩
  have HQ : Hid (OnR w wp p ag az af cg cs cf) := onR_start hwp hp
  have HSm : Hid (decide (szP p ≤ 3000) = true) := decide_eq_true hg.out.sz
  obtain ⟨d0, d1, d2⟩ := HQ.out.c
  clear hp
  go_enter Try.func3, Try.ntmps3
  go_wp2_with fail
  refine (smallN hg.out.len ag az af cg cs cf _ HSm HQ.out.pp).mono ?_
  rintro e w1 ⟨rfl, hb⟩
  have HQ1 : Hid (OnR w w1 p ag az af cg cs cf) := HQ.out.below hb
  clear hb d0 d1 d2 hwp HQ
  go_wp2_with fail
  refine (alive_any _).mono ?_
  rintro e w2 ⟨rfl, hb⟩
  have HQ2 : Hid (OnR w w2 p ag az af cg cs cf) := HQ1.out.below hb
  clear hb HQ1
  obtain ⟨d0, d1, d2⟩ := HQ2.out.c
  go_wp2_with fail
  refine (program_any p ag az af cg cs cf hg _ HQ2.out.pp).mono ?_
  rintro e w3 ⟨he, hb⟩
  obtain ⟨P0, hP0⟩ : ∃ P0, (progE p).1 = P0 := ⟨_, rfl⟩
  obtain ⟨P1, hP1⟩ : ∃ P1, (progE p).2.1 = P1 := ⟨_, rfl⟩
  obtain ⟨P2, hP2⟩ : ∃ P2, (progE p).2.2 = P2 := ⟨_, rfl⟩
  have HPr : Hid ((progE p).1 = P0 ∧ (progE p).2.1 = P1 ∧ (progE p).2.2 = P2) := ⟨hP0, hP1, hP2⟩
  unfold ProgIs at he
  rw [hP0, hP1, hP2] at he
  subst he
  clear hP0 hP1 hP2
  have hB : Below w3.heap.size w3 (w3.alloc (.cells #[.int .i64 (P1 : Int), .int .i64 (P2 : Int)] 31)) := (Below.refl _ _).alloc (Nat.le_refl _) _
  have HQ4 : Hid (OnR w (w3.alloc (.cells #[.int .i64 (P1 : Int), .int .i64 (P2 : Int)] 31)) p ag az af cg cs cf) := (HQ2.out.below hb).below hB
  have HA4 : Hid ((w3.alloc (.cells #[.int .i64 (P1 : Int), .int .i64 (P2 : Int)] 31)).rowIs w3.heap.size 31 2 (plC (P1 : Int) (P2 : Int))) := pl_box w3 _ _
  obtain ⟨w4, hw4⟩ : ∃ w4, w3.alloc (.cells #[.int .i64 (P1 : Int), .int .i64 (P2 : Int)] 31) = w4 := ⟨_, rfl⟩
  obtain ⟨ab, hab⟩ : ∃ ab, w3.heap.size = ab := ⟨_, rfl⟩
  rw [hw4] at HQ4 HA4
  rw [hab] at HA4
  clear hb hB HQ2 d0 d1 d2
  obtain ⟨d0, d1, d2⟩ := HQ4.out.c
  go_wp2_with fail
  refine (refCheck_any p ag az af cg cs cf hg _ HQ4.out.pp).mono ?_
  rintro e w5 ⟨he, hb⟩
  unfold RefProgIs at he
  rw [HPr.out.1, HPr.out.2.1, HPr.out.2.2] at he
  subst he
  have HQ5 : Hid (OnR w w5 p ag az af cg cs cf) := HQ4.out.below hb
  have HA5 : Hid (w5.rowIs ab 31 2 (plC (P1 : Int) (P2 : Int))) := HA4.out.of_block (hb.block _ HA4.out.lt)
  clear hb HQ4 HA4 d0 d1 d2 hw4 hab
  obtain ⟨d0, d1, d2⟩ := HQ5.out.c
  have a0 : w5.cell? ⟨ab, 0, none⟩ = some (.int .i64 (P1 : Int)) := HA5.out.cell (i := 0) (by decide)
  have a1 : w5.cell? ⟨ab, 1, none⟩ = some (.int .i64 (P2 : Int)) := HA5.out.cell (i := 1) (by decide)
  go_wp2_with fail
  refine (func_any p ag az af cg cs cf fn hg _ HQ5.out.pp).mono ?_
  rintro e w6 ⟨he, hb⟩
  obtain ⟨F0, hF0⟩ : ∃ F0, (funE p fn).1 = F0 := ⟨_, rfl⟩
  obtain ⟨F2, hF2⟩ : ∃ F2, (funE p fn).2 = F2 := ⟨_, rfl⟩
  obtain ⟨X, hX⟩ : ∃ X, funX p fn = X := ⟨_, rfl⟩
  have HFr : Hid ((funE p fn).1 = F0 ∧ (funE p fn).2 = F2) := ⟨hF0, hF2⟩
  have HXX : Hid ((F0 = 0 ∧ F2 = 0 ∧ X = 0) ∨ (¬ F0 = 0 ∧ X = fn)) := by
    unfold Hid
    unfold funX at hX
    rw [hF0] at hX
    by_cases h : F0 = 0
    · rw [if_pos h] at hX
      exact Or.inl ⟨h, by rw [← hF2]; exact fun_zero (by rw [hF0, h]), hX.symm⟩
    · rw [if_neg h] at hX
      exact Or.inr ⟨h, hX.symm⟩
  unfold FunIs at he
  rw [hF0, hF2, hX] at he
  subst he
  clear hF0 hF2 hX
  have hB : Below w6.heap.size w6 (w6.alloc (.cells #[.int .i64 X, .int .i64 (F2 : Int)] 31)) := (Below.refl _ _).alloc (Nat.le_refl _) _
  have HQ7 : Hid (OnR w (w6.alloc (.cells #[.int .i64 X, .int .i64 (F2 : Int)] 31)) p ag az af cg cs cf) := (HQ5.out.below hb).below hB
  have HA7 : Hid ((w6.alloc (.cells #[.int .i64 X, .int .i64 (F2 : Int)] 31)).rowIs w6.heap.size 31 2 (plC X (F2 : Int))) := pl_box w6 _ _
  obtain ⟨w7, hw7⟩ : ∃ w7, w6.alloc (.cells #[.int .i64 X, .int .i64 (F2 : Int)] 31) = w7 := ⟨_, rfl⟩
  obtain ⟨ob, hob⟩ : ∃ ob, w6.heap.size = ob := ⟨_, rfl⟩
  rw [hw7] at HQ7 HA7
  rw [hob] at HA7
  clear hb hB HQ5 HA5 a0 a1 d0 d1 d2
  obtain ⟨d0, d1, d2⟩ := HQ7.out.c
  go_wp2_with fail
  refine (refFunc_any p ag az af cg cs cf fn hg _ HQ7.out.pp).mono ?_
  rintro e w8 ⟨he, hb⟩
  unfold RefFunIs at he
  rw [HFr.out.1, HFr.out.2] at he
  subst he
  have HQ8 : Hid (OnR w w8 p ag az af cg cs cf) := HQ7.out.below hb
  have HA8 : Hid (w8.rowIs ob 31 2 (plC X (F2 : Int))) := HA7.out.of_block (hb.block _ HA7.out.lt)
  clear hb HQ7 HA7 d0 d1 d2 hw7 hob HFr
  obtain ⟨k, hk⟩ : ∃ k, Hid (arN p fn = k) := ⟨_, rfl⟩
  have hway : (fn < 0 ∧ k = 0) ∨ (0 ≤ fn ∧ (p.funcs.length : Int) ≤ fn ∧ k = 0) ∨ ∃ (j : Nat) (f : Fn), fn = (j : Int) ∧ p.funcs[j]? = some f ∧ k = f.args.length := by
    have := hk.out
    unfold arN at this
    cases hf : fnAt p fn with
    | none =>
      rw [hf] at this
      rcases fnAt_none hf with h | h
      · exact Or.inl ⟨h, this.symm⟩
      · by_cases h0 : fn < 0
        · exact Or.inl ⟨h0, this.symm⟩
        · exact Or.inr (Or.inl ⟨by omega, h, this.symm⟩)
    | some f =>
      rw [hf] at this
      obtain ⟨j, hj, _, hf'⟩ := fnAt_some hf
      exact Or.inr (Or.inr ⟨j, f, hj, hf', this.symm⟩)
  have a0 : w8.cell? ⟨ob, 0, none⟩ = some (.int .i64 X) := HA8.out.cell (i := 0) (by decide)
  have a1 : w8.cell? ⟨ob, 1, none⟩ = some (.int .i64 (F2 : Int)) := HA8.out.cell (i := 1) (by decide)
  obtain ⟨s, hs⟩ : ∃ s, Hid (insAt p fn pc = s) := ⟨_, rfl⟩
  clear HA8
  rcases hway with ⟨hw, rfl⟩ | ⟨hw, hw2, rfl⟩ | ⟨j, f, rfl, hfj, rfl⟩
  case' inl =>
    obtain ⟨d0, d1, d2⟩ := HQ8.out.c
  case' inr.inl =>
    obtain ⟨d0, d1, d2⟩ := HQ8.out.c
  case' inr.inr =>
    obtain ⟨b, off, v0, v1, v2, v3, v4, rfl, hb, _, q0, q1, q2, q3, q4, hfc⟩ := HQ8.out.pp.funcs.some hfj
    obtain ⟨b0, e0, b3, e3, b4, e4, rfl, rfl, rfl⟩ := hfc.lens
    obtain ⟨d0, d1, d2⟩ := HQ8.out.c
    have hjI : (j : Int) < (p.funcs.length : Int) := by have := (List.getElem?_eq_some_iff.1 hfj).1; omega
    clear hfc hb hfj
  all_goals
    by_cases h0 : F0 = 0
    case' pos =>
      obtain ⟨rfl, rfl, rfl⟩ : F0 = 0 ∧ F2 = 0 ∧ X = 0 := by
        rcases HXX.out with h | h
        · exact h
        · exact absurd h0 h.1
    case' neg =>
      have hXf := (HXX.out.resolve_left (fun h => h0 h.1)).2
      subst X
      by_cases h1 : F0 = 1
      case' pos => subst h1
      case' neg =>
        have c1 : (F0 == 0) = false := by simpa using h0
        have c2 : (F0 != 0) = true := by simpa using h0
        have c3 : (F0 != 1) = true := by simpa using h1
        clear h1
    all_goals
      try clear h0
      clear HXX
      go_wp2_with fail
      refine (args_any p _ _ _ _ _ _ hk _ HQ8.out.pp).mono ?_
      rintro e w9 ⟨rfl, hb9⟩
      have HQ9 := HQ8.out.below hb9
      have HQ9 : Hid (OnR w w9 p _ _ _ _ _ _) := HQ9
      clear hb9 a0 a1 d0 d1 d2 HQ8 hk
      try clear c1
      try clear c2
      try clear c3
      go_upto_region 14 with (fail)
      try clear q0 q1 q2 q3 q4 hjI
      try (generalize (some ⟨b, off, none⟩ : Option Addr) = af at *)
      try (generalize ((j : Nat) : Int) = fn at *)
      obtain ⟨d0, d1, d2⟩ := HQ9.out.c
      have hlt := HQ9.out.rp.lt
      let I : World → Prop := fun w' => Below w9.heap.size w9 w'
      have hI : I w9.drew := (Below.refl _ _).drew
      haveI : Nonempty (InW I) := ⟨⟨_, hI⟩⟩
      have x0 : ∀ z : InW I, z.w.cell? ⟨w.heap.size, 0, none⟩ = some (.slice ag p.glob.length cg) := fun z => (z.h.cell (p := ⟨w.heap.size, 0, none⟩) hlt).trans d0
      have x1 : ∀ z : InW I, z.w.cell? ⟨w.heap.size, 1, none⟩ = some (.slice az p.shapes.length cs) := fun z => (z.h.cell (p := ⟨w.heap.size, 1, none⟩) hlt).trans d1
      have x2 : ∀ z : InW I, z.w.cell? ⟨w.heap.size, 2, none⟩ = some (.slice af p.funcs.length cf) := fun z => (z.h.cell (p := ⟨w.heap.size, 2, none⟩) hlt).trans d2
      have hC : Hid (∀ z : InW I, Calls Try.prog 12 #[.agg #[.slice ag p.glob.length cg, .slice az p.shapes.length cs, .slice af p.funcs.length cf], .agg #[.int .i64 fn, .int .i64 pc]] z.w fun e w' => e = .returned (.int .i64 s) ∧ I w') := fun z =>
        (instr_any p ag az af cg cs cf hs ⟨hg.out.len, hg.out.fit⟩ z.w (HQ9.out.pp.below z.h)).mono fun e w' ⟨he, hw⟩ => ⟨he, z.h.trans (hw.mono z.h.size)⟩
      have hD : Hid (∀ z : InW I, Calls Try.prog 13 #[.agg #[.slice ag p.glob.length cg, .slice az p.shapes.length cs, .slice af p.funcs.length cf], .int .i64 fn, .int .i64 pc] z.w fun e w' => e = .returned (.int .i64 s) ∧ I w') := fun z =>
        (refInstr_any p ag az af cg cs cf hs ⟨hg.out.len, hg.out.fit⟩ z.w (HQ9.out.pp.below z.h)).mono fun e w' ⟨he, hw⟩ => ⟨he, z.h.trans (hw.mono z.h.size)⟩
      have hIB : Hid (∀ z : InW I, Below w.heap.size w z.w) := fun z => HQ9.out.low.trans (z.h.mono HQ9.out.low.size)
      clear_value I
      clear hlt d0 d1 d2 HQ9 hs
      refine wp_region_in (by kernel_rfl) (by kernel_rfl) hI ?_
      repeat (go_big_quiet_step (first
        | (go_at_call 12; exact callIn (hC.out _))
        | (go_at_call 13; exact callIn (hD.out _))))
      refine wpQuiet_nil ?_
      rintro _ ⟨z, rfl⟩
      clear hC hD x0 x1 x2 hI
      go_wp2_with fail
      go_ret
      exact ⟨rfl, hIB.out z⟩

open Go.ChangeShapes Go.WideShapes Go.ChangeAt in
theorem tells_arg {H : Type} {enc : TypeId × Value → H} {W : World} {base : Nat} {v : Value} {d : DataW H} {p : List MemPlace} (h : DataW.Trod enc Try.prog W 0 (fun _ => true) true 26 v d p) (hv : Value.okWide Try.prog W .any base 26 v) (fn pc : Int) :
    Calls Try.prog 3 #[v, .int .i64 fn, .int .i64 pc] W fun e w' => e = .returned (.bool true) ∧ Below W.heap.size W w' := by
  obtain ⟨q, ag, cg, az, cs, af, cf, rfl, ⟨hl, hf⟩, hq⟩ := prog_arg h hv
  by_cases hz : szP q ≤ 3000
  · exact tells_big q ag az af cg cs cf fn pc W ⟨hl, hf, hz⟩ hq
  · exact tells_small q ag az af cg cs cf fn pc W hl (decide_eq_false hz) hq

end Go.Proofs.Ytmacipjdmaaccaa

/- ImageCopies: the cases that copy nothing; the law for whatever program. -/
import Derived.Test.YtkgicalkcbagaaaImZ
import Derived.Test.YtkgicalkcbagaaaImW
namespace Go.Proofs.Ytkgicalkcbagaaa
open Go.RowKit Go.ChangeShapes Go.WideShapes Go.ChangeAt

set_option maxRecDepth 100000 in
set_option maxHeartbeats 4000000 in
theorem copies_early (p : Pg) (ag az af : Option Addr) (cg cs cf : Nat) (w : World) (hlp : Len p) (hsp : Hid (decide (szP p ≤ 3000) = false))
    (h1 : PgV Any w (.slice ag p.glob.length cg) (.slice az p.shapes.length cs) (.slice af p.funcs.length cf) p) :
    Calls Try.prog 4 #[.agg #[.slice ag p.glob.length cg, .slice az p.shapes.length cs, .slice af p.funcs.length cf]] w fun e w' => e = .returned (.bool true) ∧ Below w.heap.size w w' := by
  obtain ⟨B, hBw⟩ : ∃ B, w.heap.size = B := ⟨_, rfl⟩
  obtain ⟨wa, hwa⟩ : ∃ wa, w.alloc (.cells #[.slice ag p.glob.length cg, .slice az p.shapes.length cs, .slice af p.funcs.length cf] 26) = wa := ⟨_, rfl⟩
  have hA : Below w.heap.size w wa := hwa ▸ (Below.refl _ _).alloc (Nat.le_refl _) _
  have HBx : Hid (wa.rowIs B 26 3 (pgC (.slice ag p.glob.length cg) (.slice az p.shapes.length cs) (.slice af p.funcs.length cf))) := by unfold Hid; rw [← hBw]; exact hwa ▸ pg_box w _ _ _ ag az af cg cs cf
  have HPg : Hid (PgV Any wa (.slice ag p.glob.length cg) (.slice az p.shapes.length cs) (.slice af p.funcs.length cf) p) := h1.below hA
  have HLow : Hid (Below w.heap.size w wa) := hA
  have HLP : Hid (Len p) := hlp
  have d0 : wa.cell? ⟨B, 0, none⟩ = some (.slice ag p.glob.length cg) := HBx.out.cell (i := 0) (by decide)
  have d1 : wa.cell? ⟨B, 1, none⟩ = some (.slice az p.shapes.length cs) := HBx.out.cell (i := 1) (by decide)
  have d2 : wa.cell? ⟨B, 2, none⟩ = some (.slice af p.funcs.length cf) := HBx.out.cell (i := 2) (by decide)
  clear hA h1 hlp
  go_enter Try.func4, Try.ntmps4
  go_wp2_with fail
  refine (smallN HLP.out ag az af cg cs cf _ hsp HPg.out).mono ?_
  rintro e w1 ⟨rfl, hb⟩
  have HB1 : Hid (Below w.heap.size w w1) := HLow.out.trans (hb.mono HLow.out.size)
  clear hb d0 d1 d2 HBx HPg HLow
  go_wp2_with fail
  refine (alive_any _).mono ?_
  rintro e w2 ⟨rfl, hb⟩
  have HB : Hid (Below w.heap.size w w2) := HB1.out.trans (hb.mono HB1.out.size)
  clear hb
  go_wp2_with fail
  go_ret
  first | exact ⟨rfl, HB.out⟩ | exact ⟨rfl, hBw ▸ HB.out⟩

theorem copies_arg {H : Type} {enc : TypeId × Value → H} {W : World} {base : Nat} {v : Value} {d : DataW H} {p : List MemPlace} (h : DataW.Trod enc Try.prog W 0 (fun _ => true) true 26 v d p) (hv : Value.okWide Try.prog W .any base 26 v) :
    Calls Try.prog 4 #[v] W fun e w' => e = .returned (.bool true) ∧ Below W.heap.size W w' := by
  obtain ⟨q, ag, cg, az, cs, af, cf, rfl, hl, hq⟩ := prog_arg h hv
  obtain ⟨sp, hsp⟩ : ∃ sp, Hid (decide (szP q ≤ 3000) = sp) := ⟨_, rfl⟩
  cases sp with
  | false => exact copies_early q ag az af cg cs cf W hl hsp hq
  | true => exact copies_late q _ _ _ ag az af cg cs cf W hl hsp ⟨rfl, rfl, rfl⟩ hq

end Go.Proofs.Ytkgicalkcbagaaa

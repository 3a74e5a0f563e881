/- The walk of the document's Instr, at an instruction that is there: all but what its loops do. -/
import Derived.Test.YtmacipjdmaaccaaCkL
import Derived.Test.YtmacipjdmaaccaaShB
namespace Go.Proofs.Ytmacipjdmaaccaa
open Go.RowKit

set_option maxRecDepth 100000 in
set_option maxHeartbeats 8000000 in
theorem refInstr_form (p : Pg) (ag az af : Option Addr) (cg cs cf : Nat) {j jc : Nat} {f : Fn} {io ia ib ic : Int} (hf : Hid (p.funcs[j]? = some f)) (hi : Hid (f.code[jc]? = some ⟨io, ia, ib, ic⟩)) (hk : Hid (kn io = false ∨ (kn io = true ∧ unB (ro io).1 (ro io).2.1 (ro io).2.2 ia ib ic = false))) (w : World) (hp : PgV Any w (.slice ag p.glob.length cg) (.slice az p.shapes.length cs) (.slice af p.funcs.length cf) p) :
    Calls Try.prog 13 #[.agg #[.slice ag p.glob.length cg, .slice az p.shapes.length cs, .slice af p.funcs.length cf], .int .i64 (j : Int), .int .i64 (jc : Int)] w fun e w' => e = .returned (.int .i64 2) ∧ Below w.heap.size w w' := by
  have hjl : j < p.funcs.length := (List.getElem?_eq_some_iff.1 hf.out).1
  have hil : jc < f.code.length := (List.getElem?_eq_some_iff.1 hi.out).1
  have hjI : (j : Int) < (p.funcs.length : Int) := by omega
  have hiI : (jc : Int) < (f.code.length : Int) := by omega
  obtain ⟨wp, hwp⟩ : ∃ wp, w.alloc (.cells #[.slice ag p.glob.length cg, .slice az p.shapes.length cs, .slice af p.funcs.length cf] 26) = wp := ⟨_, rfl⟩
  have hA : Below w.heap.size w wp := hwp ▸ (Below.refl _ _).alloc (Nat.le_refl _) _
  obtain ⟨b, off, v0, v1, v2, v3, v4, rfl, hb, _, k0, k1, k2, k3, k4, hfc⟩ := hp.funcs.some hf.out
  obtain ⟨a0, c0, a3, c3, a4, c4, rfl, rfl, rfl⟩ := hfc.lens
  obtain rfl := hfc.res
  obtain rfl := hfc.slots
  obtain ⟨kb, ko, rfl, hkb, hins⟩ := hfc.code.some hi.out
  have hsz : wp.heap.size = w.heap.size + 1 := by rw [← hwp]; simp
  obtain ⟨wf, hwf⟩ : ∃ wf, wp.alloc (.cells #[.slice a0 f.args.length c0, .int .i64 f.res, .int .i64 f.slots, .slice a3 f.objs.length c3, .slice (some ⟨kb, ko, none⟩) f.code.length c4] 41) = wf := ⟨_, rfl⟩
  obtain ⟨wj, hwj⟩ : ∃ wj, wf.alloc (.cells #[.int .i64 io, .int .i64 ia, .int .i64 ib, .int .i64 ic] 52) = wj := ⟨_, rfl⟩
  have hJ := onJ_start p f io ia ib ic ag az (some ⟨b, off, none⟩) cg cs cf a0 a3 (some ⟨kb, ko, none⟩) c0 c3 c4 (wj := wj) (by rw [hwp, hwf, hwj]) hp
  have hB : Below wp.heap.size wp wf := hwf ▸ (Below.refl _ _).alloc (Nat.le_refl _) _
  have hAB := hA.trans (hB.mono hA.size)
  have hC : Below wf.heap.size wf wj := hwj ▸ (Below.refl _ _).alloc (Nat.le_refl _) _
  have e2 : wp.cell? ⟨w.heap.size, 2, none⟩ = some (.slice (some ⟨b, off, none⟩) p.funcs.length cf) := hwp ▸ cell_new w _ _ rfl
  have q0 := (hA.cell (p := ⟨b, off + j * 5, none⟩) hb).trans k0
  have q1 := (hA.cell (p := ⟨b, off + j * 5 + 1, none⟩) hb).trans k1
  have q2 := (hA.cell (p := ⟨b, off + j * 5 + 2, none⟩) hb).trans k2
  have q3 := (hA.cell (p := ⟨b, off + j * 5 + 3, none⟩) hb).trans k3
  have q4 := (hA.cell (p := ⟨b, off + j * 5 + 4, none⟩) hb).trans k4
  have f4 : wf.cell? ⟨w.heap.size + 1, 4, none⟩ = some (.slice (some ⟨kb, ko, none⟩) f.code.length c4) := by rw [← hsz]; exact hwf ▸ cell_new wp _ _ rfl
  have m0 : wf.cell? ⟨kb, ko + jc * 4, none⟩ = some (.int .i64 io) := (hAB.cell (p := ⟨kb, ko + jc * 4, none⟩) hkb).trans hins.1
  have m1 : wf.cell? ⟨kb, ko + jc * 4 + 1, none⟩ = some (.int .i64 ia) := (hAB.cell (p := ⟨kb, ko + jc * 4 + 1, none⟩) hkb).trans hins.2.1
  have m2 : wf.cell? ⟨kb, ko + jc * 4 + 2, none⟩ = some (.int .i64 ib) := (hAB.cell (p := ⟨kb, ko + jc * 4 + 2, none⟩) hkb).trans hins.2.2.1
  have m3 : wf.cell? ⟨kb, ko + jc * 4 + 3, none⟩ = some (.int .i64 ic) := (hAB.cell (p := ⟨kb, ko + jc * 4 + 3, none⟩) hkb).trans hins.2.2.2
  have HJ : Hid (OnJ w wj p f io ia ib ic ag az (some ⟨b, off, none⟩) cg cs cf a0 a3 (some ⟨kb, ko, none⟩) c0 c3 c4) := hJ
  obtain ⟨_, _, i0, i1, i2, i3⟩ := hJ.c
  obtain ⟨S, hS⟩ : ∃ S, Hid (opS io = S) := ⟨_, rfl⟩
  have HU : Hid (∀ w, Calls Try.prog 27 #[.agg #[.int .i64 io, .int .i64 ia, .int .i64 ib, .int .i64 ic]] w fun e w' => e = .returned (.bool (unB (ro io).1 (ro io).2.1 (ro io).2.2 ia ib ic)) ∧ Below w.heap.size w w') := fun w => refUnused_any ⟨io, ia, ib, ic⟩ w
  have hsz2 : wf.heap.size = w.heap.size + 2 := by rw [← hwf]; simp [hsz]
  clear hA hB hAB hC hfc hins hJ k0 k1 k2 k3 k4 hb hkb hp hf hi
  rcases hk.out with hn | ⟨hn, hu⟩
  · have hne : S.toList.isEmpty = true := by
      rw [← hS.out, opS_none hn, ByteArray.toList_eq]
      rfl
    clear hn hk HU
    go_enter Try.func13, Try.ntmps13
    go_wp2_with fail
    refine (operands_any hS _).mono ?_
    rintro e w' ⟨rfl, rfl⟩
    go_wp2_with fail
    go_ret
    exact ⟨rfl, HJ.out.low⟩
  · have hne : S.toList.isEmpty = false := by
      rw [← hS.out]
      exact opS_some hn
    have HU2 : Hid (∀ w, Calls Try.prog 27 #[.agg #[.int .i64 io, .int .i64 ia, .int .i64 ib, .int .i64 ic]] w fun e w' => e = .returned (.bool false) ∧ Below w.heap.size w w') := fun w => hu ▸ HU.out w
    clear hn hk HU hu
    go_enter Try.func13, Try.ntmps13
    go_wp2_with fail
    refine (operands_any hS _).mono ?_
    rintro e w' ⟨rfl, rfl⟩
    go_wp2_with fail
    refine (HU2.out _).mono ?_
    rintro e w2 ⟨rfl, hb⟩
    have HB : Hid (Below w.heap.size w w2) := (HJ.out.below hb).low
    clear hb
    go_wp2_with fail
    go_ret
    exact ⟨rfl, HB.out⟩

set_option maxRecDepth 100000 in
set_option maxHeartbeats 16000000 in
theorem refInstr_far (p : Pg) (ag az af : Option Addr) (cg cs cf : Nat) {j jc : Nat} {f : Fn} {io ia ib ic : Int} (hf : Hid (p.funcs[j]? = some f)) (hi : Hid (f.code[jc]? = some ⟨io, ia, ib, ic⟩)) (w : World) (hp : PgV Any w (.slice ag p.glob.length cg) (.slice az p.shapes.length cs) (.slice af p.funcs.length cf) p)
    (S : ByteArray) (x1 : Int) (hS : Hid (opS io = S)) (hne : S.toList.isEmpty = false)
    (g1 : ∀ w, (Instr.index 9 (.string S) (.int .i64 1)).run Try.prog w = .ok (.int .u8 x1) w)
    (HU : Hid (∀ w, Calls Try.prog 27 #[.agg #[.int .i64 io, .int .i64 ia, .int .i64 ib, .int .i64 ic]] w fun e w' => e = .returned (.bool true) ∧ Below w.heap.size w w'))
    (hg : x1 = 102) (hn : fnAt p ib = none) :
    Calls Try.prog 13 #[.agg #[.slice ag p.glob.length cg, .slice az p.shapes.length cs, .slice af p.funcs.length cf], .int .i64 (j : Int), .int .i64 (jc : Int)] w fun e w' => e = .returned (.int .i64 4) ∧ Below w.heap.size w w' := by
  have hjl : j < p.funcs.length := (List.getElem?_eq_some_iff.1 hf.out).1
  have hil : jc < f.code.length := (List.getElem?_eq_some_iff.1 hi.out).1
  have hjI : (j : Int) < (p.funcs.length : Int) := by omega
  have hiI : (jc : Int) < (f.code.length : Int) := by omega
  obtain ⟨wp, hwp⟩ : ∃ wp, w.alloc (.cells #[.slice ag p.glob.length cg, .slice az p.shapes.length cs, .slice af p.funcs.length cf] 26) = wp := ⟨_, rfl⟩
  have hA : Below w.heap.size w wp := hwp ▸ (Below.refl _ _).alloc (Nat.le_refl _) _
  obtain ⟨b, off, v0, v1, v2, v3, v4, rfl, hb, _, k0, k1, k2, k3, k4, hfc⟩ := hp.funcs.some hf.out
  obtain ⟨a0, c0, a3, c3, a4, c4, rfl, rfl, rfl⟩ := hfc.lens
  obtain rfl := hfc.res
  obtain rfl := hfc.slots
  obtain ⟨kb, ko, rfl, hkb, hins⟩ := hfc.code.some hi.out
  have hsz : wp.heap.size = w.heap.size + 1 := by rw [← hwp]; simp
  obtain ⟨wf, hwf⟩ : ∃ wf, wp.alloc (.cells #[.slice a0 f.args.length c0, .int .i64 f.res, .int .i64 f.slots, .slice a3 f.objs.length c3, .slice (some ⟨kb, ko, none⟩) f.code.length c4] 41) = wf := ⟨_, rfl⟩
  obtain ⟨wj, hwj⟩ : ∃ wj, wf.alloc (.cells #[.int .i64 io, .int .i64 ia, .int .i64 ib, .int .i64 ic] 52) = wj := ⟨_, rfl⟩
  have hJ := onJ_start p f io ia ib ic ag az (some ⟨b, off, none⟩) cg cs cf a0 a3 (some ⟨kb, ko, none⟩) c0 c3 c4 (wj := wj) (by rw [hwp, hwf, hwj]) hp
  have hB : Below wp.heap.size wp wf := hwf ▸ (Below.refl _ _).alloc (Nat.le_refl _) _
  have hAB := hA.trans (hB.mono hA.size)
  have hC : Below wf.heap.size wf wj := hwj ▸ (Below.refl _ _).alloc (Nat.le_refl _) _
  have e2 : wp.cell? ⟨w.heap.size, 2, none⟩ = some (.slice (some ⟨b, off, none⟩) p.funcs.length cf) := hwp ▸ cell_new w _ _ rfl
  have q0 := (hA.cell (p := ⟨b, off + j * 5, none⟩) hb).trans k0
  have q1 := (hA.cell (p := ⟨b, off + j * 5 + 1, none⟩) hb).trans k1
  have q2 := (hA.cell (p := ⟨b, off + j * 5 + 2, none⟩) hb).trans k2
  have q3 := (hA.cell (p := ⟨b, off + j * 5 + 3, none⟩) hb).trans k3
  have q4 := (hA.cell (p := ⟨b, off + j * 5 + 4, none⟩) hb).trans k4
  have f4 : wf.cell? ⟨w.heap.size + 1, 4, none⟩ = some (.slice (some ⟨kb, ko, none⟩) f.code.length c4) := by rw [← hsz]; exact hwf ▸ cell_new wp _ _ rfl
  have m0 : wf.cell? ⟨kb, ko + jc * 4, none⟩ = some (.int .i64 io) := (hAB.cell (p := ⟨kb, ko + jc * 4, none⟩) hkb).trans hins.1
  have m1 : wf.cell? ⟨kb, ko + jc * 4 + 1, none⟩ = some (.int .i64 ia) := (hAB.cell (p := ⟨kb, ko + jc * 4 + 1, none⟩) hkb).trans hins.2.1
  have m2 : wf.cell? ⟨kb, ko + jc * 4 + 2, none⟩ = some (.int .i64 ib) := (hAB.cell (p := ⟨kb, ko + jc * 4 + 2, none⟩) hkb).trans hins.2.2.1
  have m3 : wf.cell? ⟨kb, ko + jc * 4 + 3, none⟩ = some (.int .i64 ic) := (hAB.cell (p := ⟨kb, ko + jc * 4 + 3, none⟩) hkb).trans hins.2.2.2
  have HJ : Hid (OnJ w wj p f io ia ib ic ag az (some ⟨b, off, none⟩) cg cs cf a0 a3 (some ⟨kb, ko, none⟩) c0 c3 c4) := hJ
  obtain ⟨_, _, i0, i1, i2, i3⟩ := hJ.c
  have hsz2 : wf.heap.size = w.heap.size + 2 := by rw [← hwf]; simp [hsz]
  clear hA hB hAB hC hfc hins hJ k0 k1 k2 k3 k4 hb hkb hp hf hi
  subst hg
  by_cases hb0 : 0 ≤ ib
  · have hb1 : ¬ ib < (p.funcs.length : Int) := by
      rcases fnAt_none hn with h | h <;> omega
    have hd0 : decide (0 ≤ ib) = true := decide_eq_true hb0
    have hd1 : decide (ib < (p.funcs.length : Int)) = false := decide_eq_false hb1
    clear hn hb1
    go_enter Try.func13, Try.ntmps13
    go_wp2_with fail
    refine (operands_any hS _).mono ?_
    rintro e w' ⟨rfl, rfl⟩
    go_wp2_with fail
    refine (HU.out _).mono ?_
    rintro e w2 ⟨rfl, hb⟩
    have HJ2 : Hid (OnJ w w2 p f io ia ib ic ag az (some ⟨b, off, none⟩) cg cs cf a0 a3 (some ⟨kb, ko, none⟩) c0 c3 c4) := HJ.out.below hb
    clear hb HJ i0 i1 i2 i3
    obtain ⟨⟨d0, d1, d2⟩, ⟨y0, y1, y2, y3, y4⟩, i0, i1, i2, i3⟩ := HJ2.out.c
    have HJ3 : Hid (OnJ w (w2.alloc (.cells #[.int .i64 ia, .int .i64 ib, .int .i64 ic] 3)) p f io ia ib ic ag az (some ⟨b, off, none⟩) cg cs cf a0 a3 (some ⟨kb, ko, none⟩) c0 c3 c4) := HJ2.out.below ((Below.refl _ _).alloc (Nat.le_refl _) _)
    obtain ⟨w3, hw3⟩ : ∃ w3, w2.alloc (.cells #[.int .i64 ia, .int .i64 ib, .int .i64 ic] 3) = w3 := ⟨_, rfl⟩
    rw [hw3] at HJ3
    obtain ⟨⟨D0, D1, D2⟩, ⟨Y0, Y1, Y2, Y3, Y4⟩, I0, I1, I2, I3⟩ := HJ3.out.c
    go_wp2_with fail
    go_ret
    exact ⟨rfl, HJ3.out.low⟩
  · have hd0 : decide (0 ≤ ib) = false := decide_eq_false hb0
    clear hn
    go_enter Try.func13, Try.ntmps13
    go_wp2_with fail
    refine (operands_any hS _).mono ?_
    rintro e w' ⟨rfl, rfl⟩
    go_wp2_with fail
    refine (HU.out _).mono ?_
    rintro e w2 ⟨rfl, hb⟩
    have HJ2 : Hid (OnJ w w2 p f io ia ib ic ag az (some ⟨b, off, none⟩) cg cs cf a0 a3 (some ⟨kb, ko, none⟩) c0 c3 c4) := HJ.out.below hb
    clear hb HJ i0 i1 i2 i3
    obtain ⟨⟨d0, d1, d2⟩, ⟨y0, y1, y2, y3, y4⟩, i0, i1, i2, i3⟩ := HJ2.out.c
    have HJ3 : Hid (OnJ w (w2.alloc (.cells #[.int .i64 ia, .int .i64 ib, .int .i64 ic] 3)) p f io ia ib ic ag az (some ⟨b, off, none⟩) cg cs cf a0 a3 (some ⟨kb, ko, none⟩) c0 c3 c4) := HJ2.out.below ((Below.refl _ _).alloc (Nat.le_refl _) _)
    obtain ⟨w3, hw3⟩ : ∃ w3, w2.alloc (.cells #[.int .i64 ia, .int .i64 ib, .int .i64 ic] 3) = w3 := ⟨_, rfl⟩
    rw [hw3] at HJ3
    obtain ⟨⟨D0, D1, D2⟩, ⟨Y0, Y1, Y2, Y3, Y4⟩, I0, I1, I2, I3⟩ := HJ3.out.c
    go_wp2_with fail
    go_ret
    exact ⟨rfl, HJ3.out.low⟩

end Go.Proofs.Ytmacipjdmaaccaa

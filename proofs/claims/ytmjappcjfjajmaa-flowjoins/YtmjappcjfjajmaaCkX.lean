/- The walks of check's plain functions: within, hasResult, isField, function, Args. -/
import Derived.Test.YtmjappcjfjajmaaCkM
namespace Go.Proofs.Ytmjappcjfjajmaa
open Go.RowKit

theorem within_any {v n : Int} {b : Bool} (hb : Hid (inB v n = b)) (w : World) : Calls Try.prog 42 #[.int .i64 v, .int .i64 n] w fun e w' => e = .returned (.bool b) ∧ w' = w := by
  obtain rfl := hb.out
  clear hb
  by_cases h1 : 0 ≤ v
  · have hr : inB v n = decide (v < n) := by unfold inB; rw [decide_eq_true h1]; rfl
    rw [hr]
    clear hr
    go_enter Try.func42, Try.ntmps42
    go_wp2_with fail
    go_ret
    exact ⟨rfl, rfl⟩
  · have hr : inB v n = false := by unfold inB; rw [decide_eq_false h1]; rfl
    rw [hr]
    clear hr
    go_enter Try.func42, Try.ntmps42
    go_wp2_with fail
    go_ret
    exact ⟨rfl, rfl⟩

theorem hasRes_any (f : Fn) (a0 a3 a4 : Option Addr) (c0 c3 c4 : Nat) {r : Bool} (hr : Hid ((f.res != 0) = r)) (w : World) : Calls Try.prog 69 #[.agg #[.slice a0 f.args.length c0, .int .i64 f.res, .int .i64 f.slots, .slice a3 f.objs.length c3, .slice a4 f.code.length c4]] w fun e w' => e = .returned (.bool r) ∧ Below w.heap.size w w' := by
  obtain rfl := hr.out
  clear hr
  have HB : Hid (Below w.heap.size w (w.alloc (.cells #[.slice a0 f.args.length c0, .int .i64 f.res, .int .i64 f.slots, .slice a3 f.objs.length c3, .slice a4 f.code.length c4] 41))) := (Below.refl _ _).alloc (Nat.le_refl _) _
  go_enter Try.func69, Try.ntmps69
  go_wp2_with fail
  go_ret
  exact ⟨rfl, HB.out⟩

theorem isField_any (p : Pg) (ag az af : Option Addr) (cg cs cf : Nat) {k : Int} {b : Bool} (hb : Hid (fldB k p.shapes.length = b)) (w : World) : Calls Try.prog 80 #[.agg #[.slice ag p.glob.length cg, .slice az p.shapes.length cs, .slice af p.funcs.length cf], .int .i64 k] w fun e w' => e = .returned (.bool b) ∧ Below w.heap.size w w' := by
  have HB : Hid (Below w.heap.size w (w.alloc (.cells #[.slice ag p.glob.length cg, .slice az p.shapes.length cs, .slice af p.funcs.length cf] 26))) := (Below.refl _ _).alloc (Nat.le_refl _) _
  go_enter Try.func80, Try.ntmps80
  go_wp2_with fail
  refine (field_any hb _).mono ?_
  rintro e w' ⟨rfl, rfl⟩
  go_wp2_with fail
  go_ret
  exact ⟨rfl, HB.out⟩

set_option maxHeartbeats 1000000 in
theorem function_none (p : Pg) (ag az af : Option Addr) (cg cs cf : Nat) {n : Int} (hf : Hid (fnAt p n = none)) (w : World) :
    Calls Try.prog 41 #[.agg #[.slice ag p.glob.length cg, .slice az p.shapes.length cs, .slice af p.funcs.length cf], .int .i64 n] w fun e w' => e = .returned (.tuple #[.agg #[.slice none 0 0, .int .i64 0, .int .i64 0, .slice none 0 0, .slice none 0 0], .bool false]) ∧ Below w.heap.size w w' := by
  have HI : Hid (inB n p.funcs.length = false) := by unfold Hid; rw [fnAt_inB, hf.out]; rfl
  obtain ⟨wa, hwa⟩ : ∃ wa, w.alloc (.cells #[.slice ag p.glob.length cg, .slice az p.shapes.length cs, .slice af p.funcs.length cf] 26) = wa := ⟨_, rfl⟩
  have hA : Below w.heap.size w wa := hwa ▸ (Below.refl _ _).alloc (Nat.le_refl _) _
  have d2 : wa.cell? ⟨w.heap.size, 2, none⟩ = some (.slice af p.funcs.length cf) := hwa ▸ cell_new w _ _ rfl
  have hlt : w.heap.size < wa.heap.size := by rw [← hwa]; simp
  have e2 : (wa.alloc (.cells #[.slice none 0 0, .int .i64 0, .int .i64 0, .slice none 0 0, .slice none 0 0] 41)).cell? ⟨w.heap.size, 2, none⟩ = some (.slice af p.funcs.length cf) := (cell_old hlt).trans d2
  have HA : Hid (Below w.heap.size w (wa.alloc (.cells #[.slice none 0 0, .int .i64 0, .int .i64 0, .slice none 0 0, .slice none 0 0] 41))) := hA.alloc hA.size _
  clear hA d2 hf
  go_enter Try.func41, Try.ntmps41
  go_wp2_with fail
  refine (within_any HI _).mono ?_
  rintro e w' ⟨rfl, rfl⟩
  go_wp2_with fail
  refine bodyPost_ret (by simp [results, go_sem]; rfl) rfl ?_
  exact ⟨rfl, HA.out⟩

set_option maxHeartbeats 1000000 in
theorem function_some (p : Pg) (ag az af : Option Addr) (cg cs cf : Nat) {n : Int} {f : Fn} (hf : Hid (fnAt p n = some f)) (w : World) (h : PgV Any w (.slice ag p.glob.length cg) (.slice az p.shapes.length cs) (.slice af p.funcs.length cf) p) :
    Calls Try.prog 41 #[.agg #[.slice ag p.glob.length cg, .slice az p.shapes.length cs, .slice af p.funcs.length cf], .int .i64 n] w fun e w' => ∃ a0 a3 a4 c0 c3 c4, e = .returned (.tuple #[.agg #[.slice a0 f.args.length c0, .int .i64 f.res, .int .i64 f.slots, .slice a3 f.objs.length c3, .slice a4 f.code.length c4], .bool true]) ∧ FnC Any w f (.slice a0 f.args.length c0) (.int .i64 f.res) (.int .i64 f.slots) (.slice a3 f.objs.length c3) (.slice a4 f.code.length c4) ∧ Below w.heap.size w w' := by
  have HI : Hid (inB n p.funcs.length = true) := by unfold Hid; rw [fnAt_inB, hf.out]; rfl
  obtain ⟨j, rfl, hj, hfj⟩ := fnAt_some hf.out
  obtain ⟨b, off, v0, v1, v2, v3, v4, rfl, hb, _, k0, k1, k2, k3, k4, hfc⟩ := h.funcs.some hfj
  obtain ⟨a0, c0, a3, c3, a4, c4, rfl, rfl, rfl⟩ := hfc.lens
  obtain rfl := hfc.res
  obtain rfl := hfc.slots
  obtain ⟨wa, hwa⟩ : ∃ wa, w.alloc (.cells #[.slice ag p.glob.length cg, .slice az p.shapes.length cs, .slice (some ⟨b, off, none⟩) p.funcs.length cf] 26) = wa := ⟨_, rfl⟩
  have hA : Below w.heap.size w wa := hwa ▸ (Below.refl _ _).alloc (Nat.le_refl _) _
  have d2 : wa.cell? ⟨w.heap.size, 2, none⟩ = some (.slice (some ⟨b, off, none⟩) p.funcs.length cf) := hwa ▸ cell_new w _ _ rfl
  have hlt : w.heap.size < wa.heap.size := by rw [← hwa]; simp
  have hA2 : Below w.heap.size w (wa.alloc (.cells #[.slice none 0 0, .int .i64 0, .int .i64 0, .slice none 0 0, .slice none 0 0] 41)) := hA.alloc hA.size _
  have e2 : (wa.alloc (.cells #[.slice none 0 0, .int .i64 0, .int .i64 0, .slice none 0 0, .slice none 0 0] 41)).cell? ⟨w.heap.size, 2, none⟩ = some (.slice (some ⟨b, off, none⟩) p.funcs.length cf) := (cell_old hlt).trans d2
  have q0 := (hA2.cell (p := ⟨b, off + j * 5, none⟩) hb).trans k0
  have q1 := (hA2.cell (p := ⟨b, off + j * 5 + 1, none⟩) hb).trans k1
  have q2 := (hA2.cell (p := ⟨b, off + j * 5 + 2, none⟩) hb).trans k2
  have q3 := (hA2.cell (p := ⟨b, off + j * 5 + 3, none⟩) hb).trans k3
  have q4 := (hA2.cell (p := ⟨b, off + j * 5 + 4, none⟩) hb).trans k4
  have HA : Hid (Below w.heap.size w (wa.alloc (.cells #[.slice a0 f.args.length c0, .int .i64 f.res, .int .i64 f.slots, .slice a3 f.objs.length c3, .slice a4 f.code.length c4] 41))) := hA.alloc hA.size _
  have HF : Hid (FnC Any w f (.slice a0 f.args.length c0) (.int .i64 f.res) (.int .i64 f.slots) (.slice a3 f.objs.length c3) (.slice a4 f.code.length c4)) := hfc
  clear hA hA2 hfc h hfj k0 k1 k2 k3 k4 hf d2
  go_enter Try.func41, Try.ntmps41
  go_wp2_with fail
  refine (within_any HI _).mono ?_
  rintro e w' ⟨rfl, rfl⟩
  go_wp2_with fail
  refine bodyPost_ret (by simp [results, go_sem]; rfl) rfl ?_
  exact ⟨a0, a3, a4, c0, c3, c4, rfl, HF.out, HA.out⟩

set_option maxHeartbeats 1000000 in
theorem args_any (p : Pg) (ag az af : Option Addr) (cg cs cf : Nat) {n : Int} {k : Nat} (hk : Hid (arN p n = k)) (w : World) (h : PgV Any w (.slice ag p.glob.length cg) (.slice az p.shapes.length cs) (.slice af p.funcs.length cf) p) :
    Calls Try.prog 94 #[.agg #[.slice ag p.glob.length cg, .slice az p.shapes.length cs, .slice af p.funcs.length cf], .int .i64 n] w fun e w' => e = .returned (.int .i64 (k : Int)) ∧ Below w.heap.size w w' := by
  obtain rfl := hk.out
  clear hk
  obtain ⟨wa, hwa⟩ : ∃ wa, w.alloc (.cells #[.slice ag p.glob.length cg, .slice az p.shapes.length cs, .slice af p.funcs.length cf] 26) = wa := ⟨_, rfl⟩
  have hA : Below w.heap.size w wa := hwa ▸ (Below.refl _ _).alloc (Nat.le_refl _) _
  have d0 : wa.cell? ⟨w.heap.size, 0, none⟩ = some (.slice ag p.glob.length cg) := hwa ▸ cell_new w _ _ rfl
  have d1 : wa.cell? ⟨w.heap.size, 1, none⟩ = some (.slice az p.shapes.length cs) := hwa ▸ cell_new w _ _ rfl
  have d2 : wa.cell? ⟨w.heap.size, 2, none⟩ = some (.slice af p.funcs.length cf) := hwa ▸ cell_new w _ _ rfl
  have HH : Hid (PgV Any wa (.slice ag p.glob.length cg) (.slice az p.shapes.length cs) (.slice af p.funcs.length cf) p) := h.below hA
  have HA : Hid (Below w.heap.size w wa) := hA
  clear h hA
  cases hf : fnAt p n with
  | none =>
    have hk : arN p n = 0 := by unfold arN; rw [hf]
    have HF : Hid (fnAt p n = none) := hf
    rw [hk]
    clear hf hk
    go_enter Try.func94, Try.ntmps94
    go_wp2_with fail
    refine (function_none p ag az af cg cs cf HF _).mono ?_
    rintro e w1 ⟨rfl, hb⟩
    have HB : Hid (Below w.heap.size w (w1.alloc (.cells #[.slice none 0 0, .int .i64 0, .int .i64 0, .slice none 0 0, .slice none 0 0] 41))) := (HA.out.trans (hb.mono HA.out.size)).alloc (Nat.le_trans HA.out.size hb.size) _
    clear hb
    go_wp2_with fail
    go_ret
    exact ⟨rfl, HB.out⟩
  | some f =>
    have hk : arN p n = f.args.length := by unfold arN; rw [hf]
    have HF : Hid (fnAt p n = some f) := hf
    rw [hk]
    clear hf hk
    go_enter Try.func94, Try.ntmps94
    go_wp2_with fail
    refine (function_some p ag az af cg cs cf HF _ HH.out).mono ?_
    rintro e w1 ⟨a0, a3, a4, c0, c3, c4, rfl, _, hb⟩
    have HB : Hid (Below w.heap.size w (w1.alloc (.cells #[.slice a0 f.args.length c0, .int .i64 f.res, .int .i64 f.slots, .slice a3 f.objs.length c3, .slice a4 f.code.length c4] 41))) := (HA.out.trans (hb.mono HA.out.size)).alloc (Nat.le_trans HA.out.size hb.size) _
    clear hb
    go_wp2_with fail
    go_ret
    exact ⟨rfl, HB.out⟩

end Go.Proofs.Ytmjappcjfjajmaa

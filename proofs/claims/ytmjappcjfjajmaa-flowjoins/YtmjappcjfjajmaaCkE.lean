/- The walk of check's Instr. -/
import Derived.Test.YtmjappcjfjajmaaCkD
import Derived.Test.YtmjappcjfjajmaaCkW
namespace Go.Proofs.Ytmjappcjfjajmaa
open Go.RowKit

theorem form_kn {p : Pg} {f : Fn} {i : Ins} (h : formB p f i = true) : kn i.o = true := by
  unfold formB at h
  simp only [Bool.and_eq_true] at h
  exact h.1
theorem plac_call {p : Pg} {f : Fn} {io ia ib ic : Int} (h : placB p f ⟨io, ia, ib, ic⟩ = true) (ho : io = 21 ∨ io = 23 ∨ io = 24) : ∃ g, fnAt p ib = some g := by
  have h1 : inB ib p.funcs.length = true := by
    unfold placB at h
    simp only [Bool.and_eq_true] at h
    rcases ho with rfl | rfl | rfl <;> exact h.2.1
  rw [fnAt_inB] at h1
  exact Option.isSome_iff_exists.1 h1
theorem insE_two {p : Pg} {f : Fn} {i : Ins} (h : formB p f i = false) : insE p f i = 2 := by unfold insE; rw [h]; rfl
theorem insE_four {p : Pg} {f : Fn} {i : Ins} (h : formB p f i = true) (h2 : placB p f i = false) : insE p f i = 4 := by unfold insE; rw [h, h2]; rfl
theorem insE_three {p : Pg} {f : Fn} {i : Ins} (h : formB p f i = true) (h2 : placB p f i = true) (h3 : kindB p i = false) : insE p f i = 3 := by unfold insE; rw [h, h2, h3]; rfl
theorem insE_none {p : Pg} {f : Fn} {i : Ins} (h : formB p f i = true) (h2 : placB p f i = true) (h3 : kindB p i = true) : insE p f i = 0 := by unfold insE; rw [h, h2, h3]; rfl

theorem SrcJ.some {P : Nat → Prop} {w : World} {a : Option Addr} {n c j : Nat} {L : List Ins} {i : Ins} (h : SrcJ P w (.slice a n c) L) (hj : L[j]? = some i) : ∃ b off, a = some ⟨b, off, none⟩ ∧ b < w.heap.size ∧ InsAt w b (off + j * 4) i := by
  rcases h with ⟨rfl, _⟩ | ⟨b, off, c', h1, _, h2, h3⟩
  · simp at hj
  · cases h1
    exact ⟨b, off, rfl, h2, h3 j i hj⟩

def plC (fn pc : Int) (k : Nat) : Value := if k = 0 then .int .i64 fn else .int .i64 pc
theorem pl_box (w : World) (fn pc : Int) : (w.alloc (.cells #[.int .i64 fn, .int .i64 pc] 34)).rowIs w.heap.size 34 2 (plC fn pc) :=
  World.rowIs_alloc w #[.int .i64 fn, .int .i64 pc] 34 _ (fun k hk => by
    have : k = 0 ∨ k = 1 := by simp at hk; omega
    rcases this with rfl | rfl <;> rfl)

/-- A program's box and a place's at the end of w. -/
structure OnQ (w wk : World) (fn pc : Int) (p : Pg) (ag az af : Option Addr) (cg cs cf : Nat) : Prop where
  low : Below w.heap.size w wk
  rp : wk.rowIs w.heap.size 26 3 (pgC (.slice ag p.glob.length cg) (.slice az p.shapes.length cs) (.slice af p.funcs.length cf))
  rq : wk.rowIs (w.heap.size + 1) 34 2 (plC fn pc)
  pp : PgV Any wk (.slice ag p.glob.length cg) (.slice az p.shapes.length cs) (.slice af p.funcs.length cf) p
section
variable {p : Pg} {f : Fn} {fn pc : Int} {ag az af a0 a3 a4 : Option Addr} {cg cs cf c0 c3 c4 : Nat} {w wk w2 : World} {fb : Nat}
theorem OnQ.below (h : OnQ w wk fn pc p ag az af cg cs cf) (hb : Below wk.heap.size wk w2) : OnQ w w2 fn pc p ag az af cg cs cf :=
  ⟨h.low.trans (hb.mono h.low.size), h.rp.of_block (hb.block _ h.rp.lt), h.rq.of_block (hb.block _ h.rq.lt), h.pp.below hb⟩
theorem OnQ.c (h : OnQ w wk fn pc p ag az af cg cs cf) : wk.cell? ⟨w.heap.size, 0, none⟩ = some (.slice ag p.glob.length cg) ∧ wk.cell? ⟨w.heap.size, 1, none⟩ = some (.slice az p.shapes.length cs) ∧ wk.cell? ⟨w.heap.size, 2, none⟩ = some (.slice af p.funcs.length cf) ∧
    wk.cell? ⟨w.heap.size + 1, 0, none⟩ = some (.int .i64 fn) ∧ wk.cell? ⟨w.heap.size + 1, 1, none⟩ = some (.int .i64 pc) :=
  ⟨h.rp.cell (i := 0) (by decide), h.rp.cell (i := 1) (by decide), h.rp.cell (i := 2) (by decide), h.rq.cell (i := 0) (by decide), h.rq.cell (i := 1) (by decide)⟩
theorem onQ_start {wp : World} (hwp : (w.alloc (.cells #[.slice ag p.glob.length cg, .slice az p.shapes.length cs, .slice af p.funcs.length cf] 26)).alloc (.cells #[.int .i64 fn, .int .i64 pc] 34) = wp) (hp : PgV Any w (.slice ag p.glob.length cg) (.slice az p.shapes.length cs) (.slice af p.funcs.length cf) p) : OnQ w wp fn pc p ag az af cg cs cf := by
  have hA : Below w.heap.size w wp := hwp ▸ ((Below.refl _ _).alloc (Nat.le_refl _) _).alloc (by simp) _
  subst hwp
  refine ⟨hA, (pg_box w _ _ _ ag az af cg cs cf).alloc _, ?_, hp.below hA⟩
  have := pl_box (w.alloc (.cells #[.slice ag p.glob.length cg, .slice az p.shapes.length cs, .slice af p.funcs.length cf] 26)) fn pc
  rw [World.size_alloc] at this
  exact this
end
/-- A function's box beside. -/
structure OnI (w wk : World) (fb : Nat) (fn pc : Int) (p : Pg) (f : Fn) (ag az af : Option Addr) (cg cs cf : Nat) (a0 a3 a4 : Option Addr) (c0 c3 c4 : Nat) : Prop where
  q : OnQ w wk fn pc p ag az af cg cs cf
  rf : wk.rowIs fb 41 5 (fnC f a0 a3 a4 c0 c3 c4)
  ff : FnC Any wk f (.slice a0 f.args.length c0) (.int .i64 f.res) (.int .i64 f.slots) (.slice a3 f.objs.length c3) (.slice a4 f.code.length c4)
section
variable {p : Pg} {f : Fn} {fn pc : Int} {ag az af a0 a3 a4 : Option Addr} {cg cs cf c0 c3 c4 : Nat} {w wk w2 : World} {fb : Nat}
theorem OnI.below (h : OnI w wk fb fn pc p f ag az af cg cs cf a0 a3 a4 c0 c3 c4) (hb : Below wk.heap.size wk w2) : OnI w w2 fb fn pc p f ag az af cg cs cf a0 a3 a4 c0 c3 c4 := ⟨h.q.below hb, h.rf.of_block (hb.block _ h.rf.lt), h.ff.below hb⟩
theorem OnI.c (h : OnI w wk fb fn pc p f ag az af cg cs cf a0 a3 a4 c0 c3 c4) : wk.cell? ⟨fb, 0, none⟩ = some (.slice a0 f.args.length c0) ∧ wk.cell? ⟨fb, 1, none⟩ = some (.int .i64 f.res) ∧ wk.cell? ⟨fb, 2, none⟩ = some (.int .i64 f.slots) ∧ wk.cell? ⟨fb, 3, none⟩ = some (.slice a3 f.objs.length c3) ∧ wk.cell? ⟨fb, 4, none⟩ = some (.slice a4 f.code.length c4) :=
  ⟨h.rf.cell (i := 0) (by decide), h.rf.cell (i := 1) (by decide), h.rf.cell (i := 2) (by decide), h.rf.cell (i := 3) (by decide), h.rf.cell (i := 4) (by decide)⟩
end
theorem onI_start {p : Pg} {f : Fn} {fn pc : Int} {ag az af a0 a3 a4 : Option Addr} {cg cs cf c0 c3 c4 : Nat} {w wk : World} (h : OnQ w wk fn pc p ag az af cg cs cf) (hf : FnC Any wk f (.slice a0 f.args.length c0) (.int .i64 f.res) (.int .i64 f.slots) (.slice a3 f.objs.length c3) (.slice a4 f.code.length c4)) : OnI w (wk.alloc (.cells #[.slice a0 f.args.length c0, .int .i64 f.res, .int .i64 f.slots, .slice a3 f.objs.length c3, .slice a4 f.code.length c4] 41)) wk.heap.size fn pc p f ag az af cg cs cf a0 a3 a4 c0 c3 c4 :=
  have hb : Below wk.heap.size wk (wk.alloc (.cells #[.slice a0 f.args.length c0, .int .i64 f.res, .int .i64 f.slots, .slice a3 f.objs.length c3, .slice a4 f.code.length c4] 41)) := (Below.refl _ _).alloc (Nat.le_refl _) _
  ⟨h.below hb, fn_box wk f a0 a3 a4 c0 c3 c4, hf.below hb⟩

theorem FitP.slots {p : Pg} (h : FitP p) {n : Int} {f : Fn} (hf : fnAt p n = some f) : f.slots ≤ 9223372036854775807 := by
  obtain ⟨j, _, _, hj⟩ := fnAt_some hf
  have := h.sl f (List.mem_of_getElem? hj)
  exact (bounds_i64 this).2
theorem Len.at {p : Pg} (h : Len p) {n : Int} {f : Fn} (hf : fnAt p n = some f) : f.args.length ≤ maxLen ∧ f.objs.length ≤ maxLen ∧ f.code.length ≤ maxLen := by
  obtain ⟨j, _, _, hj⟩ := fnAt_some hf
  exact h.ef f (List.mem_of_getElem? hj)

set_option maxRecDepth 100000 in
set_option maxHeartbeats 4000000 in
theorem instr_out (p : Pg) (ag az af : Option Addr) (cg cs cf : Nat) {fn pc : Int} (ho : fnAt p fn = none ∨ ∃ f, fnAt p fn = some f ∧ inAt f pc = none) (w : World) (hp : PgV Any w (.slice ag p.glob.length cg) (.slice az p.shapes.length cs) (.slice af p.funcs.length cf) p) :
    Calls Try.prog 28 #[.agg #[.slice ag p.glob.length cg, .slice az p.shapes.length cs, .slice af p.funcs.length cf], .agg #[.int .i64 fn, .int .i64 pc]] w fun e w' => e = .returned (.int .i64 1) ∧ Below w.heap.size w w' := by
  obtain ⟨wp, hwp⟩ : ∃ wp, (w.alloc (.cells #[.slice ag p.glob.length cg, .slice az p.shapes.length cs, .slice af p.funcs.length cf] 26)).alloc (.cells #[.int .i64 fn, .int .i64 pc] 34) = wp := ⟨_, rfl⟩
  have HQ : Hid (OnQ w wp fn pc p ag az af cg cs cf) := onQ_start hwp hp
  obtain ⟨d0, d1, d2, d3, d4⟩ := HQ.out.c
  clear hp
  rcases ho with hf | ⟨f, hf, hi⟩
  · have HF : Hid (fnAt p fn = none) := hf
    clear hf
    go_enter Try.func28, Try.ntmps28
    go_wp2_with fail
    refine (function_none p ag az af cg cs cf HF _).mono ?_
    rintro e w1 ⟨rfl, hb⟩
    have HB : Hid (Below w.heap.size w (w1.alloc (.cells #[.slice none 0 0, .int .i64 0, .int .i64 0, .slice none 0 0, .slice none 0 0] 41))) := (HQ.out.below hb).low.alloc (HQ.out.below hb).low.size _
    clear hb d0 d1 d2 d3 d4
    go_wp2_with fail
    go_ret
    exact ⟨rfl, HB.out⟩
  · have HF : Hid (fnAt p fn = some f) := hf
    have HI : Hid (inB pc f.code.length = false) := by
      unfold Hid inB
      rcases inAt_none hi with h | h
      · simp [show ¬ 0 ≤ pc by omega]
      · simp [show ¬ pc < (f.code.length : Int) by omega]
    clear hf hi
    go_enter Try.func28, Try.ntmps28
    go_wp2_with fail
    refine (function_some p ag az af cg cs cf HF _ HQ.out.pp).mono ?_
    rintro e w1 ⟨a0, a3, a4, c0, c3, c4, rfl, hfc, hb⟩
    have HN : Hid (OnI w (w1.alloc (.cells #[.slice a0 f.args.length c0, .int .i64 f.res, .int .i64 f.slots, .slice a3 f.objs.length c3, .slice a4 f.code.length c4] 41)) w1.heap.size fn pc p f ag az af cg cs cf a0 a3 a4 c0 c3 c4) := onI_start (HQ.out.below hb) (hfc.below hb)
    obtain ⟨wf, hwf⟩ : ∃ wf, w1.alloc (.cells #[.slice a0 f.args.length c0, .int .i64 f.res, .int .i64 f.slots, .slice a3 f.objs.length c3, .slice a4 f.code.length c4] 41) = wf := ⟨_, rfl⟩
    obtain ⟨fb, hfb⟩ : ∃ fb, w1.heap.size = fb := ⟨_, rfl⟩
    rw [hwf, hfb] at HN
    clear hb d0 d1 d2 d3 d4 hfc
    obtain ⟨d0, d1, d2, d3, d4⟩ := HN.out.q.c
    obtain ⟨f0, f1, f2, f3, f4⟩ := HN.out.c
    go_wp2_with fail
    refine (within_any HI _).mono ?_
    rintro e w2 ⟨rfl, rfl⟩
    go_wp2_with fail
    go_ret
    exact ⟨rfl, HN.out.q.low⟩

set_option maxRecDepth 100000 in
set_option maxHeartbeats 8000000 in
theorem instr_in (p : Pg) (ag az af : Option Addr) (cg cs cf : Nat) {fn pc : Int} {f : Fn} {io ia ib ic : Int} (hf : Hid (fnAt p fn = some f)) (hi : Hid (inAt f pc = some ⟨io, ia, ib, ic⟩)) (HLF : Hid (Len p ∧ FitP p)) (w : World) (hp : PgV Any w (.slice ag p.glob.length cg) (.slice az p.shapes.length cs) (.slice af p.funcs.length cf) p) :
    Calls Try.prog 28 #[.agg #[.slice ag p.glob.length cg, .slice az p.shapes.length cs, .slice af p.funcs.length cf], .agg #[.int .i64 fn, .int .i64 pc]] w fun e w' => e = .returned (.int .i64 (insE p f ⟨io, ia, ib, ic⟩)) ∧ Below w.heap.size w w' := by
  obtain ⟨wp, hwp⟩ : ∃ wp, (w.alloc (.cells #[.slice ag p.glob.length cg, .slice az p.shapes.length cs, .slice af p.funcs.length cf] 26)).alloc (.cells #[.int .i64 fn, .int .i64 pc] 34) = wp := ⟨_, rfl⟩
  have HQ : Hid (OnQ w wp fn pc p ag az af cg cs cf) := onQ_start hwp hp
  obtain ⟨d0, d1, d2, d3, d4⟩ := HQ.out.c
  have HFs : Hid (f.slots ≤ 9223372036854775807) := HLF.out.2.slots hf.out
  obtain ⟨j, rfl, hj, hij⟩ := inAt_some hi.out
  have HI : Hid (inB (j : Int) f.code.length = true) := by
    unfold Hid inB
    simp [hj]
  have HIJ : Hid (f.code[j]? = some ⟨io, ia, ib, ic⟩) := hij
  have hjI : (j : Int) < (f.code.length : Int) := by omega
  clear hp hi hij
  go_enter Try.func28, Try.ntmps28
  go_wp2_with fail
  refine (function_some p ag az af cg cs cf hf _ HQ.out.pp).mono ?_
  rintro e w1 ⟨a0, a3, a4, c0, c3, c4, rfl, hfc, hb⟩
  have HN : Hid (OnI w (w1.alloc (.cells #[.slice a0 f.args.length c0, .int .i64 f.res, .int .i64 f.slots, .slice a3 f.objs.length c3, .slice a4 f.code.length c4] 41)) w1.heap.size fn (j : Int) p f ag az af cg cs cf a0 a3 a4 c0 c3 c4) := onI_start (HQ.out.below hb) (hfc.below hb)
  obtain ⟨wf, hwf⟩ : ∃ wf, w1.alloc (.cells #[.slice a0 f.args.length c0, .int .i64 f.res, .int .i64 f.slots, .slice a3 f.objs.length c3, .slice a4 f.code.length c4] 41) = wf := ⟨_, rfl⟩
  obtain ⟨fb, hfb⟩ : ∃ fb, w1.heap.size = fb := ⟨_, rfl⟩
  rw [hwf, hfb] at HN
  clear hb d0 d1 d2 d3 d4 hfc
  obtain ⟨d0, d1, d2, d3, d4⟩ := HN.out.q.c
  obtain ⟨f0, f1, f2, f3, f4⟩ := HN.out.c
  obtain ⟨kb, off, rfl, hkb, i0, i1, i2, i3⟩ := HN.out.ff.code.some HIJ.out
  go_wp2_with fail
  refine (within_any HI _).mono ?_
  rintro e w2 ⟨rfl, rfl⟩
  clear hwf hfb hwp HQ
  go_upto_region 4 with (fail)
  go_region_held3 (fun w' => (w'.cell? ⟨w.heap.size, 0, none⟩ = some (.slice ag p.glob.length cg) ∧ w'.cell? ⟨w.heap.size, 1, none⟩ = some (.slice az p.shapes.length cs) ∧ w'.cell? ⟨w.heap.size, 2, none⟩ = some (.slice af p.funcs.length cf) ∧ w'.cell? ⟨w.heap.size + 1, 1, none⟩ = some (.int .i64 (j : Int))) ∧
      (w'.cell? ⟨fb, 0, none⟩ = some (.slice a0 f.args.length c0) ∧ w'.cell? ⟨fb, 1, none⟩ = some (.int .i64 f.res) ∧ w'.cell? ⟨fb, 2, none⟩ = some (.int .i64 f.slots) ∧ w'.cell? ⟨fb, 3, none⟩ = some (.slice a3 f.objs.length c3) ∧ w'.cell? ⟨fb, 4, none⟩ = some (.slice (some ⟨kb, off, none⟩) f.code.length c4)) ∧
      w'.cell? ⟨kb, off + j * 4, none⟩ = some (.int .i64 io) ∧ w'.cell? ⟨kb, off + j * 4 + 1, none⟩ = some (.int .i64 ia) ∧ w'.cell? ⟨kb, off + j * 4 + 2, none⟩ = some (.int .i64 ib) ∧ w'.cell? ⟨kb, off + j * 4 + 3, none⟩ = some (.int .i64 ic)) (go_keep) (fail)
  have hs0 := onS_start p f io ia ib ic ag az af cg cs cf a0 a3 (Option.some ⟨kb, off, none⟩) c0 c3 c4 (w := w2) rfl HN.out.q.pp HN.out.ff
  have hs1 : OnS w _ w2.heap.size p f io ia ib ic ag az af cg cs cf a0 a3 (Option.some ⟨kb, off, none⟩) c0 c3 c4 := ⟨HN.out.q.low.trans (hs0.low.mono HN.out.q.low.size), hs0.box, hs0.pp, hs0.ff⟩
  have HS := hs1.drewN 1
  clear hs0 hs1 d0 d1 d2 d3 d4 f0 f1 f2 f3 f4 i0 i1 i2 i3 hkb hj hjI HIJ HI
  change OnS w (World.drew _) _ _ _ _ _ _ _ _ _ _ _ _ _ _ _ _ _ _ _ at HS
  generalize (w2.alloc (.cells #[.slice ag p.glob.length cg, .slice az p.shapes.length cs, .slice af p.funcs.length cf, .slice a0 f.args.length c0, .int .i64 f.res, .int .i64 f.slots, .slice a3 f.objs.length c3, .slice (Option.some ⟨kb, off, none⟩) f.code.length c4, .int .i64 io, .int .i64 ia, .int .i64 ib, .int .i64 ic] 83)).drew = ws at *
  generalize w2.heap.size = bs at *
  have HS : Hid (OnS w ws bs p f io ia ib ic ag az af cg cs cf a0 a3 (Option.some ⟨kb, off, none⟩) c0 c3 c4) := HS
  clear HN
  generalize (Option.some ⟨kb, off, none⟩ : Option Addr) = a4 at *
  obtain ⟨d0, d1, d2, d3, d4, d5, d6, d7, d8, d9, d10, d11⟩ := HS.out.box.c
  obtain ⟨t1, ht1⟩ : ∃ t, Hid (formB p f ⟨io, ia, ib, ic⟩ = t) := ⟨_, rfl⟩
  go_wp2_with fail
  refine (formed_any p f io ia ib ic ag az af cg cs cf a0 a3 a4 c0 c3 c4 ht1 _ HS.out.pp HS.out.ff).mono ?_
  rintro e w3 ⟨rfl, hb⟩
  have HS3 : Hid (OnS w w3 bs p f io ia ib ic ag az af cg cs cf a0 a3 a4 c0 c3 c4) := HS.out.below hb
  clear hb HS d0 d1 d2 d3 d4 d5 d6 d7 d8 d9 d10 d11
  obtain ⟨d0, d1, d2, d3, d4, d5, d6, d7, d8, d9, d10, d11⟩ := HS3.out.box.c
  cases t1 with
  | false =>
    have HE : Hid (insE p f ⟨io, ia, ib, ic⟩ = 2) := insE_two ht1.out
    go_wp2_with fail
    go_ret
    exact ⟨ret_i HE.out.symm, HS3.out.low⟩
  | true =>
    have HKn : Hid (kn io = true) := form_kn ht1.out
    obtain ⟨t2, ht2⟩ : ∃ t, Hid (placB p f ⟨io, ia, ib, ic⟩ = t) := ⟨_, rfl⟩
    go_wp2_with fail
    refine (placed_any p f io ia ib ic ag az af cg cs cf a0 a3 a4 c0 c3 c4 ht2 HKn.out HFs.out _ HS3.out.pp HS3.out.ff).mono ?_
    rintro e w4 ⟨rfl, hb⟩
    have HS4 : Hid (OnS w w4 bs p f io ia ib ic ag az af cg cs cf a0 a3 a4 c0 c3 c4) := HS3.out.below hb
    clear hb HS3 d0 d1 d2 d3 d4 d5 d6 d7 d8 d9 d10 d11
    obtain ⟨d0, d1, d2, d3, d4, d5, d6, d7, d8, d9, d10, d11⟩ := HS4.out.box.c
    cases t2 with
    | false =>
      have HE : Hid (insE p f ⟨io, ia, ib, ic⟩ = 4) := insE_four ht1.out ht2.out
      go_wp2_with fail
      go_ret
      exact ⟨ret_i HE.out.symm, HS4.out.low⟩
    | true =>
      have HC : Hid (io = 23 ∨ io = 24 → ∃ g, fnAt p ib = Option.some g ∧ g.args.length ≤ maxLen) := fun h => by
        obtain ⟨g, hg⟩ := plac_call ht2.out (Or.inr h)
        exact ⟨g, hg, (HLF.out.1.at hg).1⟩
      obtain ⟨t3, ht3⟩ : ∃ t, Hid (kindB p ⟨io, ia, ib, ic⟩ = t) := ⟨_, rfl⟩
      go_wp2_with fail
      refine (kinded_any p f io ia ib ic ag az af cg cs cf a0 a3 a4 c0 c3 c4 ht3 HC.out _ HS4.out.pp HS4.out.ff).mono ?_
      rintro e w5 ⟨rfl, hb⟩
      have HS5 : Hid (OnS w w5 bs p f io ia ib ic ag az af cg cs cf a0 a3 a4 c0 c3 c4) := HS4.out.below hb
      clear hb HS4 d0 d1 d2 d3 d4 d5 d6 d7 d8 d9 d10 d11
      cases t3 with
      | false =>
        have HE : Hid (insE p f ⟨io, ia, ib, ic⟩ = 3) := insE_three ht1.out ht2.out ht3.out
        go_wp2_with fail
        go_ret
        exact ⟨ret_i HE.out.symm, HS5.out.low⟩
      | true =>
        have HE : Hid (insE p f ⟨io, ia, ib, ic⟩ = 0) := insE_none ht1.out ht2.out ht3.out
        go_wp2_with fail
        go_ret
        exact ⟨ret_i HE.out.symm, HS5.out.low⟩

theorem instr_any (p : Pg) (ag az af : Option Addr) (cg cs cf : Nat) {fn pc s : Int} (hs : Hid (insAt p fn pc = s)) (hl : Hid (Len p ∧ FitP p)) (w : World) (hp : PgV Any w (.slice ag p.glob.length cg) (.slice az p.shapes.length cs) (.slice af p.funcs.length cf) p) :
    Calls Try.prog 28 #[.agg #[.slice ag p.glob.length cg, .slice az p.shapes.length cs, .slice af p.funcs.length cf], .agg #[.int .i64 fn, .int .i64 pc]] w fun e w' => e = .returned (.int .i64 s) ∧ Below w.heap.size w w' := by
  obtain rfl := hs.out
  cases hf : fnAt p fn with
  | none =>
    have e : insAt p fn pc = 1 := by unfold insAt; rw [hf]
    rw [e]
    exact instr_out p ag az af cg cs cf (Or.inl hf) w hp
  | some f =>
    cases hi : inAt f pc with
    | none =>
      have e : insAt p fn pc = 1 := by unfold insAt; rw [hf]; simp only [hi]
      rw [e]
      exact instr_out p ag az af cg cs cf (Or.inr ⟨f, hf, hi⟩) w hp
    | some i =>
      have e : insAt p fn pc = insE p f i := by unfold insAt; rw [hf]; simp only [hi]
      rw [e]
      obtain ⟨io, ia, ib, ic⟩ := i
      exact instr_in p ag az af cg cs cf hf hi hl w hp

end Go.Proofs.Ytmjappcjfjajmaa

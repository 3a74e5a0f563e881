/- The walks of check's withinLimits, of its closures, of checkHead. -/
import Derived.Test.YtmjappcjfjajmaaCkE
namespace Go.Proofs.Ytmjappcjfjajmaa
open Go.RowKit

theorem all_not {α : Type} (p : α → Bool) : ∀ L : List α, L.any (fun x => !p x) = !(L.all p)
  | [] => rfl
  | x :: L => by
    rw [List.any_cons, List.all_cons, all_not p L]
    cases p x <;> rfl

set_option maxHeartbeats 1000000 in
theorem clF_any (p : Pg) (ag az af : Option Addr) (cg cs cf : Nat) (bp : Nat) (x : Int) (w : World) (d0 : w.cell? ⟨bp, 0, none⟩ = some (.slice ag p.glob.length cg)) (d1 : w.cell? ⟨bp, 1, none⟩ = some (.slice az p.shapes.length cs)) (d2 : w.cell? ⟨bp, 2, none⟩ = some (.slice af p.funcs.length cf)) :
    Calls Try.prog 79 #[.int .i64 x, .pointer (some ⟨bp, 0, none⟩)] w fun e w' => e = .returned (.bool (!fldB x p.shapes.length)) ∧ Below w.heap.size w w' := by
  obtain ⟨s, hs⟩ : ∃ s, Hid (fldB x p.shapes.length = s) := ⟨_, rfl⟩
  rw [hs.out]
  go_enter Try.func79, Try.ntmps79
  go_wp2_with fail
  refine (isField_any p ag az af cg cs cf hs _).mono ?_
  rintro e w' ⟨rfl, hb⟩
  have HB : Hid (Below w.heap.size w w') := hb
  clear hb
  go_wp2_with fail
  go_ret
  exact ⟨rfl, HB.out⟩
theorem clV_any (p : Pg) (az : Option Addr) (cs : Nat) (bp : Nat) (x : Int) (w : World) (d1 : w.cell? ⟨bp, 1, none⟩ = some (.slice az p.shapes.length cs)) :
    Calls Try.prog 91 #[.int .i64 x, .pointer (some ⟨bp, 0, none⟩)] w fun e w' => e = .returned (.bool (!valB x p.shapes.length)) ∧ Below w.heap.size w w' := by
  obtain ⟨s, hs⟩ : ∃ s, Hid (valB x p.shapes.length = s) := ⟨_, rfl⟩
  rw [hs.out]
  go_enter Try.func91, Try.ntmps91
  go_wp2_with fail
  refine (valid_any hs _).mono ?_
  rintro e w' ⟨rfl, rfl⟩
  go_wp2_with fail
  go_ret
  exact ⟨rfl, Below.refl _ _⟩
theorem clO_any (p : Pg) (az : Option Addr) (cs : Nat) (bp : Nat) (x : Int) (w : World) (d1 : w.cell? ⟨bp, 1, none⟩ = some (.slice az p.shapes.length cs)) :
    Calls Try.prog 93 #[.int .i64 x, .pointer (some ⟨bp, 0, none⟩)] w fun e w' => e = .returned (.bool (!inB x p.shapes.length)) ∧ Below w.heap.size w w' := by
  obtain ⟨s, hs⟩ : ∃ s, Hid (inB x p.shapes.length = s) := ⟨_, rfl⟩
  rw [hs.out]
  go_enter Try.func93, Try.ntmps93
  go_wp2_with fail
  refine (within_any hs _).mono ?_
  rintro e w' ⟨rfl, rfl⟩
  go_wp2_with fail
  go_ret
  exact ⟨rfl, Below.refl _ _⟩

set_option maxHeartbeats 2000000 in
theorem limits_any (f : Fn) (a0 a3 a4 : Option Addr) (c0 c3 c4 : Nat) {s : Bool} (hs : Hid (limB f = s)) (w : World) : Calls Try.prog 90 #[.agg #[.slice a0 f.args.length c0, .int .i64 f.res, .int .i64 f.slots, .slice a3 f.objs.length c3, .slice a4 f.code.length c4]] w fun e w' => e = .returned (.bool s) ∧ Below w.heap.size w w' := by
  have HB : Hid (Below w.heap.size w (w.alloc (.cells #[.slice a0 f.args.length c0, .int .i64 f.res, .int .i64 f.slots, .slice a3 f.objs.length c3, .slice a4 f.code.length c4] 41))) := (Below.refl _ _).alloc (Nat.le_refl _) _
  by_cases h0 : (f.args.length : Int) ≤ f.slots
  · by_cases h1 : f.slots ≤ 16
    · by_cases h2 : f.objs.length ≤ 8
      · by_cases h3 : 1 ≤ f.code.length
        · by_cases h4 : f.code.length ≤ 64
          all_goals
            have HS : Hid (decide (f.code.length ≤ 64) = s) := by
              unfold Hid
              rw [← hs.out]
              unfold limB
              rw [decide_eq_true h0, decide_eq_true h1, decide_eq_true h2, decide_eq_true h3]
              rfl
            have h2' : (f.objs.length : Int) ≤ 8 := by omega
            have h3' : (1 : Int) ≤ (f.code.length : Int) := by omega
            first
              | have h4' : (f.code.length : Int) ≤ 64 := by omega
              | have h4' : ¬ (f.code.length : Int) ≤ 64 := by omega
            clear hs
            go_enter Try.func90, Try.ntmps90
            go_wp2_with fail
            go_ret
            exact ⟨ret_bool (by rw [← HS.out]; simp_all), HB.out⟩
        · have HS : Hid (false = s) := by unfold Hid; rw [← hs.out]; unfold limB; rw [decide_eq_false h3]; simp
          have h2' : (f.objs.length : Int) ≤ 8 := by omega
          have h3' : ¬ (1 : Int) ≤ (f.code.length : Int) := by omega
          clear hs
          go_enter Try.func90, Try.ntmps90
          go_wp2_with fail
          go_ret
          exact ⟨ret_bool HS.out, HB.out⟩
      · have HS : Hid (false = s) := by unfold Hid; rw [← hs.out]; unfold limB; rw [decide_eq_false h2]; simp
        have h2' : ¬ (f.objs.length : Int) ≤ 8 := by omega
        clear hs
        go_enter Try.func90, Try.ntmps90
        go_wp2_with fail
        go_ret
        exact ⟨ret_bool HS.out, HB.out⟩
    · have HS : Hid (false = s) := by unfold Hid; rw [← hs.out]; unfold limB; rw [decide_eq_false h1]; simp
      clear hs
      go_enter Try.func90, Try.ntmps90
      go_wp2_with fail
      go_ret
      exact ⟨ret_bool HS.out, HB.out⟩
  · have HS : Hid (false = s) := by unfold Hid; rw [← hs.out]; unfold limB; rw [decide_eq_false h0]; simp
    clear hs
    go_enter Try.func90, Try.ntmps90
    go_wp2_with fail
    go_ret
    exact ⟨ret_bool HS.out, HB.out⟩

/-- A program's box at the end of w. -/
structure OnR (w wk : World) (p : Pg) (ag az af : Option Addr) (cg cs cf : Nat) : Prop where
  low : Below w.heap.size w wk
  rp : wk.rowIs w.heap.size 26 3 (pgC (.slice ag p.glob.length cg) (.slice az p.shapes.length cs) (.slice af p.funcs.length cf))
  pp : PgV Any wk (.slice ag p.glob.length cg) (.slice az p.shapes.length cs) (.slice af p.funcs.length cf) p
/-- A function's box beside. -/
structure OnH (w wk : World) (fb : Nat) (p : Pg) (f : Fn) (ag az af : Option Addr) (cg cs cf : Nat) (a0 a3 a4 : Option Addr) (c0 c3 c4 : Nat) : Prop where
  q : OnR w wk p ag az af cg cs cf
  rf : wk.rowIs fb 41 5 (fnC f a0 a3 a4 c0 c3 c4)
  ff : FnC Any wk f (.slice a0 f.args.length c0) (.int .i64 f.res) (.int .i64 f.slots) (.slice a3 f.objs.length c3) (.slice a4 f.code.length c4)
section
variable {p : Pg} {f : Fn} {ag az af a0 a3 a4 : Option Addr} {cg cs cf c0 c3 c4 : Nat} {w wk w2 : World} {fb : Nat}
theorem OnR.below (h : OnR w wk p ag az af cg cs cf) (hb : Below wk.heap.size wk w2) : OnR w w2 p ag az af cg cs cf :=
  ⟨h.low.trans (hb.mono h.low.size), h.rp.of_block (hb.block _ h.rp.lt), h.pp.below hb⟩
theorem OnR.c (h : OnR w wk p ag az af cg cs cf) : wk.cell? ⟨w.heap.size, 0, none⟩ = some (.slice ag p.glob.length cg) ∧ wk.cell? ⟨w.heap.size, 1, none⟩ = some (.slice az p.shapes.length cs) ∧ wk.cell? ⟨w.heap.size, 2, none⟩ = some (.slice af p.funcs.length cf) :=
  ⟨h.rp.cell (i := 0) (by decide), h.rp.cell (i := 1) (by decide), h.rp.cell (i := 2) (by decide)⟩
theorem onR_start {wp : World} (hwp : w.alloc (.cells #[.slice ag p.glob.length cg, .slice az p.shapes.length cs, .slice af p.funcs.length cf] 26) = wp) (hp : PgV Any w (.slice ag p.glob.length cg) (.slice az p.shapes.length cs) (.slice af p.funcs.length cf) p) : OnR w wp p ag az af cg cs cf := by
  have hA : Below w.heap.size w wp := hwp ▸ (Below.refl _ _).alloc (Nat.le_refl _) _
  subst hwp
  exact ⟨hA, pg_box w _ _ _ ag az af cg cs cf, hp.below hA⟩
theorem OnH.below (h : OnH w wk fb p f ag az af cg cs cf a0 a3 a4 c0 c3 c4) (hb : Below wk.heap.size wk w2) : OnH w w2 fb p f ag az af cg cs cf a0 a3 a4 c0 c3 c4 := ⟨h.q.below hb, h.rf.of_block (hb.block _ h.rf.lt), h.ff.below hb⟩
theorem OnH.c (h : OnH w wk fb p f ag az af cg cs cf a0 a3 a4 c0 c3 c4) : wk.cell? ⟨fb, 0, none⟩ = some (.slice a0 f.args.length c0) ∧ wk.cell? ⟨fb, 1, none⟩ = some (.int .i64 f.res) ∧ wk.cell? ⟨fb, 2, none⟩ = some (.int .i64 f.slots) ∧ wk.cell? ⟨fb, 3, none⟩ = some (.slice a3 f.objs.length c3) ∧ wk.cell? ⟨fb, 4, none⟩ = some (.slice a4 f.code.length c4) :=
  ⟨h.rf.cell (i := 0) (by decide), h.rf.cell (i := 1) (by decide), h.rf.cell (i := 2) (by decide), h.rf.cell (i := 3) (by decide), h.rf.cell (i := 4) (by decide)⟩
theorem onH_start (h : OnR w wk p ag az af cg cs cf) (hf : FnC Any wk f (.slice a0 f.args.length c0) (.int .i64 f.res) (.int .i64 f.slots) (.slice a3 f.objs.length c3) (.slice a4 f.code.length c4)) : OnH w (wk.alloc (.cells #[.slice a0 f.args.length c0, .int .i64 f.res, .int .i64 f.slots, .slice a3 f.objs.length c3, .slice a4 f.code.length c4] 41)) wk.heap.size p f ag az af cg cs cf a0 a3 a4 c0 c3 c4 :=
  have hb : Below wk.heap.size wk (wk.alloc (.cells #[.slice a0 f.args.length c0, .int .i64 f.res, .int .i64 f.slots, .slice a3 f.objs.length c3, .slice a4 f.code.length c4] 41)) := (Below.refl _ _).alloc (Nat.le_refl _) _
  ⟨h.below hb, fn_box wk f a0 a3 a4 c0 c3 c4, hf.below hb⟩
end

def headP (p : Pg) (fn : Int) : Int := match fnAt p fn with | none => 1 | some f => headE p f
theorem head_lim {p : Pg} {f : Fn} (h : limB f = false) : headE p f = 1 := by unfold headE; rw [h]; rfl
theorem head_args {p : Pg} {f : Fn} (h : limB f = true) (h2 : f.args.any (fun k => !valB k p.shapes.length) = true) : headE p f = 3 := by
  rw [all_not (fun k => valB k p.shapes.length)] at h2
  unfold headE
  rw [if_pos h, if_neg (by simpa using h2)]
theorem args_ok {p : Pg} {f : Fn} (h2 : f.args.any (fun k => !valB k p.shapes.length) = false) : f.args.all (fun k => valB k p.shapes.length) = true := by
  rw [all_not (fun k => valB k p.shapes.length)] at h2
  simpa using h2
theorem head_res {p : Pg} {f : Fn} (h : limB f = true) (h2 : f.args.any (fun k => !valB k p.shapes.length) = false) (h3 : (f.res != 0) = true) (h4 : fldB f.res p.shapes.length = false) : headE p f = 3 := by
  unfold headE
  rw [if_pos h, if_pos (args_ok h2), if_neg]
  simp only [bne_iff_ne] at h3
  rw [h4]
  simp [h3]
theorem head_objs {p : Pg} {f : Fn} {t : Bool} (h : limB f = true) (h2 : f.args.any (fun k => !valB k p.shapes.length) = false) (h3 : (f.res != 0) = false ∨ fldB f.res p.shapes.length = true) (ht : f.objs.any (fun s => !inB s p.shapes.length) = t) : headE p f = if t = true then 4 else 0 := by
  rw [all_not (fun s => inB s p.shapes.length)] at ht
  unfold headE
  rw [if_pos h, if_pos (args_ok h2), if_pos (h3.imp (fun h => by simpa using h) id), ← ht]
  cases f.objs.all (fun s => inB s p.shapes.length) <;> rfl

set_option maxRecDepth 100000 in
set_option maxHeartbeats 4000000 in
theorem checkHead_none (p : Pg) (ag az af : Option Addr) (cg cs cf : Nat) {fn : Int} (hf : Hid (fnAt p fn = none)) (w : World) (hp : PgV Any w (.slice ag p.glob.length cg) (.slice az p.shapes.length cs) (.slice af p.funcs.length cf) p) :
    Calls Try.prog 81 #[.agg #[.slice ag p.glob.length cg, .slice az p.shapes.length cs, .slice af p.funcs.length cf], .int .i64 fn] w fun e w' => e = .returned (.int .i64 1) ∧ Below w.heap.size w w' := by
  obtain ⟨wp, hwp⟩ : ∃ wp, w.alloc (.cells #[.slice ag p.glob.length cg, .slice az p.shapes.length cs, .slice af p.funcs.length cf] 26) = wp := ⟨_, rfl⟩
  have HQ : Hid (OnR w wp p ag az af cg cs cf) := onR_start hwp hp
  obtain ⟨d0, d1, d2⟩ := HQ.out.c
  clear hp
  go_enter Try.func81, Try.ntmps81
  go_wp2_with fail
  refine (function_none p ag az af cg cs cf hf _).mono ?_
  rintro e w1 ⟨rfl, hb⟩
  have HB : Hid (Below w.heap.size w (w1.alloc (.cells #[.slice none 0 0, .int .i64 0, .int .i64 0, .slice none 0 0, .slice none 0 0] 41))) := (HQ.out.below hb).low.alloc (HQ.out.below hb).low.size _
  clear hb d0 d1 d2
  go_wp2_with fail
  go_ret
  exact ⟨rfl, HB.out⟩

set_option maxRecDepth 100000 in
set_option maxHeartbeats 4000000 in
theorem checkHead_some (p : Pg) (ag az af : Option Addr) (cg cs cf : Nat) {fn : Int} {f : Fn} (hf : Hid (fnAt p fn = some f)) (HLF : Hid (Len p ∧ FitP p)) (w : World) (hp : PgV Any w (.slice ag p.glob.length cg) (.slice az p.shapes.length cs) (.slice af p.funcs.length cf) p) :
    Calls Try.prog 81 #[.agg #[.slice ag p.glob.length cg, .slice az p.shapes.length cs, .slice af p.funcs.length cf], .int .i64 fn] w fun e w' => e = .returned (.int .i64 (headE p f)) ∧ Below w.heap.size w w' := by
  obtain ⟨wp, hwp⟩ : ∃ wp, w.alloc (.cells #[.slice ag p.glob.length cg, .slice az p.shapes.length cs, .slice af p.funcs.length cf] 26) = wp := ⟨_, rfl⟩
  have HQ : Hid (OnR w wp p ag az af cg cs cf) := onR_start hwp hp
  have HLn : Hid (f.args.length ≤ maxLen ∧ f.objs.length ≤ maxLen ∧ f.code.length ≤ maxLen) := HLF.out.1.at hf.out
  obtain ⟨d0, d1, d2⟩ := HQ.out.c
  clear hp
  go_enter Try.func81, Try.ntmps81
  go_wp2_with fail
  refine (function_some p ag az af cg cs cf hf _ HQ.out.pp).mono ?_
  rintro e w1 ⟨a0, a3, a4, c0, c3, c4, rfl, hfc, hb⟩
  have HN : Hid (OnH w (w1.alloc (.cells #[.slice a0 f.args.length c0, .int .i64 f.res, .int .i64 f.slots, .slice a3 f.objs.length c3, .slice a4 f.code.length c4] 41)) w1.heap.size p f ag az af cg cs cf a0 a3 a4 c0 c3 c4) := onH_start (HQ.out.below hb) (hfc.below hb)
  obtain ⟨wf, hwf⟩ : ∃ wf, w1.alloc (.cells #[.slice a0 f.args.length c0, .int .i64 f.res, .int .i64 f.slots, .slice a3 f.objs.length c3, .slice a4 f.code.length c4] 41) = wf := ⟨_, rfl⟩
  obtain ⟨fb, hfb⟩ : ∃ fb, w1.heap.size = fb := ⟨_, rfl⟩
  rw [hwf, hfb] at HN
  clear hb d0 d1 d2 hfc
  obtain ⟨d0, d1, d2⟩ := HN.out.q.c
  obtain ⟨f0, f1, f2, f3, f4⟩ := HN.out.c
  obtain ⟨t, ht⟩ : ∃ t, Hid (limB f = t) := ⟨_, rfl⟩
  go_wp2_with fail
  refine (limits_any f a0 a3 a4 c0 c3 c4 ht _).mono ?_
  rintro e w2 ⟨rfl, hb⟩
  have HN2 : Hid (OnH w w2 fb p f ag az af cg cs cf a0 a3 a4 c0 c3 c4) := HN.out.below hb
  clear hb d0 d1 d2 f0 f1 f2 f3 f4 HN hwf hfb hwp HQ
  cases t with
  | false =>
    have HE : Hid (headE p f = 1) := head_lim ht.out
    go_wp2_with fail
    go_ret
    exact ⟨ret_i HE.out.symm, HN2.out.q.low⟩
  | true =>
    obtain ⟨d0, d1, d2⟩ := HN2.out.q.c
    obtain ⟨f0, f1, f2, f3, f4⟩ := HN2.out.c
    obtain ⟨t2, ht2⟩ : ∃ t, Hid (f.args.any (fun k => !valB k p.shapes.length) = t) := ⟨_, rfl⟩
    have HD1 : Hid (∀ x w', Below w2.heap.size w2 w' → Calls Try.prog 91 #[.int .i64 x, .pointer (some ⟨w.heap.size, 0, none⟩)] w' fun e w'' => e = .returned (.bool (!valB x p.shapes.length)) ∧ Below w'.heap.size w' w'') := fun x w' hb' =>
      clV_any p az cs w.heap.size x w' ((HN2.out.q.below hb').c.2.1)
    go_wp2_with fail
    refine (containsV_any (.pointer (some ⟨w.heap.size, 0, none⟩)) (fun x => !valB x p.shapes.length) f.args ht2 a0 c0 _ HLn.out.1 HN2.out.ff.args.at_ HD1).mono ?_
    rintro e w3 ⟨rfl, hb⟩
    have HN3 : Hid (OnH w w3 fb p f ag az af cg cs cf a0 a3 a4 c0 c3 c4) := HN2.out.below hb
    clear hb d0 d1 d2 f0 f1 f2 f3 f4 HN2 HD1
    cases t2 with
    | true =>
      have HE : Hid (headE p f = 3) := head_args ht.out ht2.out
      go_wp2_with fail
      go_ret
      exact ⟨ret_i HE.out.symm, HN3.out.q.low⟩
    | false =>
      obtain ⟨d0, d1, d2⟩ := HN3.out.q.c
      obtain ⟨f0, f1, f2, f3, f4⟩ := HN3.out.c
      obtain ⟨r, hr⟩ : ∃ r, Hid ((f.res != 0) = r) := ⟨_, rfl⟩
      go_wp2_with fail
      refine (hasRes_any f a0 a3 a4 c0 c3 c4 hr _).mono ?_
      rintro e w4 ⟨rfl, hb⟩
      have HN4 : Hid (OnH w w4 fb p f ag az af cg cs cf a0 a3 a4 c0 c3 c4) := HN3.out.below hb
      clear hb d0 d1 d2 f0 f1 f2 f3 f4 HN3
      obtain ⟨d0, d1, d2⟩ := HN4.out.q.c
      obtain ⟨f0, f1, f2, f3, f4⟩ := HN4.out.c
      obtain ⟨t5, ht5⟩ : ∃ t, Hid (f.objs.any (fun k => !inB k p.shapes.length) = t) := ⟨_, rfl⟩
      cases r with
      | false =>
        have HE : Hid (headE p f = if t5 = true then 4 else 0) := head_objs ht.out ht2.out (Or.inl hr.out) ht5.out
        have HD1 : Hid (∀ x w', Below w4.heap.size w4 w' → Calls Try.prog 93 #[.int .i64 x, .pointer (some ⟨w.heap.size, 0, none⟩)] w' fun e w'' => e = .returned (.bool (!inB x p.shapes.length)) ∧ Below w'.heap.size w' w'') := fun x w' hb' =>
          clO_any p az cs w.heap.size x w' ((HN4.out.q.below hb').c.2.1)
        go_wp2_with fail
        refine (containsO_any (.pointer (some ⟨w.heap.size, 0, none⟩)) (fun x => !inB x p.shapes.length) f.objs ht5 a3 c3 _ HLn.out.2.1 HN4.out.ff.objs.at_ HD1).mono ?_
        rintro e w5 ⟨rfl, hb⟩
        have HB : Hid (Below w.heap.size w w5) := (HN4.out.below hb).q.low
        clear hb d0 d1 d2 f0 f1 f2 f3 f4 HN4 HD1
        cases t5
        all_goals
          go_wp2_with fail
          go_ret
          exact ⟨ret_i HE.out.symm, HB.out⟩
      | true =>
        obtain ⟨t4, ht4⟩ : ∃ t, Hid (fldB f.res p.shapes.length = t) := ⟨_, rfl⟩
        go_wp2_with fail
        refine (isField_any p ag az af cg cs cf ht4 _).mono ?_
        rintro e w5 ⟨rfl, hb⟩
        have HN5 : Hid (OnH w w5 fb p f ag az af cg cs cf a0 a3 a4 c0 c3 c4) := HN4.out.below hb
        clear hb d0 d1 d2 f0 f1 f2 f3 f4 HN4
        cases t4 with
        | false =>
          have HE : Hid (headE p f = 3) := head_res ht.out ht2.out hr.out ht4.out
          go_wp2_with fail
          go_ret
          exact ⟨ret_i HE.out.symm, HN5.out.q.low⟩
        | true =>
          obtain ⟨d0, d1, d2⟩ := HN5.out.q.c
          obtain ⟨f0, f1, f2, f3, f4⟩ := HN5.out.c
          have HE : Hid (headE p f = if t5 = true then 4 else 0) := head_objs ht.out ht2.out (Or.inr ht4.out) ht5.out
          have HD1 : Hid (∀ x w', Below w5.heap.size w5 w' → Calls Try.prog 93 #[.int .i64 x, .pointer (some ⟨w.heap.size, 0, none⟩)] w' fun e w'' => e = .returned (.bool (!inB x p.shapes.length)) ∧ Below w'.heap.size w' w'') := fun x w' hb' =>
            clO_any p az cs w.heap.size x w' ((HN5.out.q.below hb').c.2.1)
          go_wp2_with fail
          refine (containsO_any (.pointer (some ⟨w.heap.size, 0, none⟩)) (fun x => !inB x p.shapes.length) f.objs ht5 a3 c3 _ HLn.out.2.1 HN5.out.ff.objs.at_ HD1).mono ?_
          rintro e w6 ⟨rfl, hb⟩
          have HB : Hid (Below w.heap.size w w6) := (HN5.out.below hb).q.low
          clear hb d0 d1 d2 f0 f1 f2 f3 f4 HN5 HD1
          cases t5
          all_goals
            go_wp2_with fail
            go_ret
            exact ⟨ret_i HE.out.symm, HB.out⟩

end Go.Proofs.Ytmjappcjfjajmaa

/- The walk of the document's Func. -/
import Derived.Test.YtmacipjdmaaccaaCkP
import Derived.Test.YtmacipjdmaaccaaCkI
namespace Go.Proofs.Ytmacipjdmaaccaa
open Go.RowKit

def RefFunIs (p : Pg) (fn : Int) (e : Ending) : Prop := e = .returned (.tuple #[.int .i64 (funE p fn).1, .int .i64 ((funE p fn).2 : Int)])
theorem refFunIs {p : Pg} {fn s x : Int} {k : Nat} (h : funE p fn = (s, k) ∧ funX p fn = x) : RefFunIs p fn (.returned (.tuple #[.int .i64 s, .int .i64 (k : Int)])) := by
  unfold RefFunIs
  rw [h.1]
theorem refFunIs0 {p : Pg} {fn s x : Int} (h : funE p fn = (s, 0) ∧ funX p fn = x) : RefFunIs p fn (.returned (.tuple #[.int .i64 s, .int .i64 0])) := refFunIs h
theorem OnH.drewN {p : Pg} {f : Fn} {ag az af a0 a3 a4 : Option Addr} {cg cs cf c0 c3 c4 : Nat} {w wk : World} {fb : Nat} (h : OnH w wk fb p f ag az af cg cs cf a0 a3 a4 c0 c3 c4) (q : Nat) : OnH w (wk.drewN q) fb p f ag az af cg cs cf a0 a3 a4 c0 c3 c4 := h.below (below_drewN (Below.refl _ _) q)
theorem head_is {p : Pg} {fn : Int} {f : Fn} {s : Int} (hf : fnAt p fn = some f) (h : headE p f = s) : headP p fn = s := by unfold headP; rw [hf]; exact h

set_option maxRecDepth 100000 in
set_option maxHeartbeats 4000000 in
theorem refFunc_none (p : Pg) (ag az af : Option Addr) (cg cs cf : Nat) {fn : Int} (hf : fnAt p fn = none) (w : World) :
    Calls Try.prog 10 #[.agg #[.slice ag p.glob.length cg, .slice az p.shapes.length cs, .slice af p.funcs.length cf], .int .i64 fn] w fun e w' => RefFunIs p fn e ∧ Below w.heap.size w w' := by
  obtain ⟨wp, hwp⟩ : ∃ wp, w.alloc (.cells #[.slice ag p.glob.length cg, .slice az p.shapes.length cs, .slice af p.funcs.length cf] 26) = wp := ⟨_, rfl⟩
  have hA : Below w.heap.size w wp := hwp ▸ (Below.refl _ _).alloc (Nat.le_refl _) _
  have HA : Hid (Below w.heap.size w wp) := hA
  have d2 : wp.cell? ⟨w.heap.size, 2, none⟩ = some (.slice af p.funcs.length cf) := hwp ▸ cell_new w _ _ rfl
  have HF : Hid (funE p fn = (1, 0) ∧ funX p fn = fn) := fun_head (by unfold headP; rw [hf]) (by decide)
  by_cases h0 : fn < 0
  · clear hf hA
    go_enter Try.func10, Try.ntmps10
    go_wp2_with fail
    refine bodyPost_ret (v := .tuple #[.int .i64 1, .int .i64 0]) (by simp [results, go_sem]) rfl ?_
    exact ⟨refFunIs0 HF.out, HA.out⟩
  · have h1 : (p.funcs.length : Int) ≤ fn := by
      rcases fnAt_none hf with h | h
      · exact absurd h h0
      · exact h
    clear hf hA
    go_enter Try.func10, Try.ntmps10
    go_wp2_with fail
    refine bodyPost_ret (v := .tuple #[.int .i64 1, .int .i64 0]) (by simp [results, go_sem]) rfl ?_
    exact ⟨refFunIs0 HF.out, HA.out⟩

theorem lim_not {f : Fn} (h : ¬ ((f.args.length : Int) ≤ f.slots ∧ f.slots ≤ 16 ∧ f.objs.length ≤ 8 ∧ 1 ≤ f.code.length ∧ f.code.length ≤ 64)) : limB f = false := by
  cases hl : limB f with
  | false => rfl
  | true =>
    unfold limB at hl
    simp only [Bool.and_eq_true, decide_eq_true_eq] at hl
    exact absurd hl h
theorem lim_yes {f : Fn} (h : (f.args.length : Int) ≤ f.slots ∧ f.slots ≤ 16 ∧ f.objs.length ≤ 8 ∧ 1 ≤ f.code.length ∧ f.code.length ≤ 64) : limB f = true := by
  unfold limB
  simp only [Bool.and_eq_true, decide_eq_true_eq]
  exact h

set_option maxRecDepth 100000 in
set_option maxHeartbeats 16000000 in
theorem refFunc_some (p : Pg) (ag az af : Option Addr) (cg cs cf : Nat) {j : Nat} {f : Fn} (hf : Hid (fnAt p (j : Int) = some f)) (hg : Hid (Gd p)) (w : World) (hp : PgV Any w (.slice ag p.glob.length cg) (.slice az p.shapes.length cs) (.slice af p.funcs.length cf) p) :
    Calls Try.prog 10 #[.agg #[.slice ag p.glob.length cg, .slice az p.shapes.length cs, .slice af p.funcs.length cf], .int .i64 (j : Int)] w fun e w' => RefFunIs p (j : Int) e ∧ Below w.heap.size w w' := by
  obtain ⟨j', hjj, hj, hfj⟩ := fnAt_some hf.out
  obtain rfl : j = j' := by omega
  have hjI : (j : Int) < (p.funcs.length : Int) := by omega
  obtain ⟨wp, hwp⟩ : ∃ wp, w.alloc (.cells #[.slice ag p.glob.length cg, .slice az p.shapes.length cs, .slice af p.funcs.length cf] 26) = wp := ⟨_, rfl⟩
  have hQ := onR_start hwp hp
  have hsz : wp.heap.size = w.heap.size + 1 := by rw [← hwp]; simp
  obtain ⟨b, off, v0, v1, v2, v3, v4, rfl, hb, _, q0, q1, q2, q3, q4, hfc⟩ := hQ.pp.funcs.some hfj
  obtain ⟨a0, c0, a3, c3, a4, c4, rfl, rfl, rfl⟩ := hfc.lens
  obtain rfl := hfc.res
  obtain rfl := hfc.slots
  have HN : Hid (OnH w (wp.alloc (.cells #[.slice a0 f.args.length c0, .int .i64 f.res, .int .i64 f.slots, .slice a3 f.objs.length c3, .slice a4 f.code.length c4] 41)) (w.heap.size + 1) p f ag az (some ⟨b, off, none⟩) cg cs cf a0 a3 a4 c0 c3 c4) := by
    have := onH_start hQ hfc
    rw [hsz] at this
    exact this
  obtain ⟨wf, hwf⟩ : ∃ wf, wp.alloc (.cells #[.slice a0 f.args.length c0, .int .i64 f.res, .int .i64 f.slots, .slice a3 f.objs.length c3, .slice a4 f.code.length c4] 41) = wf := ⟨_, rfl⟩
  rw [hwf] at HN
  have e2 : wp.cell? ⟨w.heap.size, 2, none⟩ = some (.slice (some ⟨b, off, none⟩) p.funcs.length cf) := hQ.c.2.2
  have HLn : Hid (f.args.length ≤ maxLen ∧ f.objs.length ≤ maxLen ∧ f.code.length ≤ maxLen) := hg.out.len.at hf.out
  obtain ⟨d0, d1, d2⟩ := HN.out.q.c
  obtain ⟨f0, f1, f2, f3, f4⟩ := HN.out.c
  clear hfc hQ hb hp hfj hjj
  by_cases hlim : (f.args.length : Int) ≤ f.slots ∧ f.slots ≤ 16 ∧ f.objs.length ≤ 8 ∧ 1 ≤ f.code.length ∧ f.code.length ≤ 64
  · have HL : Hid (limB f = true) := lim_yes hlim
    have l0 : ¬ f.slots < (f.args.length : Int) := by omega
    have l1 : ¬ 16 < f.slots := by omega
    have l2 : ¬ 8 < (f.objs.length : Int) := by omega
    have l3 : ¬ (f.code.length : Int) < 1 := by omega
    have l4 : ¬ 64 < (f.code.length : Int) := by omega
    clear hlim
    go_enter Try.func10, Try.ntmps10
    go_wp2_with fail
    clear q0 q1 q2 q3 q4 e2 d0 d1 d2 f0 f1 f2 f3 f4 hwp hwf hsz l0 l1 l2 l3 l4
    go_loopw [7] (fun i wr => ∃ m : Nat, m ≤ f.args.length ∧ i = .int .i64 m ∧ Hid (OnH w wr (w.heap.size + 1) p f ag az (some ⟨b, off, none⟩) cg cs cf a0 a3 a4 c0 c3 c4) ∧ Hid (∀ l : Nat, l < m → (!valB (f.args.getD l 0) p.shapes.length) = false)) (fun i _ => f.args.length - (intOf i).toNat)
    case atStart => exact ⟨0, Nat.zero_le _, rfl, HN, fun l hl => absurd hl (by omega)⟩
    case round =>
      obtain ⟨m, hm, rfl, HR, HA⟩ := hrel
      clear HN
      obtain ⟨d0, d1, d2⟩ := HR.out.q.c
      obtain ⟨f0, f1, f2, f3, f4⟩ := HR.out.c
      by_cases hlt : m < f.args.length
      · obtain ⟨ab, ao, rfl, _, _, x0⟩ := HR.out.ff.args.some hlt
        have hmI : (m : Int) < (f.args.length : Int) := by omega
        have hm3 : m + 1 ≤ 9223372036854775807 := by have := HLn.out; unfold maxLen at this; omega
        obtain ⟨x, hx⟩ : ∃ x, f.args.getD m 0 = x := ⟨_, rfl⟩
        rw [hx] at x0
        obtain ⟨t, ht⟩ : ∃ t, Hid (valB x p.shapes.length = t) := ⟨_, rfl⟩
        have HQ3 : Hid (t = false → headE p f = 3) := fun h => head_args HL.out (any_yes hlt (by rw [hx, ht.out, h]; rfl))
        have HA2 : Hid (t = true → ∀ l : Nat, l < m + 1 → (!valB (f.args.getD l 0) p.shapes.length) = false) := fun h l hl => by
          by_cases e : l = m
          · rw [e, hx, ht.out, h]; rfl
          · exact HA.out l (by omega)
        clear HA hx
        go_upto_region 9 with (fail)
        go_quiet ((go_at_call 20; exact Calls.quiet_of_same (refValid_any ht _)))
        cases t with
        | false =>
          have HF := fun_head (head_is hf.out (HQ3.out rfl)) (by decide)
          have HFF : Hid (funE p (j : Int) = (3, 0) ∧ funX p (j : Int) = (j : Int)) := HF
          clear HF
          go_wp2_with fail
          refine bodyPost_ret (v := .tuple #[.int .i64 3, .int .i64 0]) (by simp [results, go_sem]) rfl ?_
          exact ⟨refFunIs0 HFF.out, (HR.out.drewN _).q.low⟩
        | true =>
          have HA3 : Hid (∀ l : Nat, l < m + 1 → (!valB (f.args.getD l 0) p.shapes.length) = false) := HA2.out rfl
          clear HA2 HQ3
          go_wp2_with fail
          go_roundw
          case rel => exact ⟨m + 1, by omega, by go_num, HR.out.drewN _, HA3⟩
          case measure => simp [intOf]; omega
      · obtain rfl : m = f.args.length := by omega
        have HAR : Hid (f.args.any (fun k => !valB k p.shapes.length) = false) := any_no HA.out
        clear HA hlt hm
        by_cases hbad : ¬ f.res = 0 ∧ fldB f.res p.shapes.length = false
        · have hr0 := hbad.1
          have hfl : Hid (fldB f.res p.shapes.length = false) := hbad.2
          have HF : Hid (funE p (j : Int) = (3, 0) ∧ funX p (j : Int) = (j : Int)) := fun_head (head_is hf.out (head_res HL.out HAR.out (by simpa using hr0) hbad.2)) (by decide)
          have hrb : (f.res != 0) = true := by simpa using hr0
          clear hbad
          go_wp2_with fail
          refine (refField_any hfl _).mono ?_
          rintro e wz ⟨rfl, hz⟩
          subst wz
          go_wp2_with fail
          refine bodyPost_ret (v := .tuple #[.int .i64 3, .int .i64 0]) (by simp [results, go_sem]) rfl ?_
          exact ⟨refFunIs0 HF.out, HR.out.q.low⟩
        · have HRS : Hid ((f.res != 0) = false ∨ fldB f.res p.shapes.length = true) := by
            unfold Hid
            by_cases h0 : f.res = 0
            · exact Or.inl (by simpa using h0)
            · refine Or.inr ?_
              cases hc : fldB f.res p.shapes.length with
              | true => rfl
              | false => exact absurd ⟨h0, hc⟩ hbad
          have HHD : Hid (∀ t, f.objs.any (fun s => !inB s p.shapes.length) = t → headP p (j : Int) = if t = true then 4 else 0) := fun t ht => head_is hf.out (head_objs HL.out HAR.out HRS.out ht)
          clear hbad HAR HL
          by_cases hr0 : f.res = 0
          case' pos =>
            have hrb : (f.res != 0) = false := by simpa using hr0
            clear hr0 HRS
          case' neg =>
            have hrb : (f.res != 0) = true := by simpa using hr0
            have hfl : Hid (fldB f.res p.shapes.length = true) := by
              rcases HRS.out with h | h
              · rw [h] at hrb; cases hrb
              · exact h
            clear HRS
            go_wp2_with fail
            refine (refField_any hfl _).mono ?_
            rintro e wz ⟨rfl, hz⟩
            subst wz
          all_goals
            go_wp2_with fail
            try clear hr0
            clear hrb d0 d1 d2 f0 f1 f2 f3 f4
            go_loopw [8] (fun i wr => ∃ m : Nat, m ≤ f.objs.length ∧ i = .int .i64 m ∧ Hid (OnH w wr (w.heap.size + 1) p f ag az (some ⟨b, off, none⟩) cg cs cf a0 a3 a4 c0 c3 c4) ∧ Hid (∀ l : Nat, l < m → (!inB (f.objs.getD l 0) p.shapes.length) = false)) (fun i _ => f.objs.length - (intOf i).toNat)
            case atStart => exact ⟨0, Nat.zero_le _, rfl, HR, fun l hl => absurd hl (by omega)⟩
            case round =>
              obtain ⟨m, hm, rfl, HR2, HA⟩ := hrel
              clear HR
              obtain ⟨d0, d1, d2⟩ := HR2.out.q.c
              obtain ⟨f0, f1, f2, f3, f4⟩ := HR2.out.c
              by_cases hlt : m < f.objs.length
              · obtain ⟨ab, ao, rfl, _, _, x0⟩ := HR2.out.ff.objs.some hlt
                have hmI : (m : Int) < (f.objs.length : Int) := by omega
                have hm3 : m + 1 ≤ 9223372036854775807 := by have := HLn.out; unfold maxLen at this; omega
                obtain ⟨x, hx⟩ : ∃ x, f.objs.getD m 0 = x := ⟨_, rfl⟩
                rw [hx] at x0
                have HQ4 : Hid (inB x p.shapes.length = false → funE p (j : Int) = (4, 0) ∧ funX p (j : Int) = (j : Int)) := fun h =>
                  fun_head ((HHD.out true (any_yes hlt (by rw [hx, h]; rfl)))) (by decide)
                have HA2 : Hid (inB x p.shapes.length = true → ∀ l : Nat, l < m + 1 → (!inB (f.objs.getD l 0) p.shapes.length) = false) := fun h l hl => by
                  by_cases e : l = m
                  · rw [e, hx, h]; rfl
                  · exact HA.out l (by omega)
                clear HA hx
                by_cases hn : x < 0
                · have HFF : Hid (funE p (j : Int) = (4, 0) ∧ funX p (j : Int) = (j : Int)) := HQ4.out (by unfold inB; rw [decide_eq_false (by omega)]; rfl)
                  have hd0 : decide (x < 0) = true := decide_eq_true hn
                  clear hn HQ4 HA2
                  go_upto_region 16 with (fail)
                  go_quiet (fail)
                  go_wp2_with fail
                  refine bodyPost_ret (v := .tuple #[.int .i64 4, .int .i64 0]) (by simp [results, go_sem]) rfl ?_
                  exact ⟨refFunIs0 HFF.out, (HR2.out.drewN _).q.low⟩
                · have hd0 : decide (x < 0) = false := decide_eq_false hn
                  by_cases hh : (p.shapes.length : Int) ≤ x
                  · have HFF : Hid (funE p (j : Int) = (4, 0) ∧ funX p (j : Int) = (j : Int)) := HQ4.out (by unfold inB; rw [decide_eq_false (p := x < (p.shapes.length : Int)) (by omega)]; simp)
                    have hd1 : decide ((p.shapes.length : Int) ≤ x) = true := decide_eq_true hh
                    clear hn hh HQ4 HA2
                    go_upto_region 16 with (fail)
                    go_quiet (fail)
                    go_wp2_with fail
                    refine bodyPost_ret (v := .tuple #[.int .i64 4, .int .i64 0]) (by simp [results, go_sem]) rfl ?_
                    exact ⟨refFunIs0 HFF.out, (HR2.out.drewN _).q.low⟩
                  · have HA3 : Hid (∀ l : Nat, l < m + 1 → (!inB (f.objs.getD l 0) p.shapes.length) = false) := HA2.out (by unfold inB; rw [decide_eq_true (by omega), decide_eq_true (by omega)]; rfl)
                    have hd1 : decide ((p.shapes.length : Int) ≤ x) = false := decide_eq_false hh
                    clear hn hh HQ4 HA2
                    go_upto_region 16 with (fail)
                    go_quiet (fail)
                    go_wp2_with fail
                    go_roundw
                    case rel => exact ⟨m + 1, by omega, by go_num, HR2.out.drewN _, HA3⟩
                    case measure => simp [intOf]; omega
              · obtain rfl : m = f.objs.length := by omega
                have HH0 : Hid (headP p (j : Int) = 0) := HHD.out false (any_no HA.out)
                clear HA HHD hlt hm
                go_wp2_with fail
                clear d0 d1 d2 f0 f1 f2 f3 f4
                go_loopw [9, 10] (fun i _ wr => ∃ m : Nat, m ≤ f.code.length ∧ i = .int .i64 m ∧ Hid (OnH w wr (w.heap.size + 1) p f ag az (some ⟨b, off, none⟩) cg cs cf a0 a3 a4 c0 c3 c4) ∧ Hid (∀ l : Nat, l < m → insAt p (j : Int) (l : Int) = 0)) (fun i _ _ => f.code.length - (intOf i).toNat)
                case atStart => exact ⟨0, Nat.zero_le _, rfl, HR2, fun l hl => absurd hl (by omega)⟩
                case round =>
                  obtain ⟨m, hm, rfl, HR3, HA⟩ := hrel
                  clear HR2
                  obtain ⟨d0, d1, d2⟩ := HR3.out.q.c
                  obtain ⟨f0, f1, f2, f3, f4⟩ := HR3.out.c
                  by_cases hlt : m < f.code.length
                  · have hmI : (m : Int) < (f.code.length : Int) := by omega
                    have hm3 : m + 1 ≤ 9223372036854775807 := by have := HLn.out; unfold maxLen at this; omega
                    obtain ⟨s, hs⟩ : ∃ s, Hid (insAt p (j : Int) (m : Int) = s) := ⟨_, rfl⟩
                    go_wp2_with fail
                    refine (refInstr_any p ag az (some ⟨b, off, none⟩) cg cs cf hs ⟨hg.out.len, hg.out.fit⟩ _ HR3.out.q.pp).mono ?_
                    rintro e w2 ⟨rfl, hb⟩
                    have HR4 : Hid (OnH w w2 (w.heap.size + 1) p f ag az (some ⟨b, off, none⟩) cg cs cf a0 a3 a4 c0 c3 c4) := HR3.out.below hb
                    clear hb HR3 d0 d1 d2 f0 f1 f2 f3 f4
                    by_cases h0 : s = 0
                    · have HA2 : Hid (∀ l : Nat, l < m + 1 → insAt p (j : Int) (l : Int) = 0) := fun l hl => by
                        by_cases e : l = m
                        · rw [e, hs.out, h0]
                        · exact HA.out l (by omega)
                      clear HA
                      go_wp2_with fail
                      go_roundw
                      case rel => exact ⟨m + 1, by omega, by go_num, HR4, HA2⟩
                      case measure => simp [intOf]; omega
                    · have HFF : Hid (funE p (j : Int) = (s, m) ∧ funX p (j : Int) = (j : Int)) := fun_bad hf.out HH0.out hlt HA.out hs.out h0
                      clear HA
                      go_wp2_with fail
                      refine bodyPost_ret (v := .tuple #[.int .i64 s, .int .i64 (m : Int)]) (by simp [results, go_sem]) rfl ?_
                      exact ⟨refFunIs HFF.out, HR4.out.q.low⟩
                  · obtain rfl : m = f.code.length := by omega
                    have HFF : Hid (funE p (j : Int) = (0, 0) ∧ funX p (j : Int) = 0) := fun_ok hf.out HH0.out HA.out
                    clear HA
                    go_wp2_with fail
                    refine bodyPost_ret (v := .tuple #[.int .i64 0, .int .i64 0]) (by simp [results, go_sem]) rfl ?_
                    exact ⟨refFunIs0 HFF.out, HR3.out.q.low⟩
  · have HF : Hid (funE p (j : Int) = (1, 0) ∧ funX p (j : Int) = (j : Int)) := fun_head (head_is hf.out (head_lim (lim_not hlim))) (by decide)
    have HB : Hid (Below w.heap.size w wf) := HN.out.q.low
    by_cases l0 : f.slots < (f.args.length : Int)
    · clear hlim
      go_enter Try.func10, Try.ntmps10
      go_wp2_with fail
      refine bodyPost_ret (v := .tuple #[.int .i64 1, .int .i64 0]) (by simp [results, go_sem]) rfl ?_
      exact ⟨refFunIs0 HF.out, HB.out⟩
    · by_cases l1 : 16 < f.slots
      · clear hlim
        go_enter Try.func10, Try.ntmps10
        go_wp2_with fail
        refine bodyPost_ret (v := .tuple #[.int .i64 1, .int .i64 0]) (by simp [results, go_sem]) rfl ?_
        exact ⟨refFunIs0 HF.out, HB.out⟩
      · by_cases l2 : 8 < (f.objs.length : Int)
        · clear hlim
          go_enter Try.func10, Try.ntmps10
          go_wp2_with fail
          refine bodyPost_ret (v := .tuple #[.int .i64 1, .int .i64 0]) (by simp [results, go_sem]) rfl ?_
          exact ⟨refFunIs0 HF.out, HB.out⟩
        · by_cases l3 : (f.code.length : Int) < 1
          · clear hlim
            go_enter Try.func10, Try.ntmps10
            go_wp2_with fail
            refine bodyPost_ret (v := .tuple #[.int .i64 1, .int .i64 0]) (by simp [results, go_sem]) rfl ?_
            exact ⟨refFunIs0 HF.out, HB.out⟩
          · have l4 : 64 < (f.code.length : Int) := by omega
            clear hlim
            go_enter Try.func10, Try.ntmps10
            go_wp2_with fail
            refine bodyPost_ret (v := .tuple #[.int .i64 1, .int .i64 0]) (by simp [results, go_sem]) rfl ?_
            exact ⟨refFunIs0 HF.out, HB.out⟩

theorem refFunc_any (p : Pg) (ag az af : Option Addr) (cg cs cf : Nat) (fn : Int) (hg : Hid (Gd p)) (w : World) (hp : PgV Any w (.slice ag p.glob.length cg) (.slice az p.shapes.length cs) (.slice af p.funcs.length cf) p) :
    Calls Try.prog 10 #[.agg #[.slice ag p.glob.length cg, .slice az p.shapes.length cs, .slice af p.funcs.length cf], .int .i64 fn] w fun e w' => RefFunIs p fn e ∧ Below w.heap.size w w' := by
  cases hf : fnAt p fn with
  | none => exact refFunc_none p ag az af cg cs cf hf w
  | some f =>
    obtain ⟨j, rfl, _, _⟩ := fnAt_some hf
    exact refFunc_some p ag az af cg cs cf hf hg w hp

end Go.Proofs.Ytmacipjdmaaccaa

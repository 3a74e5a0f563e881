/- The document's Instr tells what the code's does. -/
import Derived.Test.YtmacipjdmaaccaaCkO
namespace Go.Proofs.Ytmacipjdmaaccaa
open Go.RowKit

theorem form_no {p : Pg} {f : Fn} {io ia ib ic : Int} (h : kn io = false ∨ (kn io = true ∧ unB (ro io).1 (ro io).2.1 (ro io).2.2 ia ib ic = false)) : formB p f ⟨io, ia, ib, ic⟩ = false := by
  rcases h with h | ⟨h, hu⟩
  · unfold formB
    simp only [h, Bool.false_and]
  · unfold formB
    unfold unB un1 at hu
    simp only [h, Bool.true_and]
    revert hu
    generalize ((ro io).1 != 0) = u0
    generalize ((ro io).2.1 != 0) = u1
    generalize ((ro io).2.2 != 0) = u2
    generalize (ia == 0) = z0
    generalize (ib == 0) = z1
    generalize (ic == 0) = z2
    generalize resl p f ⟨io, ia, ib, ic⟩ = r
    cases u0 <;> cases u1 <;> cases u2 <;> cases z0 <;> cases z1 <;> cases z2 <;> cases r <;> simp
theorem form_un {p : Pg} {f : Fn} {io ia ib ic : Int} (h : kn io = true) (hu : unB (ro io).1 (ro io).2.1 (ro io).2.2 ia ib ic = true) : formB p f ⟨io, ia, ib, ic⟩ = (!(resl p f ⟨io, ia, ib, ic⟩) || ia == 0) := by
  unfold formB
  unfold unB un1 at hu
  simp only [h, Bool.true_and]
  revert hu
  generalize ((ro io).1 != 0) = u0
  generalize ((ro io).2.1 != 0) = u1
  generalize ((ro io).2.2 != 0) = u2
  generalize (ia == 0) = z0
  generalize (ib == 0) = z1
  generalize (ic == 0) = z2
  generalize resl p f ⟨io, ia, ib, ic⟩ = r
  cases u0 <;> cases u1 <;> cases u2 <;> cases z0 <;> cases z1 <;> cases z2 <;> cases r <;> simp
theorem resl_ret {p : Pg} {f : Fn} {ia ib ic : Int} : resl p f ⟨22, ia, ib, ic⟩ = (f.res == 0) := rfl
theorem resl_else {p : Pg} {f : Fn} {io ia ib ic : Int} (h : ¬ io = 21 ∧ ¬ io = 22) : resl p f ⟨io, ia, ib, ic⟩ = false := by
  unfold resl
  rw [if_neg h.2, if_neg h.1]

/-- The letters of an op, what they tell. -/
theorem resl_tab {p : Pg} {f : Fn} {io ia ib ic x0 x1 x2 R : Int} (ht : TabOk io x0 x1 x2) (hg : (x1 = 102 ∧ ∃ g, fnAt p ib = some g ∧ g.res = R) ∨ (¬ x1 = 102 ∧ f.res = R)) : resl p f ⟨io, ia, ib, ic⟩ = (decide (x0 = 114) && (R == 0)) := by
  obtain ⟨t0, ⟨_, _, t1⟩, _, _⟩ := ht
  rcases t0 with ⟨h0, _, ho⟩ | ⟨h0, _, ho1, ho2⟩
  · rw [decide_eq_true h0, Bool.true_and]
    rcases ho with rfl | rfl
    · rcases hg with ⟨_, g, hg, hr⟩ | ⟨h, _⟩
      · rw [resl_call hg, hr]
      · exact absurd (t1.2 (Or.inl rfl)) h
    · rcases hg with ⟨h, _⟩ | ⟨_, hr⟩
      · have := t1.1 h
        omega
      · rw [resl_ret, hr]
  · rw [resl_else ⟨ho1, ho2⟩, decide_eq_false h0.r]
    rfl
theorem plac_tab {p : Pg} {f : Fn} {io ia ib ic x0 x1 x2 R : Int} {K : Nat} (ht : TabOk io x0 x1 x2) (hg : (x1 = 102 ∧ ∃ g, fnAt p ib = some g ∧ g.res = R ∧ g.args.length = K) ∨ (¬ x1 = 102 ∧ f.res = R ∧ K = 0)) :
    placB p f ⟨io, ia, ib, ic⟩ = ((if x0 = 114 then (R == 0 || inB ia f.slots) else hasB p f K (nl x0) ia) && (hasB p f K (nl x1) ib && hasB p f K (nl x2) ic)) := by
  have hr := resl_tab (ia := ia) (ic := ic) ht (hg.imp (fun ⟨a, g, b, c, _⟩ => ⟨a, g, b, c⟩) (fun ⟨a, b, _⟩ => ⟨a, b⟩))
  have hk : ∀ n v, (n = (nm io).1 ∨ n = (nm io).2.1 ∨ n = (nm io).2.2) → hasB p f (arN p ib) n v = hasB p f K n v := fun n v hn => by
    rcases hg with ⟨_, g, hg, _, hK⟩ | ⟨h, _, _⟩
    · have : arN p ib = K := by unfold arN; rw [hg]; exact hK
      rw [this]
    · have := ht.2.2.2 h
      refine hasB_k ?_
      rcases hn with rfl | rfl | rfl
      · exact this.1
      · exact this.2.1
      · exact this.2.2
  obtain ⟨t0, ⟨_, t1, _⟩, ⟨_, t2⟩, _⟩ := ht
  show (hasB p f (arN p ib) (nm0 p f ⟨io, ia, ib, ic⟩) ia && (hasB p f (arN p ib) (nm io).2.1 ib && hasB p f (arN p ib) (nm io).2.2 ic)) = _
  rw [hk (nm io).2.1 ib (Or.inr (Or.inl rfl)), hk (nm io).2.2 ic (Or.inr (Or.inr rfl)), t1, t2]
  congr 1
  show hasB p f (arN p ib) (if resl p f ⟨io, ia, ib, ic⟩ = true then 0 else (nm io).1) ia = _
  rw [hr]
  rcases t0 with ⟨h0, hn, _⟩ | ⟨h0, hn, _⟩
  · rw [if_pos h0, decide_eq_true h0, Bool.true_and]
    cases hR : (R == 0) with
    | true => rfl
    | false =>
      rw [if_neg (by decide), hk _ _ (Or.inl rfl), hn]
      rfl
  · rw [if_neg h0.r, decide_eq_false h0.r, Bool.false_and, if_neg (by decide), hk _ _ (Or.inl rfl), hn]

theorem refInstr_any (p : Pg) (ag az af : Option Addr) (cg cs cf : Nat) {fn pc s : Int} (hs : Hid (insAt p fn pc = s)) (hl : Hid (Len p ∧ FitP p)) (w : World) (hp : PgV Any w (.slice ag p.glob.length cg) (.slice az p.shapes.length cs) (.slice af p.funcs.length cf) p) :
    Calls Try.prog 13 #[.agg #[.slice ag p.glob.length cg, .slice az p.shapes.length cs, .slice af p.funcs.length cf], .int .i64 fn, .int .i64 pc] w fun e w' => e = .returned (.int .i64 s) ∧ Below w.heap.size w w' := by
  obtain rfl := hs.out
  cases hf : fnAt p fn with
  | none =>
    have e : insAt p fn pc = 1 := by unfold insAt; rw [hf]
    rw [e]
    exact refInstr_out p ag az af cg cs cf (Or.inl hf) w hp
  | some f =>
    cases hi : inAt f pc with
    | none =>
      have e : insAt p fn pc = 1 := by unfold insAt; rw [hf]; simp only [hi]
      rw [e]
      exact refInstr_out p ag az af cg cs cf (Or.inr ⟨f, hf, hi⟩) w hp
    | some i =>
      have e : insAt p fn pc = insE p f i := by unfold insAt; rw [hf]; simp only [hi]
      rw [e]
      have hfit : f.slots ≤ 9223372036854775807 := hl.out.2.slots hf
      obtain ⟨io, ia, ib, ic⟩ := i
      obtain ⟨j, rfl, _, hfj⟩ := fnAt_some hf
      obtain ⟨jc, rfl, _, hij⟩ := inAt_some hi
      cases hk : kn io with
      | false =>
        rw [insE_two (form_no (Or.inl hk))]
        exact refInstr_form p ag az af cg cs cf hfj hij (Or.inl hk) w hp
      | true =>
        cases hu : unB (ro io).1 (ro io).2.1 (ro io).2.2 ia ib ic with
        | false =>
          rw [insE_two (form_no (Or.inr ⟨hk, hu⟩))]
          exact refInstr_form p ag az af cg cs cf hfj hij (Or.inr ⟨hk, hu⟩) w hp
        | true =>
          have hT := tabOk hk
          have hl3 := opS_len hk
          have g0 := run_idx (opS io) 0 (by omega)
          have g1 := run_idx (opS io) 1 (by omega)
          have g2 := run_idx (opS io) 2 (by omega)
          have hU : ∀ w, Calls Try.prog 27 #[.agg #[.int .i64 io, .int .i64 ia, .int .i64 ib, .int .i64 ic]] w fun e w' => e = .returned (.bool true) ∧ Below w.heap.size w w' := fun w => by
            have := refUnused_any ⟨io, ia, ib, ic⟩ w
            rw [hu] at this
            exact this
          generalize gb (opS io) 0 = x0 at hT g0
          generalize gb (opS io) 1 = x1 at hT g1
          generalize gb (opS io) 2 = x2 at hT g2
          have go : ∀ (R : Int) (K : Nat), ((x1 = 102 ∧ ∃ g, fnAt p ib = some g ∧ g.res = R ∧ g.args.length = K) ∨ (¬ x1 = 102 ∧ f.res = R ∧ K = 0)) →
              Calls Try.prog 13 #[.agg #[.slice ag p.glob.length cg, .slice az p.shapes.length cs, .slice af p.funcs.length cf], .int .i64 (j : Int), .int .i64 (jc : Int)] w fun e w' => e = .returned (.int .i64 (insE p f ⟨io, ia, ib, ic⟩)) ∧ Below w.heap.size w w' := fun R K hg => by
            have hr := resl_tab (ia := ia) (ic := ic) hT (hg.imp (fun ⟨a, g, b, c, _⟩ => ⟨a, g, b, c⟩) (fun ⟨a, b, _⟩ => ⟨a, b⟩))
            have hpl := plac_tab (ia := ia) (ic := ic) hT hg
            have hfo := form_un (p := p) (f := f) (ia := ia) (ib := ib) (ic := ic) hk hu
            refine refInstr_go p ag az af cg cs cf hfj hij w hp hfit (opS io) x0 x1 x2 rfl (opS_some hk) g0 g1 g2 hU R K hg (if x0 = 114 then (R == 0 || inB ia f.slots) else hasB p f K (nl x0) ia) (hasB p f K (nl x1) ib) (hasB p f K (nl x2) ic) ?_ ⟨hT.2.1.1, rfl⟩ ⟨hT.2.2.1.1, rfl⟩ (insE p f ⟨io, ia, ib, ic⟩) ⟨fun h => ?_, fun h => ?_⟩ (fun h => ?_)
            · rcases hT.1 with ⟨h0, _⟩ | ⟨h0, _⟩
              · exact Or.inl ⟨h0, by unfold Hid; rw [if_pos h0]⟩
              · exact Or.inr ⟨h0.r, h0, by rw [if_neg h0.r]⟩
            · refine insE_two ?_
              rw [hfo, hr, decide_eq_true h.1, show (R == 0) = true by simpa using h.2.1, show (ia == 0) = false by simpa using h.2.2]
              rfl
            · have hfm : formB p f ⟨io, ia, ib, ic⟩ = true := by
                rw [hfo, hr]
                by_cases h0 : x0 = 114
                · by_cases hR : R = 0
                  · have hia : ia = 0 := by
                      by_cases hia : ia = 0
                      · exact hia
                      · exact absurd ⟨h0, hR, hia⟩ h
                    rw [hia]
                    simp
                  · rw [show (R == 0) = false by simpa using hR]
                    simp
                · rw [decide_eq_false h0]
                  rfl
              unfold insE
              rw [if_pos hfm, hpl]
            · have hx : x1 = 102 := hT.2.1.2.2.2 (Or.inr h)
              refine ⟨hx, ?_⟩
              rcases hg with ⟨_, g, hg, _⟩ | ⟨h', _⟩
              · exact ⟨g, hg, (hl.out.1.at hg).1⟩
              · exact absurd hx h'
          by_cases hx : x1 = 102
          · cases hgn : fnAt p ib with
            | none =>
              have hcall := hT.2.1.2.2.1 hx
              have hr : resl p f ⟨io, ia, ib, ic⟩ = false := by
                rcases hcall with rfl | rfl | rfl
                · exact resl_none hgn
                · exact resl_else (by omega)
                · exact resl_else (by omega)
              have hpl : placB p f ⟨io, ia, ib, ic⟩ = false := by
                cases hc : placB p f ⟨io, ia, ib, ic⟩ with
                | false => rfl
                | true =>
                  obtain ⟨g, hg⟩ := plac_call hc hcall
                  rw [hgn] at hg
                  cases hg
              rw [insE_four (by rw [form_un hk hu, hr]; rfl) hpl]
              exact refInstr_far p ag az af cg cs cf hfj hij w hp (opS io) x1 rfl (opS_some hk) g1 hU hx hgn
            | some g => exact go g.res g.args.length (Or.inl ⟨hx, g, hgn, rfl, rfl⟩)
          · exact go f.res 0 (Or.inr ⟨hx, rfl, rfl⟩)

end Go.Proofs.Ytmacipjdmaaccaa

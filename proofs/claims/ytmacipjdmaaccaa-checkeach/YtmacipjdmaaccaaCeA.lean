/- Plain mathematics for CheckEach. -/
import Derived.Test.YtmacipjdmaaccaaCkV
namespace Go.Proofs.Ytmacipjdmaaccaa
open Go.RowKit

def gB (p : Pg) (m : Nat) : Bool := (List.range m).all (fun l => fldB (p.glob.getD l 0) p.shapes.length)
def fB (p : Pg) (m : Nat) : Bool := (List.range m).all (fun l => (funE p (l : Int)).1 == 0)
def oB (p : Pg) : Bool := chkN p.shapes == 0 && (decide (p.glob.length ≤ 16) && (decide (1 ≤ p.funcs.length) && decide (p.funcs.length ≤ 16)))
def mB (p : Pg) : Bool := match p.funcs[0]? with | some f => f.args.length == 0 && f.res == 0 | none => true
theorem gB_more {p : Pg} {m : Nat} {x : Int} {t b : Bool} (hx : p.glob.getD m 0 = x) (ht : fldB x p.shapes.length = t) : (b && gB p (m + 1)) = ((b && gB p m) && t) := by
  unfold gB
  rw [List.range_succ, List.all_append, List.all_cons, List.all_nil, hx, ht, Bool.and_true, Bool.and_assoc]
theorem fB_more {p : Pg} {m : Nat} {x : Int} {b : Bool} (hx : (funE p (m : Int)).1 = x) : (b && fB p (m + 1)) = ((b && fB p m) && (x == 0)) := by
  unfold fB
  rw [List.range_succ, List.all_append, List.all_cons, List.all_nil, hx, Bool.and_true, Bool.and_assoc]
theorem gB_all (p : Pg) : gB p p.glob.length = !(p.glob.any (fun k => !fldB k p.shapes.length)) := by
  cases h : p.glob.any (fun k => !fldB k p.shapes.length) with
  | true =>
    rw [List.any_eq_true] at h
    obtain ⟨x, hx, hb⟩ := h
    obtain ⟨m, hm, rfl⟩ := List.mem_iff_getElem.1 hx
    unfold gB
    rw [Bool.not_true, List.all_eq_false]
    refine ⟨m, by simpa using hm, ?_⟩
    simp [List.getD, hm]
    simpa using hb
  | false =>
    rw [List.any_eq_false] at h
    unfold gB
    rw [Bool.not_false, List.all_eq_true]
    intro m hm
    have hm' : m < p.glob.length := by simpa using hm
    have := h p.glob[m] (List.getElem_mem hm')
    simp [List.getD, hm']
    simpa using this
theorem fB_yes {p : Pg} (h : fB p p.funcs.length = true) : ∀ j : Nat, j < p.funcs.length → (funE p (j : Int)).1 = 0 := fun j hj => by
  unfold fB at h
  rw [List.all_eq_true] at h
  have := h j (by simpa using hj)
  simpa using this
theorem fB_no {p : Pg} (h : fB p p.funcs.length = false) : ∃ k : Nat, k < p.funcs.length ∧ (∀ j : Nat, j < k → (funE p (j : Int)).1 = 0) ∧ ¬ (funE p (k : Int)).1 = 0 := by
  have hb : badAt (fun k => (funE p (k : Int)).1) p.funcs.length ≠ none := fun hn => by
    unfold badAt at hn
    rw [List.find?_eq_none] at hn
    unfold fB at h
    rw [List.all_eq_false] at h
    obtain ⟨x, hx, hx2⟩ := h
    have := hn x hx
    simp at this
    simp [this] at hx2
  cases hc : badAt (fun k => (funE p (k : Int)).1) p.funcs.length with
  | none => exact absurd hc hb
  | some k =>
    unfold badAt at hc
    rw [List.find?_range_eq_some] at hc
    exact ⟨k, by simpa using hc.2.1, fun j hj => by simpa using hc.2.2 j hj, by simpa using hc.1⟩
theorem each_is (p : Pg) : ((progE p).1 == 0) = (((oB p && gB p p.glob.length) && fB p p.funcs.length) && mB p) := by
  by_cases hc : chkN p.shapes = 0
  · by_cases hl : p.glob.length ≤ 16 ∧ 1 ≤ p.funcs.length ∧ p.funcs.length ≤ 16
    · have ho : oB p = true := by unfold oB; rw [hc, decide_eq_true hl.1, decide_eq_true hl.2.1, decide_eq_true hl.2.2]; rfl
      rw [ho, Bool.true_and, gB_all]
      cases hg : p.glob.any (fun k => !fldB k p.shapes.length) with
      | true =>
        rw [prog_top (top_glob hc hl hg) (by decide)]
        rfl
      | false =>
        obtain ⟨f, hf⟩ : ∃ f, p.funcs[0]? = some f := ⟨_, List.getElem?_eq_getElem (by omega)⟩
        have ht := top_fun hc hl hg hf
        have hm : mB p = decide (f.args.length = 0 ∧ f.res = 0) := by
          unfold mB
          rw [hf]
          show (f.args.length == 0 && f.res == 0) = _
          by_cases h1 : f.args.length = 0
          · by_cases h2 : f.res = 0
            · rw [h1, h2]; rfl
            · rw [decide_eq_false (fun h => h2 h.2), show (f.res == 0) = false by simpa using h2, Bool.and_false]
          · rw [decide_eq_false (fun h => h1 h.1), show (f.args.length == 0) = false by simpa using h1, Bool.false_and]
        rw [hm]
        by_cases h0 : f.args.length = 0 ∧ f.res = 0
        · rw [if_pos h0] at ht
          rw [decide_eq_true h0, Bool.and_true, Bool.not_false, Bool.true_and]
          cases hfb : fB p p.funcs.length with
          | true =>
            rw [prog_ok ht (fB_yes hfb)]
            rfl
          | false =>
            obtain ⟨k, hk, ha, hn⟩ := fB_no hfb
            rw [prog_bad ht hk ha (s := (funE p (k : Int)).1) (y := (funE p (k : Int)).2) rfl hn]
            show ((funE p (k : Int)).1 == 0) = false
            simpa using hn
        · rw [if_neg h0] at ht
          rw [prog_top ht (by decide), decide_eq_false h0, Bool.and_false]
          rfl
    · have ho : oB p = false := by
        cases h : oB p with
        | false => rfl
        | true =>
          unfold oB at h
          simp only [Bool.and_eq_true, decide_eq_true_eq] at h
          exact absurd h.2 hl
      rw [prog_top (top_len hc hl) (by decide), ho]
      rfl
  · have ho : oB p = false := by unfold oB; rw [show (chkN p.shapes == 0) = false by simpa using hc]; rfl
    rw [prog_top (top_sh rfl hc) hc, ho]
    show (chkN p.shapes == 0) = false
    simpa using hc
/-- A function without an error has none at any place. -/
theorem fun_ins {p : Pg} {fn : Int} {f : Fn} (hf : fnAt p fn = some f) (h : (funE p fn).1 = 0) : ∀ k : Nat, k < f.code.length → insAt p fn (k : Int) = 0 := by
  unfold funE at h
  rw [hf] at h
  simp only at h
  by_cases h0 : headE p f = 0
  · rw [if_pos h0] at h
    cases hb : badAt (fun k => insAt p fn (k : Int)) f.code.length with
    | none =>
      intro k hk
      unfold badAt at hb
      rw [List.find?_eq_none] at hb
      have := hb k (by simpa using hk)
      simpa using this
    | some k =>
      rw [hb] at h
      simp only at h
      unfold badAt at hb
      have := List.find?_some hb
      simp [h] at this
  · rw [if_neg h0] at h
    exact absurd h h0

end Go.Proofs.Ytmacipjdmaaccaa

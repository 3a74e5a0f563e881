/- Plain mathematics of chapter 12: kinds, what they have in common, an instruction's kinds behind it, where it goes on; what follows from a program of a form that may be. -/
import Derived.Test.YtmjappcjfjajmaaCkM
namespace Go.Proofs.Ytmjappcjfjajmaa
open Go.RowKit

/-- What two lists of kinds have in common. -/
def joinK (a b : List Int) : List Int := List.zipWith (fun x y => if x = y then x else 0) a b
/-- The kind of a slot. -/
def kat (K : List Int) (n : Int) : Int := K.getD n.toNat 0
/-- The field of what a kind leads to, from base on. -/
def fieldO (p : Pg) (base k c : Int) : Option Int :=
  if upB base k = true then (match p.shapes[(k - base).toNat]? with | some L => if 0 ≤ c then L[c.toNat]? else none | none => none) else none
def argsOf (p : Pg) (n : Int) : List Int := match fnAt p n with | some g => g.args | none => []
def passB (K : List Int) (c : Int) (args : List Int) : Bool := (K.drop c.toNat).take args.length == args
/-- May it read what it reads? -/
def rdB (p : Pg) (f : Fn) (i : Ins) (K : List Int) : Bool :=
  if i.o = 2 then kat K i.b != 0
  else if 3 ≤ i.o ∧ i.o ≤ 8 then kat K i.b == 1 && kat K i.c == 1
  else if i.o = 10 ∨ i.o = 29 then kat K i.a == 1
  else if i.o = 12 then upB 16 (kat K i.b)
  else if i.o = 14 then (fieldO p 16 (kat K i.b) i.c).isSome
  else if i.o = 19 then (fieldO p 64 (kat K i.b) i.c).isSome
  else if i.o = 15 then fieldO p 16 (kat K i.a) i.b == some (kat K i.c)
  else if i.o = 20 then fieldO p 64 (kat K i.a) i.b == some (kat K i.c)
  else if i.o = 17 then kat K i.b == kat p.glob i.a
  else if i.o = 21 ∨ i.o = 23 ∨ i.o = 24 then passB K i.c (argsOf p i.b)
  else if i.o = 22 then f.res == 0 || kat K i.a == f.res
  else if i.o = 25 then kat K i.a == 1 && kat K i.b == 16
  else true
/-- The kind to which it sets its A, if it sets it. -/
def stA (p : Pg) (f : Fn) (i : Ins) (K : List Int) : Option Int :=
  if i.o = 2 then some (kat K i.b)
  else if i.o = 1 ∨ (3 ≤ i.o ∧ i.o ≤ 8) ∨ i.o = 12 ∨ i.o = 26 then some 1
  else if i.o = 11 ∨ i.o = 13 then some (16 + i.b)
  else if i.o = 14 then some ((fieldO p 16 (kat K i.b) i.c).getD 0)
  else if i.o = 19 then some ((fieldO p 64 (kat K i.b) i.c).getD 0)
  else if i.o = 16 then some (kat p.glob i.b)
  else if i.o = 18 then some (64 + kat f.objs i.b)
  else if i.o = 21 then (match fnAt p i.b with | some g => if g.res = 0 then none else some g.res | none => none)
  else none
/-- The kinds behind it. -/
def behK (p : Pg) (f : Fn) (i : Ins) (K : List Int) : List Int :=
  match stA p f i K with
  | none => K
  | some v => if i.o = 26 then (K.set i.a.toNat v).set i.b.toNat 16 else K.set i.a.toNat (if rdB p f i K = true then v else 0)
/-- Where it may go on. -/
def nxtI (i : Ins) (pc : Int) : List Int :=
  if i.o = 9 then [i.b] else if i.o = 10 then (if i.b = pc + 1 then [i.b] else [pc + 1, i.b]) else if i.o = 22 ∨ i.o = 25 ∨ i.o = 27 then [] else [pc + 1]
def nxt (i : Ins) (pc : Nat) : List Nat := (nxtI i (pc : Int)).map Int.toNat

theorem joinK_len (a b : List Int) : (joinK a b).length = min a.length b.length := by simp [joinK]
theorem joinK_at {a b : List Int} {k : Nat} (h : k < a.length) (h' : k < b.length) : (joinK a b).getD k 0 = if a.getD k 0 = b.getD k 0 then a.getD k 0 else 0 := by
  unfold joinK
  rw [List.getD_eq_getElem?_getD, List.getElem?_zipWith, List.getElem?_eq_getElem h, List.getElem?_eq_getElem h']
  simp [List.getD, h, h']

/-- A list of kinds knows no more than another one. -/
structure LeK (a b : List Int) : Prop where
  len : a.length = b.length
  at_ : ∀ k : Nat, k < a.length → a.getD k 0 = 0 ∨ a.getD k 0 = b.getD k 0
theorem LeK.refl (a : List Int) : LeK a a := ⟨rfl, fun _ _ => Or.inr rfl⟩
theorem LeK.trans {a b c : List Int} (h : LeK a b) (g : LeK b c) : LeK a c :=
  ⟨h.len.trans g.len, fun k hk => by
    rcases h.at_ k hk with e | e
    · exact Or.inl e
    · rcases g.at_ k (h.len ▸ hk) with e' | e'
      · exact Or.inl (e.trans e')
      · exact Or.inr (e.trans e')⟩
theorem ext_getD {a b : List Int} (hl : a.length = b.length) (h : ∀ k : Nat, k < a.length → a.getD k 0 = b.getD k 0) : a = b := by
  apply List.ext_getElem hl
  intro k h1 h2
  have := h k h1
  simpa [List.getD, h1, h2] using this
theorem LeK.antisymm {a b : List Int} (h : LeK a b) (g : LeK b a) : a = b := by
  refine ext_getD h.len fun k hk => ?_
  rcases h.at_ k hk with e | e
  · rcases g.at_ k (h.len ▸ hk) with e' | e'
    · rw [e, e']
    · exact e'.symm
  · exact e
theorem LeK.kat {a b : List Int} (h : LeK a b) (n : Int) : kat a n = 0 ∨ kat a n = kat b n := by
  unfold Go.Proofs.Ytmjappcjfjajmaa.kat
  by_cases hk : n.toNat < a.length
  · exact h.at_ _ hk
  · left
    rw [List.getD_eq_getElem?_getD, List.getElem?_eq_none (by omega)]
    rfl
theorem LeK.kat_ne {a b : List Int} (h : LeK a b) {n : Int} (h0 : ¬ Go.Proofs.Ytmjappcjfjajmaa.kat a n = 0) : Go.Proofs.Ytmjappcjfjajmaa.kat b n = Go.Proofs.Ytmjappcjfjajmaa.kat a n := by
  rcases h.kat n with e | e
  · exact absurd e h0
  · exact e.symm
theorem join_le_left {a b : List Int} (h : a.length = b.length) : LeK (joinK a b) a :=
  ⟨by rw [joinK_len]; omega, fun k hk => by
    rw [joinK_len] at hk
    rw [joinK_at (by omega) (by omega)]
    split
    · exact Or.inr rfl
    · exact Or.inl rfl⟩
theorem join_le_right {a b : List Int} (h : a.length = b.length) : LeK (joinK a b) b :=
  ⟨by rw [joinK_len]; omega, fun k hk => by
    rw [joinK_len] at hk
    rw [joinK_at (by omega) (by omega)]
    split
    · rename_i e; exact Or.inr e
    · exact Or.inl rfl⟩
theorem le_join {a b c : List Int} (h : LeK c a) (g : LeK c b) : LeK c (joinK a b) :=
  ⟨by rw [joinK_len, h.len, ← g.len, h.len]; omega, fun k hk => by
    have h1 := h.len
    have h2 := g.len
    rw [joinK_at (by omega) (by omega)]
    rcases h.at_ k hk with e | e
    · exact Or.inl e
    · rcases g.at_ k hk with e' | e'
      · exact Or.inl e'
      · right; rw [if_pos (by rw [← e, ← e']), e]⟩
/-- What is known grows no more than kinds and none. -/
theorem LeK.set {a b : List Int} (h : LeK a b) (n : Nat) {u v : Int} (hu : u = 0 ∨ u = v) : LeK (a.set n u) (b.set n v) :=
  ⟨by simp [h.len], fun k hk => by
    have hk' : k < a.length := by simpa using hk
    have hb' : k < b.length := h.len ▸ hk'
    by_cases e : n = k
    · subst e
      simp only [List.getD_eq_getElem?_getD, List.getElem?_set_self hk', List.getElem?_set_self hb', Option.getD_some]
      exact hu
    · simp only [List.getD_eq_getElem?_getD, List.getElem?_set_ne e]
      exact h.at_ k hk'⟩

/-! ### Programs of a form that may be -/
structure OkP (p : Pg) : Prop where
  shapes : ∀ L ∈ p.shapes, ∀ x ∈ L, ¬ x = 0
  n16 : p.shapes.length ≤ 16
  glob : ∀ x ∈ p.glob, ¬ x = 0
  args : ∀ f ∈ p.funcs, ∀ x ∈ f.args, ¬ x = 0
  lim : ∀ f ∈ p.funcs, limB f = true
  ins : ∀ f ∈ p.funcs, ∀ i ∈ f.code, insE p f i = 0
theorem fld_ne {x n : Int} (h : fldB x n = true) : ¬ x = 0 := by
  unfold fldB at h
  have := of_decide_eq_true h
  omega
theorem val_ne {x n : Int} (h : valB x n = true) : ¬ x = 0 := by
  unfold valB at h
  have := of_decide_eq_true h
  omega
theorem first_zero {n : Int} : ∀ {Ls : List (List Int)}, firstN n Ls = 0 → ∀ L ∈ Ls, oneN L n = 0
  | [], _, L, hL => by simp at hL
  | M :: r, h, L, hL => by
    unfold firstN at h
    by_cases h0 : oneN M n = 0
    · rw [if_pos h0] at h
      rcases List.mem_cons.1 hL with rfl | hL
      · exact h0
      · exact first_zero h L hL
    · rw [if_neg h0] at h; exact absurd h h0
theorem one_zero {L : List Int} {n : Int} (h : oneN L n = 0) : ∀ x ∈ L, fldB x n = true := by
  unfold oneN at h
  split at h
  · cases h
  · split at h
    · cases h
    · rename_i h2
      have : L.countP (fun x => fldB x n) = L.length := Nat.le_antisymm List.countP_le_length (by omega)
      exact fun x hx => by simpa using List.countP_eq_length.1 this x hx
theorem bad_all {E : Nat → Int} {n : Nat} (h : badAt E n = none) : ∀ j, j < n → E j = 0 := by
  unfold badAt at h
  rw [List.find?_eq_none] at h
  intro j hj
  have := h j (by simpa using hj)
  simpa using this
theorem bad_is {E : Nat → Int} {n k : Nat} (h : badAt E n = some k) : k < n ∧ (∀ j, j < k → E j = 0) ∧ ¬ E k = 0 := by
  unfold badAt at h
  rw [List.find?_range_eq_some] at h
  refine ⟨by simpa using h.2.1, fun j hj => ?_, by simpa using h.1⟩
  have := h.2.2 j hj
  simpa using this
theorem ok_of {p : Pg} (h : (progE p).1 = 0) : OkP p := by
  unfold progE at h
  by_cases h0 : topE p = 0
  · rw [if_pos h0] at h
    cases hb : badAt (fun k => (funE p (k : Int)).1) p.funcs.length with
    | some k =>
      exact absurd (by simpa [hb] using h) (bad_is hb).2.2
    | none =>
      have hF := bad_all hb
      have hT : chkN p.shapes = 0 ∧ (p.glob.all (fun k => fldB k p.shapes.length) = true) := by
        unfold topE at h0
        split at h0
        · rename_i h1
          split at h0
          · split at h0
            · rename_i h3; exact ⟨h1, h3⟩
            · cases h0
          · cases h0
        · rename_i h1; exact absurd h0 h1
      have hC : p.shapes.length ≤ 16 ∧ firstN p.shapes.length p.shapes = 0 := by
        have := hT.1
        unfold chkN at this
        split at this
        · cases this
        · exact ⟨by omega, this⟩
      have hH : ∀ f ∈ p.funcs, headE p f = 0 ∧ ∀ i ∈ f.code, insE p f i = 0 := by
        intro f hf
        obtain ⟨j, hj⟩ := List.mem_iff_getElem?.1 hf
        have hjl := (List.getElem?_eq_some_iff.1 hj).1
        have hq := hF j hjl
        unfold funE at hq
        rw [fnAt_nat hj] at hq
        simp only at hq
        by_cases hh : headE p f = 0
        · refine ⟨hh, fun i hi => ?_⟩
          rw [if_pos hh] at hq
          cases hb2 : badAt (fun k => insAt p (j : Int) (k : Int)) f.code.length with
          | some k =>
            rw [hb2] at hq
            exact absurd hq (bad_is hb2).2.2
          | none =>
            obtain ⟨k, hk⟩ := List.mem_iff_getElem?.1 hi
            have h3 := bad_all hb2 k (List.getElem?_eq_some_iff.1 hk).1
            unfold insAt at h3
            rw [fnAt_nat hj] at h3
            simp only at h3
            rw [inAt_nat hk] at h3
            exact h3
        · rw [if_neg hh] at hq
          exact absurd hq hh
      have hHd : ∀ f ∈ p.funcs, limB f = true ∧ f.args.all (fun k => valB k p.shapes.length) = true := by
        intro f hf
        have := (hH f hf).1
        unfold headE at this
        split at this
        · rename_i h1
          split at this
          · rename_i h2; exact ⟨h1, h2⟩
          · cases this
        · cases this
      refine ⟨fun L hL x hx => fld_ne (one_zero (first_zero hC.2 L hL) x hx), hC.1, fun x hx => fld_ne (List.all_eq_true.1 hT.2 x hx), fun f hf x hx => val_ne (List.all_eq_true.1 (hHd f hf).2 x hx), fun f hf => (hHd f hf).1, fun f hf => (hH f hf).2⟩
  · rw [if_neg h0] at h
    exact absurd h h0

/-- What an instruction of a form that may be has. -/
structure OkI (p : Pg) (f : Fn) (i : Ins) : Prop where
  form : formB p f i = true
  plac : placB p f i = true
  kind : kindB p i = true
theorem okI_of {p : Pg} {f : Fn} {i : Ins} (h : insE p f i = 0) : OkI p f i := by
  unfold insE at h
  split at h
  · rename_i h1
    split at h
    · rename_i h2
      split at h
      · rename_i h3; exact ⟨h1, h2, h3⟩
      · cases h
    · cases h
  · cases h
theorem OkI.kn {p : Pg} {f : Fn} {i : Ins} (h : OkI p f i) : kn i.o = true := by
  have := h.form
  unfold formB at this
  simp only [Bool.and_eq_true] at this
  exact this.1
theorem inB_iff {v n : Int} : inB v n = true ↔ 0 ≤ v ∧ v < n := by simp [inB]

theorem fieldO_mem {p : Pg} {base k c v : Int} (h : fieldO p base k c = some v) : upB base k = true ∧ ∃ L ∈ p.shapes, v ∈ L := by
  unfold fieldO at h
  split at h
  · rename_i h1
    refine ⟨h1, ?_⟩
    split at h
    · rename_i L hL
      split at h
      · exact ⟨L, List.mem_of_getElem? hL, List.mem_of_getElem? h⟩
      · cases h
    · cases h
  · cases h
theorem up_ne {b k : Int} (hb : 0 < b) (h : upB b k = true) : ¬ k = 0 := by
  unfold upB at h
  have := of_decide_eq_true h
  omega
theorem kat_mem {L : List Int} {n : Int} (h0 : 0 ≤ n) (h1 : n < (L.length : Int)) : kat L n ∈ L := by
  unfold kat
  have : n.toNat < L.length := by omega
  rw [List.getD_eq_getElem?_getD, List.getElem?_eq_getElem this]
  exact List.getElem_mem this
theorem pass_le {K K' args : List Int} {c : Int} (hle : LeK K K') (ha : ∀ x ∈ args, ¬ x = 0) (h : passB K c args = true) : passB K' c args = true := by
  unfold passB at h ⊢
  rw [beq_iff_eq] at h ⊢
  have hl := hle.len
  have h1 : args.length ≤ K.length - c.toNat := by
    have := congrArg List.length h
    simp at this
    omega
  apply List.ext_getElem
  · simp; omega
  · intro k hk hk2
    have hka : args[k] ∈ args := List.getElem_mem hk2
    have e : K.getD (c.toNat + k) 0 = args[k] := by
      have h3 : ((K.drop c.toNat).take args.length)[k]? = args[k]? := by rw [h]
      rw [List.getElem?_take_of_lt hk2, List.getElem?_drop, List.getElem?_eq_getElem hk2] at h3
      rw [List.getD_eq_getElem?_getD, h3]
      rfl
    have h5 : c.toNat + k < K.length := by omega
    have h6 := hle.at_ (c.toNat + k) h5
    rw [e] at h6
    rcases h6 with h6 | h6
    · exact absurd h6 (ha _ hka)
    · have h7 : c.toNat + k < K'.length := by omega
      simp only [List.getElem_take, List.getElem_drop]
      rw [h6, List.getD_eq_getElem?_getD, List.getElem?_eq_getElem h7]
      rfl

/-- More that is known, no less may be read, and what is set is the same. -/
theorem rd_mono {p : Pg} {f : Fn} {i : Ins} {K K' : List Int} (hp : OkP p) (hi : OkI p f i) (hle : LeK K K') (h : rdB p f i K = true) : rdB p f i K' = true ∧ stA p f i K' = stA p f i K := by
  have hk := hi.kn
  obtain ⟨o, a, b, c⟩ := i
  rcases kn_cases hk with rfl | rfl | rfl | rfl | rfl | rfl | rfl | rfl | rfl | rfl | rfl | rfl | rfl | rfl | rfl | rfl | rfl | rfl | rfl | rfl | rfl | rfl | rfl | rfl | rfl | rfl | rfl | rfl | rfl | rfl
  case inr.inr.inl =>
    have h1 : ¬ kat K b = 0 := by
      have : (kat K b != 0) = true := h
      simpa using this
    have h2 := hle.kat_ne h1
    exact ⟨by show (kat K' b != 0) = true; rw [h2]; simpa using h1, by show some (kat K' b) = some (kat K b); rw [h2]⟩
  case' inr.inr.inr.inl => have hh : (kat K b == 1 && kat K c == 1) = true := h
  case' inr.inr.inr.inr.inl => have hh : (kat K b == 1 && kat K c == 1) = true := h
  case' inr.inr.inr.inr.inr.inl => have hh : (kat K b == 1 && kat K c == 1) = true := h
  case' inr.inr.inr.inr.inr.inr.inl => have hh : (kat K b == 1 && kat K c == 1) = true := h
  case' inr.inr.inr.inr.inr.inr.inr.inl => have hh : (kat K b == 1 && kat K c == 1) = true := h
  case' inr.inr.inr.inr.inr.inr.inr.inr.inl => have hh : (kat K b == 1 && kat K c == 1) = true := h
  case inr.inr.inr.inr.inr.inr.inr.inr.inr.inr.inl =>
    have hh : (kat K a == 1) = true := h
    have h1 : kat K a = 1 := by simpa using hh
    have h2 : kat K' a = kat K a := hle.kat_ne (by rw [h1]; decide)
    exact ⟨by show (kat K' a == 1) = true; rw [h2, h1]; rfl, rfl⟩
  case inr.inr.inr.inr.inr.inr.inr.inr.inr.inr.inr.inr.inl =>
    have hh : upB 16 (kat K b) = true := h
    have h2 : kat K' b = kat K b := hle.kat_ne (up_ne (by decide) hh)
    exact ⟨by show upB 16 (kat K' b) = true; rw [h2]; exact hh, rfl⟩
  case inr.inr.inr.inr.inr.inr.inr.inr.inr.inr.inr.inr.inr.inr.inl =>
    have hh : (fieldO p 16 (kat K b) c).isSome = true := h
    obtain ⟨v, hv⟩ := Option.isSome_iff_exists.1 hh
    have h2 : kat K' b = kat K b := hle.kat_ne (up_ne (by decide) (fieldO_mem hv).1)
    exact ⟨by show (fieldO p 16 (kat K' b) c).isSome = true; rw [h2]; exact hh, by show some ((fieldO p 16 (kat K' b) c).getD 0) = some ((fieldO p 16 (kat K b) c).getD 0); rw [h2]⟩
  case inr.inr.inr.inr.inr.inr.inr.inr.inr.inr.inr.inr.inr.inr.inr.inl =>
    have hh : (fieldO p 16 (kat K a) b == some (kat K c)) = true := h
    have hv : fieldO p 16 (kat K a) b = some (kat K c) := by simpa using hh
    have h2 : kat K' a = kat K a := hle.kat_ne (up_ne (by decide) (fieldO_mem hv).1)
    obtain ⟨_, L, hL, hx⟩ := fieldO_mem hv
    have h3 : kat K' c = kat K c := hle.kat_ne (hp.shapes L hL _ hx)
    exact ⟨by show (fieldO p 16 (kat K' a) b == some (kat K' c)) = true; rw [h2, h3]; exact hh, rfl⟩
  case inr.inr.inr.inr.inr.inr.inr.inr.inr.inr.inr.inr.inr.inr.inr.inr.inr.inl =>
    have hh : (kat K b == kat p.glob a) = true := h
    have hv : kat K b = kat p.glob a := by simpa using hh
    have hA : 0 ≤ a ∧ a < p.glob.length := by
      have h4 := hi.plac
      unfold placB at h4
      simp only [Bool.and_eq_true] at h4
      exact inB_iff.1 h4.1
    have h3 : kat K' b = kat K b := hle.kat_ne (by rw [hv]; exact hp.glob _ (kat_mem hA.1 hA.2))
    exact ⟨by show (kat K' b == kat p.glob a) = true; rw [h3]; exact hh, rfl⟩
  case inr.inr.inr.inr.inr.inr.inr.inr.inr.inr.inr.inr.inr.inr.inr.inr.inr.inr.inr.inl =>
    have hh : (fieldO p 64 (kat K b) c).isSome = true := h
    obtain ⟨v, hv⟩ := Option.isSome_iff_exists.1 hh
    have h2 : kat K' b = kat K b := hle.kat_ne (up_ne (by decide) (fieldO_mem hv).1)
    exact ⟨by show (fieldO p 64 (kat K' b) c).isSome = true; rw [h2]; exact hh, by show some ((fieldO p 64 (kat K' b) c).getD 0) = some ((fieldO p 64 (kat K b) c).getD 0); rw [h2]⟩
  case inr.inr.inr.inr.inr.inr.inr.inr.inr.inr.inr.inr.inr.inr.inr.inr.inr.inr.inr.inr.inl =>
    have hh : (fieldO p 64 (kat K a) b == some (kat K c)) = true := h
    have hv : fieldO p 64 (kat K a) b = some (kat K c) := by simpa using hh
    have h2 : kat K' a = kat K a := hle.kat_ne (up_ne (by decide) (fieldO_mem hv).1)
    obtain ⟨_, L, hL, hx⟩ := fieldO_mem hv
    have h3 : kat K' c = kat K c := hle.kat_ne (hp.shapes L hL _ hx)
    exact ⟨by show (fieldO p 64 (kat K' a) b == some (kat K' c)) = true; rw [h2, h3]; exact hh, rfl⟩
  case inr.inr.inr.inr.inr.inr.inr.inr.inr.inr.inr.inr.inr.inr.inr.inr.inr.inr.inr.inr.inr.inr.inl =>
    have hh : (f.res == 0 || kat K a == f.res) = true := h
    refine ⟨?_, rfl⟩
    show (f.res == 0 || kat K' a == f.res) = true
    by_cases h0 : f.res = 0
    · simp [h0]
    · have h1 : kat K a = f.res := by simpa [h0] using hh
      have h2 : kat K' a = kat K a := hle.kat_ne (by rw [h1]; exact h0)
      rw [h2]; exact hh
  case inr.inr.inr.inr.inr.inr.inr.inr.inr.inr.inr.inr.inr.inr.inr.inr.inr.inr.inr.inr.inr.inr.inr.inr.inr.inl =>
    have hh : (kat K a == 1 && kat K b == 16) = true := h
    have h1 : kat K a = 1 ∧ kat K b = 16 := by simpa using hh
    have h2 : kat K' a = kat K a := hle.kat_ne (by rw [h1.1]; decide)
    have h3 : kat K' b = kat K b := hle.kat_ne (by rw [h1.2]; decide)
    exact ⟨by show (kat K' a == 1 && kat K' b == 16) = true; rw [h2, h3]; exact hh, rfl⟩
  case inr.inr.inr.inr.inr.inr.inr.inr.inr.inr.inr.inr.inr.inr.inr.inr.inr.inr.inr.inr.inr.inr.inr.inr.inr.inr.inr.inr.inr =>
    have hh : (kat K a == 1) = true := h
    have h1 : kat K a = 1 := by simpa using hh
    have h2 : kat K' a = kat K a := hle.kat_ne (by rw [h1]; decide)
    exact ⟨by show (kat K' a == 1) = true; rw [h2, h1]; rfl, rfl⟩
  all_goals first
    | exact ⟨rfl, rfl⟩
    | (have h1 : kat K b = 1 ∧ kat K c = 1 := by simpa using hh
       have h2 : kat K' b = kat K b := hle.kat_ne (by rw [h1.1]; decide)
       have h3 : kat K' c = kat K c := hle.kat_ne (by rw [h1.2]; decide)
       exact ⟨by show (kat K' b == 1 && kat K' c == 1) = true; rw [h2, h3]; exact hh, rfl⟩)
    | (have hh : passB K c (argsOf p b) = true := h
       refine ⟨pass_le hle ?_ hh, rfl⟩
       unfold argsOf
       cases hg : fnAt p b with
       | none => simp
       | some g =>
         obtain ⟨j, _, _, hj⟩ := fnAt_some hg
         exact hp.args g (List.mem_of_getElem? hj))

theorem stA_some {p : Pg} {f : Fn} {i : Ins} (K K' : List Int) : (stA p f i K).isSome = (stA p f i K').isSome := by
  unfold stA
  repeat' split
  all_goals rfl
theorem beh_mono {p : Pg} {f : Fn} {i : Ins} {K K' : List Int} (hp : OkP p) (hi : OkI p f i) (hle : LeK K K') : LeK (behK p f i K) (behK p f i K') := by
  have hs := stA_some (p := p) (f := f) (i := i) K K'
  unfold behK
  cases h1 : stA p f i K with
  | none =>
    cases h2 : stA p f i K' with
    | none => exact hle
    | some v => rw [h1, h2] at hs; cases hs
  | some u =>
    cases h2 : stA p f i K' with
    | none => rw [h1, h2] at hs; cases hs
    | some v =>
      simp only
      by_cases h26 : i.o = 26
      · have e1 : u = v := by
          have g : ∀ K, stA p f i K = some 1 := fun K => by unfold stA; rw [h26]; rfl
          rw [g] at h1 h2
          cases h1
          cases h2
          rfl
        rw [if_pos h26, if_pos h26]
        exact (hle.set _ (Or.inr e1)).set _ (Or.inr rfl)
      · rw [if_neg h26, if_neg h26]
        apply hle.set
        by_cases hr : rdB p f i K = true
        · obtain ⟨h3, h4⟩ := rd_mono hp hi hle hr
          right
          rw [if_pos hr, if_pos h3]
          rw [h1, h2] at h4
          cases h4
          rfl
        · left
          rw [if_neg hr]
theorem behK_len (p : Pg) (f : Fn) (i : Ins) (K : List Int) : (behK p f i K).length = K.length := by
  unfold behK
  split
  · rfl
  · split <;> simp

end Go.Proofs.Ytmjappcjfjajmaa

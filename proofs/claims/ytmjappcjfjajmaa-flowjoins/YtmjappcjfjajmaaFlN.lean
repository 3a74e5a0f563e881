/- Plain mathematics of chapter 12: the kinds of a function's places: what holds, the greatest such, and how a list of places that are to be looked at leads there. -/
import Derived.Test.YtmjappcjfjajmaaFlM
namespace Go.Proofs.Ytmjappcjfjajmaa
open Go.RowKit

/-- Kinds by place; none: not reached. -/
abbrev Ks := Nat → Option (List Int)
/-- The kinds with which a function begins. -/
def begK (f : Fn) : List Int := f.args ++ List.replicate (f.slots.toNat - f.args.length) 0
/-- What goes on from a place with kinds K is known where it comes. -/
def Clo (p : Pg) (f : Fn) (X : Ks) (pc : Nat) (K : List Int) : Prop :=
  ∀ i, f.code[pc]? = some i → ∀ t ∈ nxt i pc, t < f.code.length → ∃ l, X t = some l ∧ LeK l (behK p f i K)
structure Sol (p : Pg) (f : Fn) (X : Ks) : Prop where
  ini : ∃ l, X 0 = some l ∧ LeK l (begK f)
  cl : ∀ pc K, X pc = some K → Clo p f X pc K
/-- Y knows no more than X. -/
def GeX (X Y : Ks) : Prop := ∀ pc K, X pc = some K → ∃ l, Y pc = some l ∧ LeK l K
structure Great (p : Pg) (f : Fn) (X : Ks) : Prop where
  sol : Sol p f X
  ge : ∀ Y, Sol p f Y → GeX X Y
  sup : ∀ pc K, X pc = some K → pc < f.code.length ∧ (K.length : Int) = f.slots
theorem Great.same {p : Pg} {f : Fn} {X Y : Ks} (h : Great p f X) (g : Great p f Y) : X = Y := by
  funext pc
  cases hx : X pc with
  | some K =>
    obtain ⟨l, h1, h2⟩ := h.ge Y g.sol pc K hx
    obtain ⟨l', h3, h4⟩ := g.ge X h.sol pc l h1
    rw [hx] at h3
    cases h3
    rw [h1, h2.antisymm h4]
  | none =>
    cases hy : Y pc with
    | none => rfl
    | some l =>
      obtain ⟨l', h3, _⟩ := g.ge X h.sol pc l hy
      rw [hx] at h3
      cases h3
/-- The greatest kinds of the function fn. -/
noncomputable def gX (p : Pg) (fn : Nat) : Ks := Classical.epsilon (fun X => ∃ f, p.funcs[fn]? = some f ∧ Great p f X)
theorem gX_is {p : Pg} {fn : Nat} {f : Fn} {X : Ks} (hf : p.funcs[fn]? = some f) (h : Great p f X) : gX p fn = X := by
  have hE : ∃ X, ∃ f, p.funcs[fn]? = some f ∧ Great p f X := ⟨X, f, hf, h⟩
  obtain ⟨f', hf', h2⟩ := Classical.epsilon_spec hE
  have e : f' = f := Option.some.inj (hf'.symm.trans hf)
  rw [e] at h2
  exact h2.same h

/-- What comes to a place, joined with what is there. -/
def cmK (X : Ks) (t : Nat) (K : List Int) : Ks := fun s => if s = t then (match X t with | none => some K | some h => some (joinK h K)) else X s
theorem cmK_other {X : Ks} {t s : Nat} (K : List Int) (h : ¬ s = t) : cmK X t K s = X s := by unfold cmK; rw [if_neg h]
theorem cmK_none {X : Ks} {t : Nat} (K : List Int) (h : X t = none) : cmK X t K t = some K := by unfold cmK; rw [if_pos rfl, h]
theorem cmK_some {X : Ks} {t : Nat} {l : List Int} (K : List Int) (h : X t = some l) : cmK X t K t = some (joinK l K) := by unfold cmK; rw [if_pos rfl, h]
theorem cmK_same {X : Ks} {t : Nat} {l K : List Int} (h : X t = some l) (hj : joinK l K = l) : cmK X t K = X := by
  funext s
  by_cases e : s = t
  · rw [e, cmK_some K h, hj, h]
  · exact cmK_other K e
/-- Whatever was there is no less behind it. -/
theorem cm_le {X : Ks} {t : Nat} {K : List Int} (hl : ∀ l, X t = some l → l.length = K.length) {s : Nat} {l : List Int} (h : X s = some l) : ∃ l', cmK X t K s = some l' ∧ LeK l' l := by
  by_cases e : s = t
  · subst e
    exact ⟨_, cmK_some K h, join_le_left (hl l h)⟩
  · exact ⟨l, by rw [cmK_other K e, h], LeK.refl _⟩
theorem cm_at {X : Ks} {t : Nat} {K : List Int} (hl : ∀ l, X t = some l → l.length = K.length) : ∃ l', cmK X t K t = some l' ∧ LeK l' K := by
  cases h : X t with
  | none => exact ⟨K, cmK_none K h, LeK.refl _⟩
  | some l => exact ⟨_, cmK_some K h, join_le_right (hl l h)⟩
theorem Clo.mono {p : Pg} {f : Fn} {X X' : Ks} {pc : Nat} {K : List Int} (h : Clo p f X pc K) (hle : ∀ s l, X s = some l → ∃ l', X' s = some l' ∧ LeK l' l) : Clo p f X' pc K := fun i hi t ht htl => by
  obtain ⟨l, h1, h2⟩ := h i hi t ht htl
  obtain ⟨l', h3, h4⟩ := hle t l h1
  exact ⟨l', h3, h4.trans h2⟩

/-- W: the places that are to be looked at. -/
structure Fi (p : Pg) (f : Fn) (X : Ks) (W : List Nat) : Prop where
  ini : ∃ l, X 0 = some l ∧ LeK l (begK f)
  sup : ∀ pc K, X pc = some K → pc < f.code.length ∧ (K.length : Int) = f.slots
  wk : ∀ q ∈ W, (X q).isSome = true
  cl : ∀ q K, X q = some K → q ∈ W ∨ Clo p f X q K
  gr : ∀ Y, Sol p f Y → GeX X Y
theorem Fi.great {p : Pg} {f : Fn} {X : Ks} (h : Fi p f X []) : Great p f X :=
  ⟨⟨h.ini, fun pc K hk => by
    rcases h.cl pc K hk with e | e
    · simp at e
    · exact e⟩, h.gr, h.sup⟩
/-- In the midst of a place: k of those where it goes on are done. -/
structure Fj (p : Pg) (f : Fn) (X : Ks) (W : List Nat) (pc : Nat) (i : Ins) (K0 : List Int) (k : Nat) : Prop where
  ini : ∃ l, X 0 = some l ∧ LeK l (begK f)
  sup : ∀ pc K, X pc = some K → pc < f.code.length ∧ (K.length : Int) = f.slots
  wk : ∀ q ∈ W, (X q).isSome = true
  gr : ∀ Y, Sol p f Y → GeX X Y
  bh : ∀ Y, Sol p f Y → ∀ t ∈ nxt i pc, t < f.code.length → ∃ l, Y t = some l ∧ LeK l (behK p f i K0)
  len : ((behK p f i K0).length : Int) = f.slots
  cl : ∀ q K, X q = some K → q ∈ W ∨ (¬ q = pc ∧ Clo p f X q K) ∨ (q = pc ∧ K = K0 ∧ ∀ t ∈ (nxt i pc).take k, t < f.code.length → ∃ l, X t = some l ∧ LeK l (behK p f i K0))
theorem Fi.pop {p : Pg} {f : Fn} {X : Ks} {W : List Nat} {pc : Nat} {i : Ins} {K0 : List Int} (hp : OkP p) (hf : f ∈ p.funcs) (h : Fi p f X (W ++ [pc])) (hi : f.code[pc]? = some i) (hk : X pc = some K0) : Fj p f X W pc i K0 0 where
  ini := h.ini
  sup := h.sup
  wk := fun q hq => h.wk q (List.mem_append_left _ hq)
  gr := h.gr
  bh := fun Y hY t ht htl => by
    obtain ⟨l, h1, h2⟩ := h.gr Y hY pc K0 hk
    obtain ⟨l', h3, h4⟩ := hY.cl pc l h1 i hi t ht htl
    exact ⟨l', h3, h4.trans (beh_mono hp (okI_of (hp.ins f hf i (List.mem_of_getElem? hi))) h2)⟩
  len := by rw [behK_len]; exact (h.sup pc K0 hk).2
  cl := fun q K hq => by
    by_cases e : q = pc
    · subst e
      rw [hk] at hq
      cases hq
      exact Or.inr (Or.inr ⟨rfl, rfl, fun t ht => by simp at ht⟩)
    · rcases h.cl q K hq with h1 | h1
      · rcases List.mem_append.1 h1 with h2 | h2
        · exact Or.inl h2
        · exact absurd (by simpa using h2) e
      · exact Or.inr (Or.inl ⟨e, h1⟩)
section
variable {p : Pg} {f : Fn} {X : Ks} {W : List Nat} {pc : Nat} {i : Ins} {K0 : List Int} {k t : Nat}
theorem Fj.out (h : Fj p f X W pc i K0 k) (ht : (nxt i pc)[k]? = some t) (htl : ¬ t < f.code.length) : Fj p f X W pc i K0 (k + 1) where
  ini := h.ini
  sup := h.sup
  wk := h.wk
  gr := h.gr
  bh := h.bh
  len := h.len
  cl := fun q K hq => by
    rcases h.cl q K hq with h1 | h1 | ⟨h1, h2, h3⟩
    · exact Or.inl h1
    · exact Or.inr (Or.inl h1)
    · refine Or.inr (Or.inr ⟨h1, h2, fun s hs hsl => ?_⟩)
      obtain ⟨hlt, he⟩ := List.getElem?_eq_some_iff.1 ht
      rw [List.take_succ_eq_append_getElem hlt, he] at hs
      rcases List.mem_append.1 hs with hs | hs
      · exact h3 s hs hsl
      · exact absurd hsl (by rw [show s = t by simpa using hs]; exact htl)
theorem Fj.lens (h : Fj p f X W pc i K0 k) (l : List Int) (hl : X t = some l) : l.length = (behK p f i K0).length := by
  have h1 := (h.sup t l hl).2
  have h2 := h.len
  omega
/-- What came changed nothing. -/
theorem Fj.same (h : Fj p f X W pc i K0 k) (ht : (nxt i pc)[k]? = some t) {l : List Int} (hl : X t = some l) (hj : joinK l (behK p f i K0) = l) : Fj p f X W pc i K0 (k + 1) where
  ini := h.ini
  sup := h.sup
  wk := h.wk
  gr := h.gr
  bh := h.bh
  len := h.len
  cl := fun q K hq => by
    rcases h.cl q K hq with h1 | h1 | ⟨h1, h2, h3⟩
    · exact Or.inl h1
    · exact Or.inr (Or.inl h1)
    · refine Or.inr (Or.inr ⟨h1, h2, fun s hs hsl => ?_⟩)
      obtain ⟨hlt, he⟩ := List.getElem?_eq_some_iff.1 ht
      rw [List.take_succ_eq_append_getElem hlt, he] at hs
      rcases List.mem_append.1 hs with hs | hs
      · exact h3 s hs hsl
      · rw [show s = t by simpa using hs]
        refine ⟨l, hl, ?_⟩
        have := join_le_right (h.lens l hl)
        rw [hj] at this
        exact this
theorem Fj.come (h : Fj p f X W pc i K0 k) (ht : (nxt i pc)[k]? = some t) (htl : t < f.code.length) : Fj p f (cmK X t (behK p f i K0)) (W ++ [t]) pc i K0 (k + 1) where
  ini := by
    obtain ⟨l, h1, h2⟩ := h.ini
    obtain ⟨l', h3, h4⟩ := cm_le (K := behK p f i K0) (t := t) (h.lens) h1
    exact ⟨l', h3, h4.trans h2⟩
  sup := fun q K hq => by
    by_cases e : q = t
    · subst e
      refine ⟨htl, ?_⟩
      cases hx : X q with
      | none =>
        rw [cmK_none _ hx] at hq
        cases hq
        exact h.len
      | some l =>
        rw [cmK_some _ hx] at hq
        cases hq
        rw [joinK_len, h.lens l hx]
        have := h.len
        omega
    · rw [cmK_other _ e] at hq
      exact h.sup q K hq
  wk := fun q hq => by
    by_cases e : q = t
    · subst e
      obtain ⟨l', h3, _⟩ := cm_at (X := X) (K := behK p f i K0) (t := q) (h.lens)
      rw [h3]; rfl
    · rw [cmK_other _ e]
      rcases List.mem_append.1 hq with hq | hq
      · exact h.wk q hq
      · exact absurd (by simpa using hq) e
  gr := fun Y hY q K hq => by
    have hm : t ∈ nxt i pc := List.mem_of_getElem? ht
    obtain ⟨l, h1, h2⟩ := h.bh Y hY t hm htl
    by_cases e : q = t
    · subst e
      cases hx : X q with
      | none =>
        rw [cmK_none _ hx] at hq
        cases hq
        exact ⟨l, h1, h2⟩
      | some l0 =>
        rw [cmK_some _ hx] at hq
        cases hq
        obtain ⟨l', h3, h4⟩ := h.gr Y hY q l0 hx
        rw [h1] at h3
        cases h3
        exact ⟨l, h1, le_join h4 h2⟩
    · rw [cmK_other _ e] at hq
      exact h.gr Y hY q K hq
  bh := h.bh
  len := h.len
  cl := fun q K hq => by
    by_cases e : q = t
    · exact Or.inl (List.mem_append_right _ (by simp [e]))
    · rw [cmK_other _ e] at hq
      have hle : ∀ s l, X s = some l → ∃ l', cmK X t (behK p f i K0) s = some l' ∧ LeK l' l := fun s l hs => cm_le h.lens hs
      rcases h.cl q K hq with h1 | ⟨h1, h2⟩ | ⟨h1, h2, h3⟩
      · exact Or.inl (List.mem_append_left _ h1)
      · exact Or.inr (Or.inl ⟨h1, h2.mono hle⟩)
      · refine Or.inr (Or.inr ⟨h1, h2, fun s hs hsl => ?_⟩)
        obtain ⟨hlt, he⟩ := List.getElem?_eq_some_iff.1 ht
        rw [List.take_succ_eq_append_getElem hlt, he] at hs
        rcases List.mem_append.1 hs with hs | hs
        · obtain ⟨l, g1, g2⟩ := h3 s hs hsl
          obtain ⟨l', g3, g4⟩ := hle s l g1
          exact ⟨l', g3, g4.trans g2⟩
        · rw [show s = t by simpa using hs]
          exact cm_at h.lens
theorem Fj.done (h : Fj p f X W pc i K0 k) (hi : f.code[pc]? = some i) (hk : (nxt i pc).length ≤ k) : Fi p f X W where
  ini := h.ini
  sup := h.sup
  wk := h.wk
  gr := h.gr
  cl := fun q K hq => by
    rcases h.cl q K hq with h1 | ⟨_, h1⟩ | ⟨h1, h2, h3⟩
    · exact Or.inl h1
    · exact Or.inr h1
    · subst h1
      subst h2
      rw [List.take_of_length_le hk] at h3
      refine Or.inr fun i' hi' t ht htl => ?_
      rw [hi] at hi'
      cases hi'
      exact h3 t ht htl
end
theorem beg_len {f : Fn} (h : limB f = true) : ((begK f).length : Int) = f.slots ∧ f.slots ≤ 16 ∧ 1 ≤ f.code.length ∧ f.code.length ≤ 64 ∧ (f.args.length : Int) ≤ f.slots ∧ f.objs.length ≤ 8 := by
  unfold limB at h
  simp only [Bool.and_eq_true, decide_eq_true_eq] at h
  refine ⟨?_, h.2.1, h.2.2.2.1, h.2.2.2.2, h.1, h.2.2.1⟩
  unfold begK
  rw [List.length_append, List.length_replicate]
  omega
/-- Where it begins. -/
def begX (f : Fn) : Ks := fun s => if s = 0 then some (begK f) else none
theorem fi_start (p : Pg) {f : Fn} (h : limB f = true) : Fi p f (begX f) [0] where
  ini := ⟨_, rfl, LeK.refl _⟩
  sup := fun pc K hk => by
    unfold begX at hk
    split at hk
    · rename_i e
      cases hk
      have := beg_len h
      exact ⟨by omega, this.1⟩
    · cases hk
  wk := fun q hq => by
    have e : q = 0 := by simpa using hq
    subst e
    rfl
  cl := fun q K hq => by
    unfold begX at hq
    split at hq
    · rename_i e; exact Or.inl (by simp [e])
    · cases hq
  gr := fun Y hY q K hq => by
    unfold begX at hq
    split at hq
    · rename_i e
      subst e
      cases hq
      exact hY.ini
    · cases hq
/-- No less by what is none. -/
theorem cm_begin (f : Fn) : cmK (fun _ => none) 0 (begK f) = begX f := by
  funext s
  by_cases e : s = 0
  · subst e; rw [cmK_none _ rfl]; rfl
  · rw [cmK_other _ e]; unfold begX; rw [if_neg e]

/-! ### How much may still be lost -/
def nzK (K : List Int) : Nat := K.countP (fun x => x != 0)
def potA (m : Nat) (o : Option (List Int)) : Nat := match o with | none => m + 1 | some K => nzK K
def potK (n m : Nat) (X : Ks) : Nat := ((List.range n).map (fun q => potA m (X q))).sum
theorem potK_succ (n m : Nat) (X : Ks) : potK (n + 1) m X = potK n m X + potA m (X n) := by
  unfold potK
  rw [List.range_succ, List.map_append, List.sum_append]
  simp
theorem nz_le : ∀ {a b : List Int}, LeK a b → nzK a ≤ nzK b ∧ (nzK a = nzK b → a = b)
  | [], [], _ => ⟨Nat.le_refl _, fun _ => rfl⟩
  | [], y :: b, h => by have := h.len; simp at this
  | x :: a, [], h => by have := h.len; simp at this
  | x :: a, y :: b, h => by
    have ht : LeK a b := ⟨by have := h.len; simpa using this, fun k hk => by
      have := h.at_ (k + 1) (by simp; omega)
      simpa using this⟩
    obtain ⟨h1, h2⟩ := nz_le ht
    have h0 : x = 0 ∨ x = y := by
      have := h.at_ 0 (by simp)
      simpa using this
    unfold nzK at h1 h2 ⊢
    rw [List.countP_cons, List.countP_cons]
    by_cases hx : x = 0
    · subst hx
      by_cases hy : y = 0
      · subst hy
        simp only [bne_self_eq_false, Bool.false_eq_true, if_false, Nat.add_zero]
        exact ⟨h1, fun e => by rw [h2 e]⟩
      · have hy' : (y != 0) = true := by simpa using hy
        simp only [bne_self_eq_false, Bool.false_eq_true, if_false, Nat.add_zero, hy', if_true]
        exact ⟨by omega, fun e => absurd e (by omega)⟩
    · have e : x = y := h0.resolve_left hx
      subst e
      exact ⟨by omega, fun e => by rw [h2 (by omega)]⟩
theorem nz_len (K : List Int) : nzK K ≤ K.length := List.countP_le_length
/-- What changes a place makes it less. -/
theorem pot_come {n m t : Nat} {X : Ks} {K : List Int} (ht : t < n) (hK : K.length ≤ m) (hl : ∀ l, X t = some l → l.length = K.length) (hc : ∀ l, X t = some l → ¬ joinK l K = l) : potK n m (cmK X t K) + 1 ≤ potK n m X := by
  have hA : potA m (cmK X t K t) + 1 ≤ potA m (X t) := by
    cases hx : X t with
    | none =>
      rw [cmK_none _ hx]
      have := nz_len K
      show nzK K + 1 ≤ m + 1
      omega
    | some l =>
      rw [cmK_some _ hx]
      obtain ⟨h1, h2⟩ := nz_le (join_le_left (hl l hx))
      have : ¬ nzK (joinK l K) = nzK l := fun e => hc l hx (h2 e)
      show nzK (joinK l K) + 1 ≤ nzK l
      omega
  have hE : ∀ k, k ≤ t → potK k m (cmK X t K) = potK k m X := by
    intro k
    induction k with
    | zero => intro _; rfl
    | succ k ih =>
      intro hk
      rw [potK_succ, potK_succ, ih (by omega), cmK_other _ (by omega)]
  have hG : ∀ d, potK (t + 1 + d) m (cmK X t K) + 1 ≤ potK (t + 1 + d) m X := by
    intro d
    induction d with
    | zero =>
      rw [Nat.add_zero, potK_succ, potK_succ, hE t (Nat.le_refl _)]
      omega
    | succ d ih =>
      rw [show t + 1 + (d + 1) = t + 1 + d + 1 by omega, potK_succ, potK_succ, cmK_other (s := t + 1 + d) _ (by omega)]
      omega
  have := hG (n - (t + 1))
  rw [show t + 1 + (n - (t + 1)) = n by omega] at this
  exact this

/-! ### A program's first error, and its place -/
def leaB (f : Fn) (pc : Nat) : Bool := match f.code[pc]? with | some i => (nxt i pc).contains f.code.length | none => false
def readB (p : Pg) (f : Fn) (pc : Nat) (K : List Int) : Bool := match f.code[pc]? with | some i => rdB p f i K | none => true
noncomputable def e1 (p : Pg) (fn : Nat) (f : Fn) (pc : Nat) : Int := if (gX p fn pc).isSome = true ∧ leaB f pc = true then 7 else 0
noncomputable def e2 (p : Pg) (fn : Nat) (f : Fn) (pc : Nat) : Int := match gX p fn pc with | some K => if readB p f pc K = true then 0 else 3 | none => 0
noncomputable def flF (p : Pg) (fn : Nat) (f : Fn) : Int × Nat :=
  match badAt (e1 p fn f) f.code.length with
  | some k => (7, k)
  | none => match badAt (e2 p fn f) f.code.length with | some k => (3, k) | none => (0, 0)
noncomputable def flAt (p : Pg) (fn : Nat) : Int × Nat := match p.funcs[fn]? with | some f => flF p fn f | none => (0, 0)
noncomputable def verE (p : Pg) : Int × Nat × Nat :=
  if (progE p).1 = 0 then (match badAt (fun k => (flAt p k).1) p.funcs.length with | some k => ((flAt p k).1, k, (flAt p k).2) | none => (0, 0, 0)) else progE p
theorem flF_le {p : Pg} {fn k : Nat} {f : Fn} (hk : k < f.code.length) (ha : ∀ j, j < k → e1 p fn f j = 0) (h : ¬ e1 p fn f k = 0) : flF p fn f = (7, k) := by
  unfold flF
  rw [bad_some hk ha h]
theorem flF_rd {p : Pg} {fn k : Nat} {f : Fn} (h1 : ∀ j, j < f.code.length → e1 p fn f j = 0) (hk : k < f.code.length) (ha : ∀ j, j < k → e2 p fn f j = 0) (h : ¬ e2 p fn f k = 0) : flF p fn f = (3, k) := by
  unfold flF
  rw [bad_none h1]
  simp only
  rw [bad_some hk ha h]
theorem flF_ok {p : Pg} {fn : Nat} {f : Fn} (h1 : ∀ j, j < f.code.length → e1 p fn f j = 0) (h2 : ∀ j, j < f.code.length → e2 p fn f j = 0) : flF p fn f = (0, 0) := by
  unfold flF
  rw [bad_none h1]
  simp only
  rw [bad_none h2]
theorem flF_zero {p : Pg} {fn : Nat} {f : Fn} (h : (flF p fn f).1 = 0) : (∀ j, j < f.code.length → e1 p fn f j = 0) ∧ (∀ j, j < f.code.length → e2 p fn f j = 0) := by
  unfold flF at h
  cases h1 : badAt (e1 p fn f) f.code.length with
  | some k => rw [h1] at h; cases h
  | none =>
    rw [h1] at h
    simp only at h
    cases h2 : badAt (e2 p fn f) f.code.length with
    | some k => rw [h2] at h; cases h
    | none => exact ⟨bad_all h1, bad_all h2⟩
theorem verE_top {p : Pg} (h : ¬ (progE p).1 = 0) : verE p = progE p := by unfold verE; rw [if_neg h]
theorem verE_bad {p : Pg} {k : Nat} {s : Int} {y : Nat} (h : (progE p).1 = 0) (hk : k < p.funcs.length) (ha : ∀ j, j < k → (flAt p j).1 = 0) (hs : flAt p k = (s, y)) (h0 : ¬ s = 0) : verE p = (s, k, y) := by
  unfold verE
  rw [if_pos h, bad_some hk ha (by rw [hs]; exact h0)]
  simp only [hs]
theorem verE_ok {p : Pg} (h : (progE p).1 = 0) (ha : ∀ j, j < p.funcs.length → (flAt p j).1 = 0) : verE p = (0, 0, 0) := by
  unfold verE
  rw [if_pos h, bad_none ha]
theorem verE_zero {p : Pg} (h : (verE p).1 = 0) : (progE p).1 = 0 ∧ ∀ j, j < p.funcs.length → (flAt p j).1 = 0 := by
  unfold verE at h
  by_cases h0 : (progE p).1 = 0
  · rw [if_pos h0] at h
    refine ⟨h0, ?_⟩
    cases hb : badAt (fun k => (flAt p k).1) p.funcs.length with
    | none => exact bad_all hb
    | some k => rw [hb] at h; exact absurd h (bad_is hb).2.2
  · rw [if_neg h0] at h
    exact absurd h h0

end Go.Proofs.Ytmjappcjfjajmaa

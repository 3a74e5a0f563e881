/- Sweeping a page: what it comes to, slot by slot. -/
import Derived.Test.YtfkimmbnmcgjiaaDoorHpL
namespace Go.Proofs.YtfkimmbnmcgjiaaDoor
open Go.RowKit

theorem els_at (U : Nat → Bool) : ∀ n i, i < cnt U n → ∃ y, y < n ∧ U y = true ∧ (els U n).getD i 0 = (y : Int) ∧ cnt U y = i
  | 0, i, h => by simp [cnt] at h
  | n + 1, i, h => by
    by_cases hi : i < cnt U n
    · obtain ⟨y, h1, h2, h3, h4⟩ := els_at U n i hi
      refine ⟨y, by omega, h2, ?_, h4⟩
      rw [els, List.getD, List.getElem?_append_left (by rw [els_len]; exact hi)]
      exact h3
    · have hU : U n = true := by
        cases e : U n with
        | true => rfl
        | false => simp [cnt, e] at h; omega
      simp [cnt, hU] at h
      have e : i = cnt U n := by omega
      refine ⟨n, by omega, hU, ?_, e.symm⟩
      rw [els, List.getD, List.getElem?_append_right (by rw [els_len]; omega), els_len, e]
      simp [hU]
theorem cnt_between {U : Nat → Bool} {a x : Nat} : ∀ {c : Nat}, cnt U a = cnt U c → a ≤ x → x < c → U x = false
  | 0, _, _, h => by omega
  | c + 1, h, ha, hx => by
    have h1 : cnt U (c + 1) = cnt U c + (if U c then 1 else 0) := rfl
    have h2 : cnt U a ≤ cnt U c := by
      obtain ⟨d, rfl⟩ : ∃ d, c = a + d := ⟨c - a, by omega⟩
      rw [cnt_add]; omega
    cases e : U c with
    | true => rw [h1, e] at h; simp at h; omega
    | false =>
      rw [h1, e] at h
      by_cases hxc : x = c
      · rw [hxc]; exact e
      · exact cnt_between (by simpa using h) ha (by omega)

/-- Is there a White object? -/
def whiteB (s : Hs) (k x : Nat) : Bool := match s.O k x with | some o => decide (o.co = 0) | none => false
def swOb : Option Ob → Option Ob
  | some o => if o.co = 0 then none else some ⟨o.sh, o.se, 0⟩
  | none => none
def swO (s : Hs) (k t k' x : Nat) : Option Ob := if k' = k ∧ x < t then swOb (s.O k x) else s.O k' x
def swS (s : Hs) (k t : Nat) (U : Nat → Bool) (x : Nat) : Bool := U x && !(decide (x < t) && whiteB s k x)
/-- The Heap of which the slots of page k below t were swept. -/
def Hs.sw (s : Hs) (k : Nat) (p : PSt) (t : Nat) : Hs := { s with P := upP s.P k (some ⟨p.blk, p.c, swS s k t p.U, swS s k t p.M⟩), O := swO s k t }

theorem sw_zero (s : Hs) {k : Nat} {p : PSt} (hp : s.P k = some p) : s.sw k p 0 = s := by
  have e1 : ∀ U, swS s k 0 U = U := fun U => by funext x; simp [swS]
  have e2 : swO s k 0 = s.O := by funext k' x; simp [swO]
  have e3 : upP s.P k (some ⟨p.blk, p.c, p.U, p.M⟩) = s.P := by
    funext k'
    by_cases e : k' = k
    · rw [e, upP_same, hp]
    · rw [upP_other _ _ e]
  unfold Hs.sw
  rw [e1, e1, e2, e3]
theorem sw_eq {s : Hs} {k : Nat} {p : PSt} {t t' : Nat} (h : ∀ x, t ≤ x → x < t' → s.O k x = none) (hle : t ≤ t') : s.sw k p t = s.sw k p t' := by
  have hw : ∀ x, (decide (x < t) && whiteB s k x) = (decide (x < t') && whiteB s k x) := by
    intro x
    by_cases h1 : x < t
    · simp [h1, Nat.lt_of_lt_of_le h1 hle]
    · by_cases h2 : x < t'
      · simp [h1, h2, whiteB, h x (by omega) h2]
      · simp [h1, h2]
  have e1 : ∀ U, swS s k t U = swS s k t' U := fun U => by funext x; unfold swS; rw [hw]
  have e2 : swO s k t = swO s k t' := by
    funext k' x
    unfold swO
    by_cases h0 : k' = k
    · subst h0
      by_cases h1 : x < t
      · rw [if_pos ⟨rfl, h1⟩, if_pos ⟨rfl, by omega⟩]
      · rw [if_neg (by omega)]
        by_cases h2 : x < t'
        · rw [if_pos ⟨rfl, h2⟩, h x (by omega) h2]; rfl
        · rw [if_neg (by omega)]
    · rw [if_neg (by simp [h0]), if_neg (by simp [h0])]
  unfold Hs.sw
  rw [e1, e1, e2]

section
variable {w : World} {B : Nat} {b : Hb} {n : Nat} {nf : List Int} {s : Hs}

/-- An object's slot is given back: first the map, then the arena. -/
theorem HpAt.free (h : HpAt w B b n nf s) {w1 w2 : World} {k y : Nat} {q : PSt} (hq : s.P k = some q) (hm : MpAt w1 b.bm s.ser (upO s.O k y none)) (h1 : But b.bm w w1)
    (ha : ArAt w2 B b.ba b.bp b.bw n (upP s.P k (some ⟨q.blk, q.c, up q.U y false, up q.M y false⟩)) s.W) (h2 : But q.blk w1 w2) :
    HpAt w2 B b n nf { s with P := upP s.P k (some ⟨q.blk, q.c, up q.U y false, up q.M y false⟩), O := upO s.O k y none } ∧ Hf B b w w2 := by
  have f1 : Hf B b w w1 := Fz.of_but h1 (by simp)
  have hpr := (h.ar.pg k q hq).hd
  have hpr1 := h1.row hpr (h.mp.no_row hpr)
  have f2 : Fz B [] [81] w1 w2 := Fz.of_row h2 hpr1 (h.ar.b3 k q hq) (by simp)
  have hm2 : MpAt w2 b.bm s.ser (upO s.O k y none) := hm.of_block (h2.block _ hm.lt (fun e => hm.no_row hpr1 e.symm))
  refine ⟨⟨f2.row (h1.row h.hd (h.mp.no_row h.hd)) (by simp) (by decide), ha, f2.own (f1.own h.fs h.fm (by decide)) (by simp) (by decide), hm2, h.fw, ?_, ?_, h.small, h.few, h.bB, h.mB, h.ser9, h.giv9⟩, f1.trans (f2.mono (by simp))⟩
  · intro k' x
    show (upO s.O k y none k' x).isSome = true ↔ ∃ p, upP s.P k (some ⟨q.blk, q.c, up q.U y false, up q.M y false⟩) k' = some p ∧ _
    by_cases e : k' = k
    · subst e
      rw [upP_same]
      by_cases e2 : x = y
      · subst e2
        rw [upO_same]
        constructor
        · intro e; cases e
        · rintro ⟨p, h1, _, h3⟩
          cases h1
          simp [up] at h3
      · rw [upO_other _ _ (by omega), h.use k' x]
        constructor
        · rintro ⟨p, g1, g2, g3⟩
          rw [hq] at g1; cases g1
          exact ⟨_, rfl, g2, by simp [up, e2, g3]⟩
        · rintro ⟨p, g1, g2, g3⟩
          cases g1
          exact ⟨q, hq, g2, by simpa [up, e2] using g3⟩
    · rw [upO_other _ _ (by omega), upP_other _ _ e]
      exact h.use k' x
  · intro k' x o ho
    have h3 : upO s.O k y none k' x = some o := ho
    show ∃ (j : Nat) (p : PSt), o.sh = (j : Int) ∧ j < nf.length ∧ upP s.P k (some ⟨q.blk, q.c, up q.U y false, up q.M y false⟩) k' = some p ∧ p.c = ofN (nf.getD j 0)
    by_cases e : k' = k ∧ x = y
    · obtain ⟨rfl, rfl⟩ := e
      rw [upO_same] at h3; cases h3
    · rw [upO_other _ _ e] at h3
      obtain ⟨j, p, g1, g2, g3, g4⟩ := h.fit k' x o h3
      by_cases e1 : k' = k
      · subst e1
        rw [hq] at g3; cases g3
        exact ⟨j, _, g1, g2, upP_same _ _ _, g4⟩
      · exact ⟨j, p, g1, g2, by rw [upP_other _ _ e1]; exact g3, g4⟩

theorem sw_free {k y : Nat} {p : PSt} {o : Ob} (ho : s.O k y = some o) (hc : o.co = 0) :
    ({ (s.sw k p y) with P := upP (s.sw k p y).P k (some ⟨p.blk, p.c, up (swS s k y p.U) y false, up (swS s k y p.M) y false⟩), O := upO (s.sw k p y).O k y none } : Hs) = s.sw k p (y + 1) := by
  have hw : whiteB s k y = true := by simp [whiteB, ho, hc]
  have e1 : ∀ U, up (swS s k y U) y false = swS s k (y + 1) U := fun U => by
    funext x
    by_cases e : x = y
    · subst e; simp [up, swS, hw]
    · have : (x < y + 1) ↔ (x < y) := by omega
      simp [up, swS, e, this]
  have e2 : upO (swO s k y) k y none = swO s k (y + 1) := by
    funext k' x
    by_cases e : k' = k ∧ x = y
    · obtain ⟨rfl, rfl⟩ := e
      rw [upO_same]
      unfold swO
      rw [if_pos ⟨rfl, by omega⟩, ho]
      simp [swOb, hc]
    · rw [upO_other _ _ e]
      unfold swO
      by_cases e3 : k' = k ∧ x < y
      · rw [if_pos e3, if_pos (by omega)]
      · rw [if_neg e3, if_neg (by omega)]
  have e3 : upP (upP s.P k (some ⟨p.blk, p.c, swS s k y p.U, swS s k y p.M⟩)) k (some ⟨p.blk, p.c, up (swS s k y p.U) y false, up (swS s k y p.M) y false⟩) = upP s.P k (some ⟨p.blk, p.c, swS s k (y + 1) p.U, swS s k (y + 1) p.M⟩) := by
    rw [e1, e1]
    funext k'
    by_cases e : k' = k
    · rw [e, upP_same, upP_same]
    · rw [upP_other _ _ e, upP_other _ _ e, upP_other _ _ e]
  show Hs.mk _ _ _ _ _ = Hs.mk _ _ _ _ _
  unfold Hs.sw
  simp only []
  rw [e3, e2]
theorem sw_keep {k y : Nat} {p : PSt} {o : Ob} (ho : s.O k y = some o) (hc : o.co ≠ 0) :
    ({ (s.sw k p y) with O := upO (s.sw k p y).O k y (some ⟨o.sh, o.se, 0⟩) } : Hs) = s.sw k p (y + 1) := by
  have hw : whiteB s k y = false := by simp [whiteB, ho, hc]
  have e1 : ∀ U, swS s k y U = swS s k (y + 1) U := fun U => by
    funext x
    by_cases e : x = y
    · subst e; simp [swS, hw]
    · have : (x < y + 1) ↔ (x < y) := by omega
      simp [swS, this]
  have e2 : upO (swO s k y) k y (some ⟨o.sh, o.se, 0⟩) = swO s k (y + 1) := by
    funext k' x
    by_cases e : k' = k ∧ x = y
    · obtain ⟨rfl, rfl⟩ := e
      rw [upO_same]
      unfold swO
      rw [if_pos ⟨rfl, by omega⟩, ho]
      simp [swOb, hc]
    · rw [upO_other _ _ e]
      unfold swO
      by_cases e3 : k' = k ∧ x < y
      · rw [if_pos e3, if_pos (by omega)]
      · rw [if_neg e3, if_neg (by omega)]
  unfold Hs.sw
  simp only []
  rw [e2, e1, e1]
theorem HpAt.free_slot (h : HpAt w B b n nf s) {k x : Nat} {p : PSt} (hp : s.P k = some p) (hU : p.U x = false) : s.O k x = none := by
  cases e : s.O k x with
  | none => rfl
  | some o =>
    obtain ⟨q, h1, _, h3⟩ := (h.use k x).1 (by rw [e]; rfl)
    rw [hp] at h1
    cases h1
    rw [hU] at h3
    cases h3
/-- Between two used slots nothing is swept. -/
theorem sw_step (h : HpAt w B b n nf s) {k t y : Nat} {p : PSt} (hp : s.P k = some p) (hc : cnt p.U t = cnt p.U y) (hy : p.U y = true) : s.sw k p t = s.sw k p y ∧ cnt (whiteB s k) t = cnt (whiteB s k) y := by
  have hle : t ≤ y := by
    rcases Nat.lt_or_ge y t with g | g
    · have := cnt_between (U := p.U) (a := y) (x := y) (c := t) hc.symm (Nat.le_refl _) g
      rw [hy] at this; cases this
    · exact g
  have hno : ∀ x, t ≤ x → x < y → s.O k x = none := fun x h1 h2 => h.free_slot hp (cnt_between hc h1 h2)
  refine ⟨sw_eq hno hle, ?_⟩
  obtain ⟨d, rfl⟩ : ∃ d, y = t + d := ⟨y - t, by omega⟩
  rw [cnt_add, cnt_none _ d (fun i hi => by simp [whiteB, hno (t + i) (by omega) (by omega)])]
  omega
/-- Behind the last used slot nothing is swept. -/
theorem sw_end (h : HpAt w B b n nf s) {k t : Nat} {p : PSt} (hp : s.P k = some p) (hc : cnt p.U t = cnt p.U p.n) (ht : t ≤ p.n) : s.sw k p t = s.sw k p p.n ∧ cnt (whiteB s k) t = cnt (whiteB s k) p.n := by
  have hno : ∀ x, t ≤ x → x < p.n → s.O k x = none := fun x h1 h2 => h.free_slot hp (cnt_between hc h1 h2)
  refine ⟨sw_eq hno ht, ?_⟩
  obtain ⟨d, hd⟩ : ∃ d, p.n = t + d := ⟨p.n - t, by omega⟩
  rw [hd] at hno ⊢
  rw [cnt_add, cnt_none _ d (fun i hi => by simp [whiteB, hno (t + i) (by omega) (by omega)])]
  omega
/-- What SweepPage leaves of a page of a class. -/
def Hs.swept (s : Hs) (k : Nat) (p : PSt) : Hs := if cnt (swS s k p.n p.U) p.n = 0 then { (s.sw k p p.n) with P := upP (s.sw k p p.n).P k none } else s.sw k p p.n
theorem HpAt.cut (h : HpAt w B b n nf s) {w' : World} {k : Nat} {q : PSt} (hq : s.P k = some q) (hc : cnt q.U q.n = 0) (ha : ArAt w' B b.ba b.bp b.bw n (upP s.P k none) s.W) (hg : But b.bp w w') : HpAt w' B b n nf { s with P := upP s.P k none } := by
  have hno : ∀ x, s.O k x = none := by
    intro x
    cases e : s.O k x with
    | none => rfl
    | some o =>
      obtain ⟨q', h1, h2, h3⟩ := (h.use k x).1 (by rw [e]; rfl)
      rw [hq] at h1
      cases h1
      have := cnt_between (U := q.U) (a := 0) (x := x) (c := q.n) (by rw [hc]; rfl) (Nat.zero_le _) h2
      rw [h3] at this; cases this
  refine h.arena ha (Fz.of_but hg (by simp)) (fun k' x => ?_) (fun k' x o ho => ?_)
  · by_cases e : k' = k
    · subst e
      rw [upP_same, hno]
      constructor
      · intro e; cases e
      · rintro ⟨p, e, _⟩; cases e
    · rw [upP_other _ _ e]
      exact h.use k' x
  · obtain ⟨j, p, h1, h2, h3, h4⟩ := h.fit k' x o ho
    have e : k' ≠ k := by intro e; rw [e, hno] at ho; cases ho
    exact ⟨j, p, h1, h2, by rw [upP_other _ _ e]; exact h3, h4⟩
end

end Go.Proofs.YtfkimmbnmcgjiaaDoor

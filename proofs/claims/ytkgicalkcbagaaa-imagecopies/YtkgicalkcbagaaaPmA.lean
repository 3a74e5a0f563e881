/- Plain mathematics of chapter 10: programs, their bytes as lists of numbers, and back; bytes that are cut or added are none. (Written ahead of the stage, built in the seat of besomlaw9.) -/
import Derived.Test.YtkgicalkcbagaaaInI
namespace Go.Proofs.Ytkgicalkcbagaaa
open Go.RowKit

/-- A function, a program. -/
structure Fn where
  args : List Int
  res : Int
  slots : Int
  objs : List Int
  code : List Ins
structure Pg where
  glob : List Int
  shapes : List (List Int)
  funcs : List Fn

def ok1 (v : Int) : Bool := decide (0 ≤ v) && decide (v < 256)
def okL (l : List Int) : Bool := decide (l.length ≤ 255) && l.all ok1
def okF (f : Fn) : Bool := okL f.args && ok1 f.res && ok1 f.slots && okL f.objs && decide (f.code.length ≤ 255) && f.code.all fit
def okP (p : Pg) : Bool := okL p.glob && decide (p.shapes.length ≤ 255) && p.shapes.all okL && decide (p.funcs.length ≤ 255) && p.funcs.all okF

def lyL (l : List Int) : List Int := (l.length : Int) :: l
def lyF (f : Fn) : List Int := lyL f.args ++ (f.res :: f.slots :: (lyL f.objs ++ ((f.code.length : Int) :: layN f.code)))
def lyP (p : Pg) : List Int := lyL p.glob ++ ((p.shapes.length : Int) :: (p.shapes.flatMap lyL ++ ((p.funcs.length : Int) :: p.funcs.flatMap lyF)))

/-! ### Reading -/
def rL : List Int → Option (List Int × List Int)
  | [] => none
  | n :: t => if n.toNat ≤ t.length then some (t.take n.toNat, t.drop n.toNat) else none
/-- As many as k things, one behind the other. -/
def rMany {α : Type} (r : List Int → Option (α × List Int)) : Nat → List Int → Option (List α × List Int)
  | 0, t => some ([], t)
  | k + 1, t => (r t).bind fun (x, t') => (rMany r k t').bind fun (l, t'') => some (x :: l, t'')
/-- A count, and as many things. -/
def rCount {α : Type} (r : List Int → Option (α × List Int)) : List Int → Option (List α × List Int)
  | [] => none
  | n :: t => rMany r n.toNat t
/-- The instruction of seven bytes. -/
def insOfL (t : List Int) : Ins := ⟨t.getD 0 0, t.getD 1 0, rdN (fun j => t.getD (3 + j) 0), t.getD 2 0⟩
def rI (t : List Int) : Option (Ins × List Int) := if 7 ≤ t.length ∧ fit (insOfL t) = true then some (insOfL t, t.drop 7) else none
def rF (t : List Int) : Option (Fn × List Int) :=
  (rL t).bind fun (a, t1) => match t1 with
    | r :: s :: t2 => (rL t2).bind fun (o, t3) => (rCount rI t3).bind fun (c, t4) => some (⟨a, r, s, o, c⟩, t4)
    | _ => none
def rP (t : List Int) : Option (Pg × List Int) :=
  (rL t).bind fun (g, t1) => (rCount rL t1).bind fun (s, t2) => (rCount rF t2).bind fun (f, t3) => some (⟨g, s, f⟩, t3)

/-! ### What was laid is read -/
theorem rL_ly (l t : List Int) : rL (lyL l ++ t) = some (l, t) := by
  show (if ((l.length : Int)).toNat ≤ (l ++ t).length then some ((l ++ t).take ((l.length : Int)).toNat, (l ++ t).drop ((l.length : Int)).toNat) else none) = _
  rw [Int.toNat_natCast, if_pos (by simp)]
  simp
theorem rMany_ly {α : Type} (r : List Int → Option (α × List Int)) (ly : α → List Int) : ∀ (l : List α) (t : List Int), (∀ x ∈ l, ∀ t, r (ly x ++ t) = some (x, t)) → rMany r l.length (l.flatMap ly ++ t) = some (l, t)
  | [], t, _ => rfl
  | x :: l, t, h => by
    show (r ((x :: l).flatMap ly ++ t)).bind _ = _
    rw [List.flatMap_cons, List.append_assoc, h x (by simp)]
    show (rMany r l.length (l.flatMap ly ++ t)).bind _ = _
    rw [rMany_ly r ly l t (fun y hy => h y (by simp [hy]))]
    rfl
theorem rCount_ly {α : Type} (r : List Int → Option (α × List Int)) (ly : α → List Int) (l : List α) (t : List Int) (h : ∀ x ∈ l, ∀ t, r (ly x ++ t) = some (x, t)) : rCount r ((l.length : Int) :: (l.flatMap ly ++ t)) = some (l, t) := by
  show rMany r ((l.length : Int)).toNat (l.flatMap ly ++ t) = _
  rw [Int.toNat_natCast, rMany_ly r ly l t h]
theorem insOfL_ly (i : Ins) (t : List Int) (h : fit i = true) : insOfL (insN i ++ t) = i := by
  obtain ⟨h1, h2, h3, h4⟩ := fit_parts h
  have e : rdN (fun j => (insN i ++ t).getD (3 + j) 0) = i.b := by
    show wrap32 (byN i.b 0 + 256 * byN i.b 1 + 65536 * byN i.b 2 + 16777216 * byN i.b 3) = i.b
    rw [byN_sum, h4]
  unfold insOfL
  rw [e]
  obtain ⟨o, a, b, c⟩ := i
  simp at h1 h2 h3
  simp [insN]
  omega
theorem rI_ly (i : Ins) (h : fit i = true) (t : List Int) : rI (insN i ++ t) = some (i, t) := by
  unfold rI
  rw [insOfL_ly i t h, if_pos ⟨by simp [insN], h⟩]
  rfl
theorem rF_ly (f : Fn) (h : okF f = true) (t : List Int) : rF (lyF f ++ t) = some (f, t) := by
  have hc : f.code.all fit = true := by
    unfold okF at h
    simp only [Bool.and_eq_true] at h
    exact h.2
  unfold rF lyF
  rw [List.append_assoc, rL_ly]
  show (rL ((lyL f.objs ++ ((f.code.length : Int) :: layN f.code)) ++ t)).bind _ = _
  rw [List.append_assoc, rL_ly]
  show (rCount rI ((f.code.length : Int) :: (f.code.flatMap insN ++ t))).bind _ = _
  rw [rCount_ly rI insN f.code t (fun x hx t => rI_ly x (List.all_eq_true.1 hc x hx) t)]
  rfl
theorem rP_ly (p : Pg) (h : okP p = true) (t : List Int) : rP (lyP p ++ t) = some (p, t) := by
  have hf : p.funcs.all okF = true := by
    unfold okP at h
    simp only [Bool.and_eq_true] at h
    exact h.2
  unfold rP lyP
  rw [List.append_assoc, rL_ly]
  show (rCount rL ((p.shapes.length : Int) :: ((p.shapes.flatMap lyL ++ ((p.funcs.length : Int) :: p.funcs.flatMap lyF)) ++ t))).bind _ = _
  rw [List.append_assoc, rCount_ly rL lyL p.shapes _ (fun x _ t => rL_ly x t)]
  show (rCount rF ((p.funcs.length : Int) :: (p.funcs.flatMap lyF ++ t))).bind _ = _
  rw [rCount_ly rF lyF p.funcs t (fun x hx t => rF_ly x (List.all_eq_true.1 hf x hx) t)]
  rfl

/-! ### What is read was laid -/
abbrev Byt (t : List Int) : Prop := ∀ x ∈ t, 0 ≤ x ∧ x < 256
theorem Byt.drop {t : List Int} (h : Byt t) (k : Nat) : Byt (t.drop k) := fun x hx => h x (List.mem_of_mem_drop hx)
theorem rL_inv {t l t' : List Int} (hb : Byt t) (h : rL t = some (l, t')) : t = lyL l ++ t' ∧ okL l = true ∧ Byt t' := by
  cases t with
  | nil => cases h
  | cons n u =>
    have hn := hb n (by simp)
    by_cases hle : n.toNat ≤ u.length
    · have e : rL (n :: u) = some (u.take n.toNat, u.drop n.toNat) := if_pos hle
      rw [e] at h
      cases h
      have hl : (u.take n.toNat).length = n.toNat := by rw [List.length_take]; omega
      refine ⟨?_, ?_, fun x hx => hb x (by simp [List.mem_of_mem_drop hx])⟩
      · show n :: u = ((u.take n.toNat).length : Int) :: (u.take n.toNat ++ u.drop n.toNat)
        rw [hl, List.take_append_drop, Int.toNat_of_nonneg hn.1]
      · unfold okL
        rw [hl]
        simp only [Bool.and_eq_true, decide_eq_true_eq, List.all_eq_true]
        refine ⟨by omega, fun x hx => ?_⟩
        have := hb x (by simp [List.mem_of_mem_take hx])
        unfold ok1
        simp only [Bool.and_eq_true, decide_eq_true_eq]
        exact this
    · have e : rL (n :: u) = none := if_neg hle
      rw [e] at h
      cases h
theorem rMany_inv {α : Type} (r : List Int → Option (α × List Int)) (ly : α → List Int) (ok : α → Bool) (hr : ∀ t x t', Byt t → r t = some (x, t') → t = ly x ++ t' ∧ ok x = true ∧ Byt t') :
    ∀ (k : Nat) (t t' : List Int) (l : List α), Byt t → rMany r k t = some (l, t') → t = l.flatMap ly ++ t' ∧ l.length = k ∧ l.all ok = true ∧ Byt t'
  | 0, t, t', l, hb, h => by
    simp only [rMany, Option.some.injEq, Prod.mk.injEq] at h
    obtain ⟨rfl, rfl⟩ := h
    exact ⟨rfl, rfl, rfl, hb⟩
  | k + 1, t, t', l, hb, h => by
    simp only [rMany] at h
    cases hx : r t with
    | none => rw [hx] at h; cases h
    | some q =>
      obtain ⟨x, t1⟩ := q
      rw [hx] at h
      simp only [Option.bind_some] at h
      obtain ⟨e1, o1, b1⟩ := hr t x t1 hb hx
      cases hy : rMany r k t1 with
      | none => rw [hy] at h; cases h
      | some q2 =>
        obtain ⟨l2, t2⟩ := q2
        rw [hy] at h
        simp only [Option.bind_some, Option.some.injEq, Prod.mk.injEq] at h
        obtain ⟨rfl, rfl⟩ := h
        obtain ⟨e2, n2, o2, b2⟩ := rMany_inv r ly ok hr k t1 t2 l2 b1 hy
        exact ⟨by rw [e1, e2, List.flatMap_cons, List.append_assoc], by simp [n2], by simp [o1, o2], b2⟩
theorem rCount_inv {α : Type} (r : List Int → Option (α × List Int)) (ly : α → List Int) (ok : α → Bool) (hr : ∀ t x t', Byt t → r t = some (x, t') → t = ly x ++ t' ∧ ok x = true ∧ Byt t') {t t' : List Int} {l : List α} (hb : Byt t) (h : rCount r t = some (l, t')) :
    t = (l.length : Int) :: (l.flatMap ly ++ t') ∧ l.length ≤ 255 ∧ l.all ok = true ∧ Byt t' := by
  cases t with
  | nil => cases h
  | cons n u =>
    have hn := hb n (by simp)
    obtain ⟨e, hk, ho, hb'⟩ := rMany_inv r ly ok hr n.toNat u t' l (fun x hx => hb x (by simp [hx])) h
    refine ⟨?_, by omega, ho, hb'⟩
    rw [← e, hk, Int.toNat_of_nonneg hn.1]
theorem byN_rd (x0 x1 x2 x3 : Int) (h0 : 0 ≤ x0 ∧ x0 < 256) (h1 : 0 ≤ x1 ∧ x1 < 256) (h2 : 0 ≤ x2 ∧ x2 < 256) (h3 : 0 ≤ x3 ∧ x3 < 256) :
    byN (wrap32 (x0 + 256 * x1 + 65536 * x2 + 16777216 * x3)) 0 = x0 ∧ byN (wrap32 (x0 + 256 * x1 + 65536 * x2 + 16777216 * x3)) 1 = x1 ∧ byN (wrap32 (x0 + 256 * x1 + 65536 * x2 + 16777216 * x3)) 2 = x2 ∧ byN (wrap32 (x0 + 256 * x1 + 65536 * x2 + 16777216 * x3)) 3 = x3 := by
  rw [byN_w32 _ 0 (by decide), byN_w32 _ 1 (by decide), byN_w32 _ 2 (by decide), byN_w32 _ 3 (by decide)]
  unfold byN
  simp only [Nat.mul_zero, Nat.mul_one, Nat.reduceMul, Int.pow_zero, Int.ediv_one, Int.reducePow]
  omega
theorem rI_inv (t : List Int) (i : Ins) (t' : List Int) (hb : Byt t) (h : rI t = some (i, t')) : t = insN i ++ t' ∧ fit i = true ∧ Byt t' := by
  unfold rI at h
  split at h
  · rename_i hc
    simp only [Option.some.injEq, Prod.mk.injEq] at h
    obtain ⟨rfl, rfl⟩ := h
    refine ⟨?_, hc.2, hb.drop 7⟩
    match t, hc.1 with
    | x0 :: x1 :: x2 :: x3 :: x4 :: x5 :: x6 :: u, _ =>
      have b0 := hb x0 (by simp)
      have b1 := hb x1 (by simp)
      have b2 := hb x2 (by simp)
      obtain ⟨e3, e4, e5, e6⟩ := byN_rd x3 x4 x5 x6 (hb x3 (by simp)) (hb x4 (by simp)) (hb x5 (by simp)) (hb x6 (by simp))
      show _ = [x0 % 256, x1 % 256, x2 % 256, byN (wrap32 (x3 + 256 * x4 + 65536 * x5 + 16777216 * x6)) 0, byN (wrap32 (x3 + 256 * x4 + 65536 * x5 + 16777216 * x6)) 1, byN (wrap32 (x3 + 256 * x4 + 65536 * x5 + 16777216 * x6)) 2, byN (wrap32 (x3 + 256 * x4 + 65536 * x5 + 16777216 * x6)) 3] ++ u
      rw [e3, e4, e5, e6, show x0 % 256 = x0 from by omega, show x1 % 256 = x1 from by omega, show x2 % 256 = x2 from by omega]
      rfl
  · cases h
theorem rF_inv (t : List Int) (f : Fn) (t' : List Int) (hb : Byt t) (h : rF t = some (f, t')) : t = lyF f ++ t' ∧ okF f = true ∧ Byt t' := by
  unfold rF at h
  cases ha : rL t with
  | none => rw [ha] at h; cases h
  | some q =>
    obtain ⟨a, t1⟩ := q
    obtain ⟨e1, o1, b1⟩ := rL_inv hb ha
    rw [ha] at h
    simp only [Option.bind_some] at h
    match t1, h with
    | r :: s :: t2, h =>
      have hr := b1 r (by simp)
      have hs := b1 s (by simp)
      simp only at h
      cases ho : rL t2 with
      | none => rw [ho] at h; cases h
      | some q2 =>
        obtain ⟨o, t3⟩ := q2
        obtain ⟨e2, o2, b2⟩ := rL_inv (fun x hx => b1 x (by simp [hx])) ho
        rw [ho] at h
        simp only [Option.bind_some] at h
        cases hc : rCount rI t3 with
        | none => rw [hc] at h; cases h
        | some q3 =>
          obtain ⟨c, t4⟩ := q3
          obtain ⟨e3, n3, o3, b3⟩ := rCount_inv rI insN fit rI_inv b2 hc
          rw [hc] at h
          simp only [Option.bind_some, Option.some.injEq, Prod.mk.injEq] at h
          obtain ⟨rfl, rfl⟩ := h
          refine ⟨?_, ?_, b3⟩
          · rw [e1, e2, e3]
            simp [lyF, layN, List.append_assoc]
          · unfold okF ok1
            simp only [Bool.and_eq_true, decide_eq_true_eq]
            exact ⟨⟨⟨⟨⟨o1, hr⟩, hs⟩, o2⟩, n3⟩, o3⟩
theorem rP_inv {t t' : List Int} {p : Pg} (hb : Byt t) (h : rP t = some (p, t')) : t = lyP p ++ t' ∧ okP p = true := by
  unfold rP at h
  cases ha : rL t with
  | none => rw [ha] at h; cases h
  | some q =>
    obtain ⟨g, t1⟩ := q
    obtain ⟨e1, o1, b1⟩ := rL_inv hb ha
    rw [ha] at h
    simp only [Option.bind_some] at h
    cases hs : rCount rL t1 with
    | none => rw [hs] at h; cases h
    | some q2 =>
      obtain ⟨s, t2⟩ := q2
      obtain ⟨e2, n2, o2, b2⟩ := rCount_inv rL lyL okL (fun _ _ _ hb h => rL_inv hb h) b1 hs
      rw [hs] at h
      simp only [Option.bind_some] at h
      cases hf : rCount rF t2 with
      | none => rw [hf] at h; cases h
      | some q3 =>
        obtain ⟨f, t3⟩ := q3
        obtain ⟨e3, n3, o3, b3⟩ := rCount_inv rF lyF okF rF_inv b2 hf
        rw [hf] at h
        simp only [Option.bind_some, Option.some.injEq, Prod.mk.injEq] at h
        obtain ⟨rfl, rfl⟩ := h
        refine ⟨?_, ?_⟩
        · rw [e1, e2, e3]
          simp [lyP, List.append_assoc]
        · unfold okP
          simp only [Bool.and_eq_true, decide_eq_true_eq]
          exact ⟨⟨⟨⟨o1, n2⟩, o2⟩, n3⟩, o3⟩

/-! ### A program's bytes are no other one's, and no beginning of them -/
theorem lyP_inj {p q : Pg} (hp : okP p = true) (hq : okP q = true) (h : lyP p = lyP q) : p = q := by
  have h1 := rP_ly p hp []
  have h2 := rP_ly q hq []
  rw [h] at h1
  rw [h1] at h2
  simp at h2
  exact h2
/-- The program that bytes are, if they are one. -/
def rdP (t : List Int) : Option Pg := match rP t with
  | some (p, []) => some p
  | _ => none
theorem rdP_ly {p : Pg} (h : okP p = true) : rdP (lyP p) = some p := by
  have h1 := rP_ly p h []
  rw [List.append_nil] at h1
  unfold rdP
  rw [h1]
theorem rdP_inv {t : List Int} {p : Pg} (hb : Byt t) (h : rdP t = some p) : t = lyP p ∧ okP p = true := by
  unfold rdP at h
  split at h
  · rename_i q hq
    cases h
    have := rP_inv hb hq
    rwa [List.append_nil] at this
  · cases h
theorem rdP_more {p : Pg} (h : okP p = true) {more : List Int} (hm : more ≠ []) : rdP (lyP p ++ more) = none := by
  unfold rdP
  rw [rP_ly p h more]
  split
  · rename_i q hq
    simp at hq
    exact absurd hq.2 hm
  · rfl
theorem rdP_cut {p : Pg} (h : okP p = true) (hb : Byt (lyP p)) {k : Nat} (hk : k < (lyP p).length) : rdP ((lyP p).take k) = none := by
  cases hr : rdP ((lyP p).take k) with
  | none => rfl
  | some q =>
    obtain ⟨e, hq⟩ := rdP_inv (fun x hx => hb x (List.mem_of_mem_take hx)) hr
    have h1 : lyP p = lyP q ++ (lyP p).drop k := by rw [← e, List.take_append_drop]
    have h2 : (lyP p).drop k ≠ [] := by
      intro h0
      have := congrArg List.length h0
      simp at this
      omega
    have h3 := rdP_more hq h2
    rw [← h1, rdP_ly h] at h3
    cases h3

theorem layN_byt {c : List Ins} (_ : c.all fit = true) : Byt (layN c) := by
  intro x hx
  simp only [layN, List.mem_flatMap] at hx
  obtain ⟨i, _, hi⟩ := hx
  simp only [insN, List.mem_cons, List.not_mem_nil, or_false] at hi
  rcases hi with rfl | rfl | rfl | rfl | rfl | rfl | rfl
  · omega
  · omega
  · omega
  · exact byN_range _ _
  · exact byN_range _ _
  · exact byN_range _ _
  · exact byN_range _ _
theorem lyL_byt {l : List Int} (h : okL l = true) : Byt (lyL l) := by
  unfold okL at h
  simp only [Bool.and_eq_true, decide_eq_true_eq, List.all_eq_true] at h
  intro x hx
  rcases List.mem_cons.1 hx with rfl | hx
  · omega
  · have := h.2 x hx
    unfold ok1 at this
    simp only [Bool.and_eq_true, decide_eq_true_eq] at this
    exact this
theorem lyF_byt {f : Fn} (h : okF f = true) : Byt (lyF f) := by
  unfold okF at h
  simp only [Bool.and_eq_true, decide_eq_true_eq] at h
  obtain ⟨⟨⟨⟨⟨h1, h2⟩, h3⟩, h4⟩, h5⟩, h6⟩ := h
  unfold ok1 at h2 h3
  simp only [Bool.and_eq_true, decide_eq_true_eq] at h2 h3
  intro x hx
  unfold lyF at hx
  rcases List.mem_append.1 hx with hx | hx
  · exact lyL_byt h1 x hx
  · rcases List.mem_cons.1 hx with rfl | hx
    · exact h2
    · rcases List.mem_cons.1 hx with rfl | hx
      · exact h3
      · rcases List.mem_append.1 hx with hx | hx
        · exact lyL_byt h4 x hx
        · rcases List.mem_cons.1 hx with rfl | hx
          · omega
          · exact layN_byt h6 x hx
theorem lyP_byt {p : Pg} (h : okP p = true) : Byt (lyP p) := by
  unfold okP at h
  simp only [Bool.and_eq_true, decide_eq_true_eq] at h
  obtain ⟨⟨⟨⟨h1, h2⟩, h3⟩, h4⟩, h5⟩ := h
  intro x hx
  unfold lyP at hx
  rcases List.mem_append.1 hx with hx | hx
  · exact lyL_byt h1 x hx
  · rcases List.mem_cons.1 hx with rfl | hx
    · omega
    · rcases List.mem_append.1 hx with hx | hx
      · obtain ⟨s, hs, hx⟩ := List.mem_flatMap.1 hx
        exact lyL_byt (List.all_eq_true.1 h3 s hs) x hx
      · rcases List.mem_cons.1 hx with rfl | hx
        · omega
        · obtain ⟨f, hf, hx⟩ := List.mem_flatMap.1 hx
          exact lyF_byt (List.all_eq_true.1 h5 f hf) x hx

end Go.Proofs.Ytkgicalkcbagaaa

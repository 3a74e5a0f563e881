/- ArenaPlays: the model in memory, beside the Arena and the Book. -/
import Derived.Test.YtjpeppflldmffaaDoorArG
import Derived.Test.YtjpeppflldmffaaDoorArI
import Derived.Test.YtjpeppflldmffaaDoorPpA
namespace Go.Proofs.YtjpeppflldmffaaDoor
open Go.RowKit

/-- Where things lie: the Arena, its lists of pages and words; the model, its lists of classes, used slots and words; the Book; the block from which on the Book's lists lie; how many pages there are. -/
structure Ids where
  a : Nat
  p : Nat
  w : Nat
  m : Nat
  c : Nat
  u : Nat
  v : Nat
  k : Nat
  B : Nat
  n : Nat
def clsO : Option PSt → Int
  | none => -1
  | some p => p.c
def usO : Option PSt → Nat → Value
  | none, _ => .slice none 0 0
  | some p, b => .slice (some ⟨b, 0, none⟩) p.n p.n
def mdC (c u v n : Nat) (i : Nat) : Value := if i = 0 then .slice (some ⟨c, 0, none⟩) n n else if i = 1 then .slice (some ⟨u, 0, none⟩) n n else .slice (some ⟨v, 0, none⟩) (32 * n) (32 * n)

/-- THE MODEL, with the pages Q, the words V; the used slots of the page k lie at ub k. -/
structure MdAt (w : World) (B m c u v n : Nat) (Q : Nat → Option PSt) (V : Nat → Int) (ub : Nat → Nat) : Prop where
  hd : w.rowIs m 30 3 (mdC c u v n)
  cl : w.rowIs c 3 n (fun k => .int .i64 (clsO (Q k)))
  us : w.rowIs u 43 n (fun k => usO (Q k) (ub k))
  wd : w.rowIs v 3 (32 * n) (fun x => .int .i64 (V x))
  ur : ∀ k p, Q k = some p → w.rowIs (ub k) 4 p.n (fun s => .bool (p.U s))
  ua : ∀ k k' p p', Q k = some p → Q k' = some p' → k ≠ k' → ub k ≠ ub k'
  out : ∀ k, n ≤ k → Q k = none
  ok : ∀ k p, Q k = some p → 0 ≤ p.c ∧ p.c ≤ 7
  n64 : n ≤ 64
  b0 : B ≤ m
  b1 : B ≤ c
  b2 : B ≤ u
  b3 : B ≤ v
  b4 : ∀ k p, Q k = some p → B ≤ ub k

theorem row_ne {w : World} {a b n m : Nat} {t t' : TypeId} {f g : Nat → Value} (h : w.rowIs a t n f) (h' : w.rowIs b t' m g) (ht : t ≠ t') : a ≠ b := by
  rintro rfl
  obtain ⟨c1, hc1, _⟩ := h
  obtain ⟨c2, hc2, _⟩ := h'
  rw [hc1] at hc2
  simp at hc2
  exact ht hc2.2

section
variable {w w' : World} {B m c u v n : Nat} {Q : Nat → Option PSt} {V : Nat → Int} {ub : Nat → Nat} (h : MdAt w B m c u v n Q V ub)
include h
theorem MdAt.c0 : w.cell? ⟨m, 0, none⟩ = some (.slice (some ⟨c, 0, none⟩) n n) := h.hd.cell (i := 0) (by decide)
theorem MdAt.c1 : w.cell? ⟨m, 1, none⟩ = some (.slice (some ⟨u, 0, none⟩) n n) := h.hd.cell (i := 1) (by decide)
theorem MdAt.c2 : w.cell? ⟨m, 2, none⟩ = some (.slice (some ⟨v, 0, none⟩) (32 * n) (32 * n)) := h.hd.cell (i := 2) (by decide)
theorem MdAt.drewN (q : Nat) : MdAt (w.drewN q) B m c u v n Q V ub := ⟨h.hd, h.cl, h.us, h.wd, h.ur, h.ua, h.out, h.ok, h.n64, h.b0, h.b1, h.b2, h.b3, h.b4⟩
theorem MdAt.num {k : Nat} {p : PSt} (e : Q k = some p) : PNum p p.sz p.n := p_num (h.ok k p e).1 (h.ok k p e).2
theorem MdAt.klt {k : Nat} {p : PSt} (e : Q k = some p) : k < n := by
  rcases Nat.lt_or_ge k n with g | g
  · exact g
  · rw [h.out k g] at e; cases e
theorem MdAt.fix {B' : Nat} {X : List Nat} {K : List TypeId} (hf : Fix B' X K w w') (h1 : m ∉ X) (h2 : c ∉ X) (h3 : u ∉ X) (h4 : v ∉ X) (h5 : ∀ k p, Q k = some p → ub k ∉ X) (t1 : 30 ∉ K) (t2 : 3 ∉ K) (t3 : 43 ∉ K) (t4 : 4 ∉ K) : MdAt w' B m c u v n Q V ub :=
  ⟨hf.row h.hd h1 t1, hf.row h.cl h2 t2, hf.row h.us h3 t3, hf.row h.wd h4 t2, fun k p e => hf.row (h.ur k p e) (h5 k p e) t4, h.ua, h.out, h.ok, h.n64, h.b0, h.b1, h.b2, h.b3, h.b4⟩
/-- A word of the model is set. -/
theorem MdAt.setV (x : Nat) (y : Int) (hcv : c ≠ v) : MdAt (w.setCell ⟨v, x, none⟩ (.int .i64 y)) B m c u v n Q (upW V x y) ub := by
  have g : But v w (w.setCell ⟨v, x, none⟩ (.int .i64 y)) := (But.refl _ _).setCell x _
  have t := Ty.of_but (B := 0) g h.wd (Nat.zero_le _)
  exact ⟨t.row h.hd (by decide), g.row h.cl hcv, t.row h.us (by decide), (h.wd.set x _).congr fun i _ => by unfold upW; by_cases e : i = x <;> simp [e], fun k p e => t.row (h.ur k p e) (by decide), h.ua, h.out, h.ok, h.n64, h.b0, h.b1, h.b2, h.b3, h.b4⟩
/-- One of the used slots' bits is set. -/
theorem MdAt.setU {k : Nat} {p : PSt} (hp : Q k = some p) (s : Nat) (y : Bool) (M' : Nat → Bool) : MdAt (w.setCell ⟨ub k, s, none⟩ (.bool y)) B m c u v n (upP Q k (some ⟨p.blk, p.c, up p.U s y, M'⟩)) V ub := by
  have g : But (ub k) w (w.setCell ⟨ub k, s, none⟩ (.bool y)) := (But.refl _ _).setCell s _
  have t := Ty.of_but (B := 0) g (h.ur k p hp) (Nat.zero_le _)
  have hk := h.klt hp
  refine ⟨t.row h.hd (by decide), (t.row h.cl (by decide)).congr fun i _ => ?_, (t.row h.us (by decide)).congr fun i _ => ?_, t.row h.wd (by decide), fun j q e => ?_, fun j j' q q' e e' hj => ?_, fun j hj => ?_, fun j q e => ?_, h.n64, h.b0, h.b1, h.b2, h.b3, fun j q e => ?_⟩
  · by_cases e : i = k
    · subst e; rw [upP_same, hp]; rfl
    · rw [upP_other Q _ e]
  · by_cases e : i = k
    · subst e; rw [upP_same, hp]; rfl
    · rw [upP_other Q _ e]
  · by_cases ej : j = k
    · subst ej; rw [upP_same] at e; cases e
      exact ((h.ur j p hp).set s (.bool y)).congr fun i _ => by by_cases e : i = s <;> simp [up, e]
    · rw [upP_other Q _ ej] at e
      exact g.row (h.ur j q e) (h.ua j k q p e hp ej)
  · by_cases ej : j = k
    · subst ej
      rw [upP_other Q _ (fun x => hj x.symm)] at e'
      exact h.ua j j' p q' hp e' hj
    · rw [upP_other Q _ ej] at e
      by_cases ej' : j' = k
      · subst ej'; exact h.ua j j' q p e hp hj
      · rw [upP_other Q _ ej'] at e'
        exact h.ua j j' q q' e e' hj
  · rw [upP_other Q _ (by omega)]; exact h.out j hj
  · by_cases ej : j = k
    · subst ej; rw [upP_same] at e; cases e; exact h.ok j p hp
    · rw [upP_other Q _ ej] at e; exact h.ok j q e
  · by_cases ej : j = k
    · subst ej; exact h.b4 j p hp
    · rw [upP_other Q _ ej] at e; exact h.b4 j q e
/-- One page has no class any more. -/
theorem MdAt.cut (k : Nat) (hcv : v ≠ c) : MdAt ((w.setCell ⟨c, k, none⟩ (.int .i64 (-1))).setCell ⟨u, k, none⟩ (.slice none 0 0)) B m c u v n (upP Q k none) V ub := by
  have g1 : But c w (w.setCell ⟨c, k, none⟩ (.int .i64 (-1))) := (But.refl _ _).setCell k _
  have t1 := Ty.of_but (B := 0) g1 h.cl (Nat.zero_le _)
  have r1 := t1.row h.us (by decide)
  have g2 : But u (w.setCell ⟨c, k, none⟩ (.int .i64 (-1))) ((w.setCell ⟨c, k, none⟩ (.int .i64 (-1))).setCell ⟨u, k, none⟩ (.slice none 0 0)) := (But.refl _ _).setCell k _
  have t2 := Ty.of_but (B := 0) g2 r1 (Nat.zero_le _)
  have old : ∀ j q, upP Q k none j = some q → Q j = some q := fun j q e => by
    by_cases ej : j = k
    · subst ej; rw [upP_same] at e; cases e
    · rw [upP_other Q _ ej] at e; exact e
  refine ⟨t2.row (t1.row h.hd (by decide)) (by decide), t2.row ((h.cl.set k _).congr fun i _ => ?_) (by decide), (r1.set k _).congr fun i _ => ?_, t2.row (g1.row h.wd hcv) (by decide), fun j q e => t2.row (t1.row (h.ur j q (old j q e)) (by decide)) (by decide), fun j j' q q' e e' hj => h.ua j j' q q' (old _ _ e) (old _ _ e') hj, fun j hj => ?_, fun j q e => h.ok j q (old _ _ e), h.n64, h.b0, h.b1, h.b2, h.b3, fun j q e => h.b4 j q (old _ _ e)⟩
  · by_cases e : i = k
    · subst e; simp [upP, clsO]
    · simp [upP, e]
  · by_cases e : i = k
    · subst e; simp [upP, usO]
    · simp [upP, e]
  · by_cases ej : j = k
    · subst ej; rw [upP_same]
    · rw [upP_other Q _ ej]; exact h.out j hj
/-- One page of no class gets one: its class is set, and the list b, which is new. -/
theorem MdAt.new {k b : Nat} {d : Int} {blk : Nat} (hk : k < n) (hp : Q k = none) (hd0 : 0 ≤ d) (hd7 : d ≤ 7) (hb : w.rowIs b 4 (slN d).toNat (fun _ => .bool false)) (hne : ∀ j q, Q j = some q → ub j ≠ b) (hB : B ≤ b) (hcv : v ≠ c) :
    MdAt ((w.setCell ⟨c, k, none⟩ (.int .i64 d)).setCell ⟨u, k, none⟩ (.slice (some ⟨b, 0, none⟩) (slN d).toNat (slN d).toNat)) B m c u v n (upP Q k (some ⟨blk, d, ff, ff⟩)) V (fun j => if j = k then b else ub j) := by
  have g1 : But c w (w.setCell ⟨c, k, none⟩ (.int .i64 d)) := (But.refl _ _).setCell k _
  have t1 := Ty.of_but (B := 0) g1 h.cl (Nat.zero_le _)
  have r1 := t1.row h.us (by decide)
  have g2 : But u (w.setCell ⟨c, k, none⟩ (.int .i64 d)) ((w.setCell ⟨c, k, none⟩ (.int .i64 d)).setCell ⟨u, k, none⟩ (.slice (some ⟨b, 0, none⟩) (slN d).toNat (slN d).toNat)) := (But.refl _ _).setCell k _
  have t2 := Ty.of_but (B := 0) g2 r1 (Nat.zero_le _)
  refine ⟨t2.row (t1.row h.hd (by decide)) (by decide), t2.row ((h.cl.set k _).congr fun i _ => ?_) (by decide), (r1.set k _).congr fun i _ => ?_, t2.row (g1.row h.wd hcv) (by decide), fun j q e => ?_, fun j j' q q' e e' hj => ?_, fun j hj => ?_, fun j q e => ?_, h.n64, h.b0, h.b1, h.b2, h.b3, fun j q e => ?_⟩
  · by_cases e : i = k
    · subst e; simp [upP, clsO]
    · simp [upP, e]
  · by_cases e : i = k
    · subst e; simp [upP, usO, PSt.n]
    · simp [upP, e]
  · by_cases ej : j = k
    · subst ej; rw [upP_same] at e; cases e
      simp only [if_pos]
      exact t2.row (t1.row hb (by decide)) (by decide)
    · rw [upP_other Q _ ej] at e
      simp only [if_neg ej]
      exact t2.row (t1.row (h.ur j q e) (by decide)) (by decide)
  · by_cases ej : j = k
    · subst ej
      rw [upP_other Q _ (fun x => hj x.symm)] at e'
      have hj' : j' ≠ j := fun x => hj x.symm
      simp only [if_neg hj', if_pos]
      exact fun x => hne j' q' e' x.symm
    · rw [upP_other Q _ ej] at e
      by_cases ej' : j' = k
      · subst ej'
        simp only [if_neg ej, if_pos]
        exact hne j q e
      · rw [upP_other Q _ ej'] at e'
        simp only [if_neg ej, if_neg ej']
        exact h.ua j j' q q' e e' hj
  · rw [upP_other Q _ (by omega)]; exact h.out j hj
  · by_cases ej : j = k
    · subst ej; rw [upP_same] at e; cases e; exact ⟨hd0, hd7⟩
    · rw [upP_other Q _ ej] at e; exact h.ok j q e
  · by_cases ej : j = k
    · subst ej; simp only [if_pos]; exact hB
    · rw [upP_other Q _ ej] at e; simp only [if_neg ej]; exact h.b4 j q e
end

theorem BkOk.fix {w w' : World} {B' B bk : Nat} {X : List Nat} {K : List TypeId} (h : BkOk w B bk) (hf : Fix B' X K w w') (hX : ∀ x, x ∈ X → x < B) (h1 : 38 ∉ K) (h2 : 27 ∉ K) (h3 : 3 ∉ K) : BkOk w' B bk := by
  obtain ⟨vi, vw, I, W, hb, r⟩ := h
  have hk : bk ∉ X := fun e => by have := hX bk e; have := hb.hB; omega
  exact ⟨vi, vw, I, W, ⟨hf.row hb.hd hk h1, hb.hB, hf.own hb.oi hX h2, hf.own hb.ow hX h2, hb.ne, fun p hp => hf.own (hb.ri p hp) hX h3, fun p hp => hf.own (hb.rc p hp) hX h3, hb.di, hb.dw⟩, r⟩

def opC (kd nn vv : Int) (nr : Bool) (i : Nat) : Value := if i = 0 then .int .i64 kd else if i = 1 then .int .i64 nn else if i = 2 then .int .i64 vv else .bool nr

/-- IN MEMORY, in the midst of a round: the Arena with P and W, the model with Q and V, the Book, the op at block ob; what was there in w is as it was. -/
structure RO (w wr : World) (I : Ids) (P : Nat → Option PSt) (W : Nat → Int) (Q : Nat → Option PSt) (V : Nat → Int) : Prop where
  ar : ArAt wr w.heap.size I.a I.p I.w I.n P W
  md : ∃ ub, MdAt wr w.heap.size I.m I.c I.u I.v I.n Q V ub
  bo : BkOk wr I.B I.k
  lo : Below w.heap.size w wr
  t0 : Tab w
  d1 : I.w ≠ I.c
  d2 : I.w ≠ I.v
  d3 : I.c ≠ I.v
  l1 : I.p < I.B
  l2 : I.w < I.B
  l3 : I.c < I.B
  l4 : I.v < I.B
  l5 : I.u < I.B
  wB : w.heap.size ≤ I.B
  hB : I.B ≤ wr.heap.size
  n8 : I.n ≤ 8
structure OpAt (w : World) (ob : Nat) (kd nn vv : Int) (nr : Bool) : Prop where
  hd : w.rowIs ob 40 4 (opC kd nn vv nr)

section
variable {w wr w' : World} {I : Ids} {P P' Q Q' : Nat → Option PSt} {W W' V V' : Nat → Int} (h : RO w wr I P W Q V)
include h
theorem RO.tb : Tab wr := h.t0.below h.lo h.t0.size
theorem RO.drewN (q : Nat) : RO w (wr.drewN q) I P W Q V := by
  obtain ⟨ub, hm⟩ := h.md
  exact ⟨h.ar.drewN q, ⟨ub, hm.drewN q⟩, h.bo.drewN q, below_drewN h.lo q, h.t0, h.d1, h.d2, h.d3, h.l1, h.l2, h.l3, h.l4, h.l5, h.wB, h.hB, h.n8⟩
/-- The Arena was changed. -/
theorem RO.arena (ha : ArAt w' w.heap.size I.a I.p I.w I.n P' W') (hf : Fix w.heap.size [I.p, I.w] [74] wr w') : RO w w' I P' W' Q V := by
  obtain ⟨ub, hm⟩ := h.md
  have hx : ∀ x, x ∈ [I.p, I.w] → x < I.B := fun x hx => by
    have := h.l1; have := h.l2
    simp at hx; rcases hx with rfl | rfl <;> assumption
  have hx2 : ∀ x, x ∈ [I.p, I.w] → w.heap.size ≤ x := fun x hx => by
    have := h.ar.b1; have := h.ar.b2
    simp at hx; rcases hx with rfl | rfl <;> assumption
  refine ⟨ha, ⟨ub, hm.fix hf ?_ ?_ ?_ ?_ ?_ (by decide) (by decide) (by decide) (by decide)⟩, h.bo.fix hf hx (by decide) (by decide) (by decide), h.lo.trans (hf.below hx2 (Nat.le_refl _) h.lo.size), h.t0, h.d1, h.d2, h.d3, h.l1, h.l2, h.l3, h.l4, h.l5, h.wB, Nat.le_trans h.hB hf.size, h.n8⟩
  · simp only [List.mem_cons, List.not_mem_nil, or_false, not_or]
    exact ⟨row_ne hm.hd h.ar.pr (by decide), row_ne hm.hd h.ar.wo (by decide)⟩
  · simp only [List.mem_cons, List.not_mem_nil, or_false, not_or]
    exact ⟨row_ne hm.cl h.ar.pr (by decide), fun e => h.d1 e.symm⟩
  · simp only [List.mem_cons, List.not_mem_nil, or_false, not_or]
    exact ⟨row_ne hm.us h.ar.pr (by decide), row_ne hm.us h.ar.wo (by decide)⟩
  · simp only [List.mem_cons, List.not_mem_nil, or_false, not_or]
    exact ⟨row_ne hm.wd h.ar.pr (by decide), fun e => h.d2 e.symm⟩
  · intro k p e
    simp only [List.mem_cons, List.not_mem_nil, or_false, not_or]
    exact ⟨row_ne (hm.ur k p e) h.ar.pr (by decide), row_ne (hm.ur k p e) h.ar.wo (by decide)⟩
/-- The model was changed. -/
theorem RO.model {ub : Nat → Nat} (hm' : MdAt w' w.heap.size I.m I.c I.u I.v I.n Q' V' ub) (hf : Fix w.heap.size [I.c, I.u, I.v] [4] wr w') : RO w w' I P W Q' V' := by
  obtain ⟨ub0, hm⟩ := h.md
  have hx : ∀ x, x ∈ [I.c, I.u, I.v] → x < I.B := fun x hx => by
    have := h.l3; have := h.l4; have := h.l5
    simp at hx; rcases hx with rfl | rfl | rfl <;> assumption
  have hx2 : ∀ x, x ∈ [I.c, I.u, I.v] → w.heap.size ≤ x := fun x hx => by
    have := hm.b1; have := hm.b2; have := hm.b3
    simp at hx; rcases hx with rfl | rfl | rfl <;> assumption
  refine ⟨h.ar.fix hf ?_ ?_ ?_ ?_ (by decide) (by decide) (by decide) (by decide), ⟨ub, hm'⟩, h.bo.fix hf hx (by decide) (by decide) (by decide), h.lo.trans (hf.below hx2 (Nat.le_refl _) h.lo.size), h.t0, h.d1, h.d2, h.d3, h.l1, h.l2, h.l3, h.l4, h.l5, h.wB, Nat.le_trans h.hB hf.size, h.n8⟩
  · simp only [List.mem_cons, List.not_mem_nil, or_false, not_or]
    exact ⟨row_ne h.ar.hd hm.cl (by decide), row_ne h.ar.hd hm.us (by decide), row_ne h.ar.hd hm.wd (by decide)⟩
  · simp only [List.mem_cons, List.not_mem_nil, or_false, not_or]
    exact ⟨row_ne h.ar.pr hm.cl (by decide), row_ne h.ar.pr hm.us (by decide), row_ne h.ar.pr hm.wd (by decide)⟩
  · simp only [List.mem_cons, List.not_mem_nil, or_false, not_or]
    exact ⟨h.d1, row_ne h.ar.wo hm.us (by decide), h.d2⟩
  · intro k p e
    simp only [List.mem_cons, List.not_mem_nil, or_false, not_or]
    exact ⟨row_ne (h.ar.pg k p e).hd hm.cl (by decide), row_ne (h.ar.pg k p e).hd hm.us (by decide), row_ne (h.ar.pg k p e).hd hm.wd (by decide)⟩
theorem RO.ty {K : List TypeId} (ht : Ty K w.heap.size wr w') (hb : BkOk w' I.B I.k) (t1 : 63 ∉ K) (t2 : 54 ∉ K) (t3 : 3 ∉ K) (t4 : 74 ∉ K) (t5 : 30 ∉ K) (t6 : 43 ∉ K) (t7 : 4 ∉ K) : RO w w' I P W Q V := by
  obtain ⟨ub, hm⟩ := h.md
  exact ⟨h.ar.ty ht t1 t2 t3 t4, ⟨ub, hm.fix (Fix.of_ty (X := []) ht) (by simp) (by simp) (by simp) (by simp) (by simp) t5 t3 t6 t7⟩, hb, h.lo.trans (ht.below h.lo.size), h.t0, h.d1, h.d2, h.d3, h.l1, h.l2, h.l3, h.l4, h.l5, h.wB, Nat.le_trans h.hB ht.size, h.n8⟩
theorem RO.below (hb : Below wr.heap.size wr w') : RO w w' I P W Q V :=
  h.ty (K := []) (Ty.of_below hb) (h.bo.ty (K := []) (B' := 0) (Ty.of_below hb) (by simp) (by simp) (by simp)) (by simp) (by simp) (by simp) (by simp) (by simp) (by simp) (by simp)
/-- The Book was changed. -/
theorem RO.book (ht : Ty [38, 27] I.B wr w') (hb : BkOk w' I.B I.k) : RO w w' I P W Q V :=
  h.ty (K := [38, 27]) (ht.mono (fun _ h => h) h.wB) hb (by decide) (by decide) (by decide) (by decide) (by decide) (by decide) (by decide)
/-- An op was written. -/
theorem RO.op {b : Nat} {kd nn vv : Int} {nr : Bool} (ho : OpAt wr b kd nn vv nr) (hb : But b wr w') (hB : w.heap.size ≤ b) : RO w w' I P W Q V := by
  have ht : Ty [40] w.heap.size wr w' := Ty.of_but hb ho.hd hB
  exact h.ty ht (h.bo.ty ht (by decide) (by decide) (by decide)) (by decide) (by decide) (by decide) (by decide) (by decide) (by decide) (by decide)
end

end Go.Proofs.YtjpeppflldmffaaDoor

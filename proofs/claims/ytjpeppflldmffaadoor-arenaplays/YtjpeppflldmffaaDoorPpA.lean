/- PagePlays: what stands in memory from round to round. -/
import Derived.Test.YtjpeppflldmffaaDoorKpJ
import Derived.Test.YtjpeppflldmffaaDoorPgG
namespace Go.Proofs.YtjpeppflldmffaaDoor
open Go.RowKit

theorem Tryd.info4 : (Tryd.prog.info? 4).map (fun i => (i.zero, i.size, i.bytes)) = some (some (.bool false), 1, 1) := by kernel_rfl

/-- All blocks that were there, but two, are as they were. -/
structure But2 (b1 b2 : Nat) (w w' : World) : Prop where
  os : w'.os = w.os
  tape : w'.tape = w.tape
  output : w'.output = w.output
  size : w.heap.size ≤ w'.heap.size
  block : ∀ i, i < w.heap.size → i ≠ b1 → i ≠ b2 → w'.heap[i]? = w.heap[i]?
theorem But2.refl (b1 b2 : Nat) (w : World) : But2 b1 b2 w w := ⟨rfl, rfl, rfl, Nat.le_refl _, fun _ _ _ _ => rfl⟩
theorem But2.below {b1 b2 : Nat} {a w w' : World} (h : But2 b1 b2 a w) (g : Below a.heap.size w w') : But2 b1 b2 a w' :=
  ⟨g.os.trans h.os, g.tape.trans h.tape, g.output.trans h.output, Nat.le_trans h.size g.size, fun i hi h1 h2 => (g.block i hi).trans (h.block i hi h1 h2)⟩
theorem But2.but1 {b1 b2 : Nat} {a w w' : World} (h : But2 b1 b2 a w) (g : But b1 w w') : But2 b1 b2 a w' :=
  ⟨g.os.trans h.os, g.tape.trans h.tape, g.output.trans h.output, Nat.le_trans h.size g.size, fun i hi h1 h2 => (g.block i (Nat.lt_of_lt_of_le hi h.size) h1).trans (h.block i hi h1 h2)⟩
theorem But2.but2 {b1 b2 : Nat} {a w w' : World} (h : But2 b1 b2 a w) (g : But b2 w w') : But2 b1 b2 a w' :=
  ⟨g.os.trans h.os, g.tape.trans h.tape, g.output.trans h.output, Nat.le_trans h.size g.size, fun i hi h1 h2 => (g.block i (Nat.lt_of_lt_of_le hi h.size) h2).trans (h.block i hi h1 h2)⟩
theorem But2.ty {B b1 b2 : Nat} {t : TypeId} {n m : Nat} {f g : Nat → Value} {w w' : World} (h : But2 b1 b2 w w') (r1 : w.rowIs b1 t n f) (r2 : w.rowIs b2 t m g) (h1 : B ≤ b1) (h2 : B ≤ b2) : Ty [t] B w w' := by
  obtain ⟨c1, hc1, _⟩ := r1
  obtain ⟨c2, hc2, _⟩ := r2
  refine ⟨h.os, h.tape, h.output, h.size, fun i hi hb => h.block i hi (by omega) (by omega), fun i cs u fz hb hu => h.block i ?_ ?_ ?_⟩
  · obtain ⟨hlt, _⟩ := Array.getElem?_eq_some_iff.1 hb
    exact hlt
  · intro e
    subst e
    rw [hc1] at hb
    simp at hb
    exact hu (by simp [hb.2.1])
  · intro e
    subst e
    rw [hc2] at hb
    simp at hb
    exact hu (by simp [hb.2.1])

/-- THE BOOK at block bk is in order. -/
def BkOk (w : World) (B bk : Nat) : Prop :=
  ∃ vi vw I W, BookAt w B bk vi vw I W ∧ I.length ≤ 250 ∧ I.map Prod.snd = W.map Prod.snd ∧ ∀ p ∈ I, p.2.length ≤ 900
/-- .. and the list v can be kept in it. -/
def KeepOk (w : World) (B bk : Nat) (v : Value) (L : List Int) : Prop :=
  ∃ vi vw I W, BookAt w B bk vi vw I W ∧ I.length ≤ 250 ∧ I.map Prod.snd = W.map Prod.snd ∧ (∀ p ∈ I, p.2.length ≤ 900) ∧ L.length ≤ 900 ∧ OwnInts w B (v, L) ∧ (∀ p ∈ I, Apt p.1 v) ∧ ∀ p ∈ W, Apt v p.1

theorem BkOk.ty {w w' : World} {K : List TypeId} {B B' bk : Nat} (h : BkOk w B bk) (ht : Ty K B' w w') (h1 : 38 ∉ K) (h2 : 27 ∉ K) (h3 : 3 ∉ K) : BkOk w' B bk := by
  obtain ⟨vi, vw, I, W, hb, r⟩ := h
  exact ⟨vi, vw, I, W, hb.ty ht h1 h2 h3, r⟩
theorem BkOk.drewN {w : World} {B bk : Nat} (h : BkOk w B bk) (q : Nat) : BkOk (w.drewN q) B bk := by
  obtain ⟨vi, vw, I, W, hb, r⟩ := h
  exact ⟨vi, vw, I, W, hb.drewN q, r⟩
/-- A list that is new: behind what was there in w. -/
theorem BkOk.keep {w w' : World} {K : List TypeId} {B B' bk : Nat} {v : Value} {L : List Int} (h : BkOk w B bk) (ht : Ty K B' w w') (h1 : 38 ∉ K) (h2 : 27 ∉ K) (h3 : 3 ∉ K)
    (hB : B ≤ w.heap.size) (hL : L.length ≤ 900) (ho : w'.ownsRow w.heap.size 3 1 v L.length (L.map (Value.int .i64))) : KeepOk w' B bk v L := by
  obtain ⟨vi, vw, I, W, hb, r1, r2, r3⟩ := h
  exact ⟨vi, vw, I, W, hb.ty ht h1 h2 h3, r1, r2, r3, hL, own_base ho hB, fun p hp => apt_fresh (hb.ri p hp) ho (Nat.le_refl _), fun p hp => (apt_fresh (hb.rc p hp) ho (Nat.le_refl _)).symm'⟩

set_option maxHeartbeats 400000 in
theorem ints_full (v : Value) (a : Option Addr) (c bk : Nat) (w : World) (h : w.cell? ⟨bk, 0, none⟩ = some (.slice a 250 c)) :
    Calls Tryd.prog 16 #[.pointer (some ⟨bk, 0, none⟩), v] w fun e w' => e = .returned (.tuple #[]) ∧ w' = w := by
  go_enter Tryd.func16, Tryd.ntmps16
  go_wp2_with fail
  go_end0
  exact ⟨rfl, rfl⟩

theorem keep_any (L : List Int) (v : Value) (w : World) {B bk : Nat} (h : KeepOk w B bk v L) (hB : B ≤ w.heap.size) :
    Calls Tryd.prog 16 #[.pointer (some ⟨bk, 0, none⟩), v] w fun e w' => e = .returned (.tuple #[]) ∧ BkOk w' B bk ∧ Ty [38, 27] B w w' := by
  obtain ⟨vi, vw, I, W, hb, r1, r2, r3, hL, ho, hI, hW⟩ := h
  have hlW : W.length = I.length := by have := congrArg List.length r2; simpa using this.symm
  by_cases hf : I.length = 250
  · obtain ⟨a, c, e⟩ := own_len hb.oi
    have hc := hb.c0
    rw [e, hf] at hc
    refine (ints_full v a c bk w hc).mono ?_
    rintro e' w' ⟨rfl, rfl⟩
    exact ⟨rfl, ⟨vi, vw, I, W, hb, r1, r2, r3⟩, Ty.refl _ _ _⟩
  · refine (ints_any L v w hb hB (by omega) (by omega) (by omega) ho hI hW).mono ?_
    rintro e w' ⟨rfl, vi', vw', v2, hb', ht⟩
    refine ⟨rfl, ⟨vi', vw', _, _, hb', by simp; omega, ?_, ?_⟩, ht⟩
    · rw [List.map_append, List.map_append, r2]; rfl
    · intro p hp
      rcases List.mem_append.1 hp with hp | hp
      · exact r3 p hp
      · simp at hp; subst hp; exact hL

/-- IN MEMORY: the Page with U used and M marked, the two lists of bools with A and C, the Book; what was there in w is as it was. -/
structure PpSt (w wr : World) (b b1 b2 bk : Nat) (c : Int) (n : Nat) (U M A C : Nat → Bool) : Prop where
  pg : PgAt wr b c n U M
  ua : wr.rowIs b1 4 n (fun x => .bool (A x))
  ma : wr.rowIs b2 4 n (fun x => .bool (C x))
  bo : BkOk wr w.heap.size bk
  lo : Below w.heap.size w wr
  hb : w.heap.size ≤ b
  h1 : w.heap.size ≤ b1
  h2 : w.heap.size ≤ b2
  ne : b1 ≠ b2
  t0 : Tab w

section
variable {w wr w' : World} {b b1 b2 bk : Nat} {c : Int} {n : Nat} {U M A C : Nat → Bool} (h : PpSt w wr b b1 b2 bk c n U M A C)
include h
theorem PpSt.tb : Tab wr := h.t0.below h.lo h.t0.size
theorem PpSt.ty {K : List TypeId} (ht : Ty K w.heap.size wr w') (h1 : 38 ∉ K) (h2 : 27 ∉ K) (h3 : 3 ∉ K) (h4 : 4 ∉ K) (h5 : 74 ∉ K) : PpSt w w' b b1 b2 bk c n U M A C :=
  ⟨h.pg.ty ht h5, ht.row h.ua h4, ht.row h.ma h4, h.bo.ty ht h1 h2 h3, h.lo.trans (ht.below h.lo.size), h.hb, h.h1, h.h2, h.ne, h.t0⟩
theorem PpSt.below (hb : Below wr.heap.size wr w') : PpSt w w' b b1 b2 bk c n U M A C :=
  h.ty (K := []) (Ty.of_below hb) (by simp) (by simp) (by simp) (by simp) (by simp)
theorem PpSt.drewN (q : Nat) : PpSt w (wr.drewN q) b b1 b2 bk c n U M A C :=
  ⟨h.pg.drewN q, h.ua, h.ma, h.bo.drewN q, below_drewN h.lo q, h.hb, h.h1, h.h2, h.ne, h.t0⟩
/-- The Page is written. -/
theorem PpSt.page {U' M' : Nat → Bool} (hb : But b wr w') (hp : PgAt w' b c n U' M') : PpSt w w' b b1 b2 bk c n U' M' A C := by
  have ht : Ty [74] w.heap.size wr w' := Ty.of_but hb h.pg.hd h.hb
  exact ⟨hp, ht.row h.ua (by decide), ht.row h.ma (by decide), h.bo.ty ht (by decide) (by decide) (by decide), h.lo.trans (ht.below h.lo.size), h.hb, h.h1, h.h2, h.ne, h.t0⟩
/-- The lists of bools are written. -/
theorem PpSt.both {A' C' : Nat → Bool} (hb : But2 b1 b2 wr w') (r1 : w'.rowIs b1 4 n (fun x => .bool (A' x))) (r2 : w'.rowIs b2 4 n (fun x => .bool (C' x))) : PpSt w w' b b1 b2 bk c n U M A' C' := by
  have ht : Ty [4] w.heap.size wr w' := hb.ty h.ua h.ma h.h1 h.h2
  exact ⟨h.pg.ty ht (by decide), r1, r2, h.bo.ty ht (by decide) (by decide) (by decide), h.lo.trans (ht.below h.lo.size), h.hb, h.h1, h.h2, h.ne, h.t0⟩
theorem PpSt.set1 (x : Nat) (v : Bool) : PpSt w (wr.setCell ⟨b1, x, none⟩ (.bool v)) b b1 b2 bk c n U M (up A x v) C := by
  have g : But b1 wr (wr.setCell ⟨b1, x, none⟩ (.bool v)) := (But.refl _ _).setCell x _
  exact h.both ((But2.refl _ _ _).but1 g) ((h.ua.set x (.bool v)).congr fun i _ => by by_cases e : i = x <;> simp [up, e]) (g.row h.ma (fun e => h.ne e.symm))
theorem PpSt.set2 (x : Nat) (v : Bool) : PpSt w (wr.setCell ⟨b2, x, none⟩ (.bool v)) b b1 b2 bk c n U M A (up C x v) := by
  have g : But b2 wr (wr.setCell ⟨b2, x, none⟩ (.bool v)) := (But.refl _ _).setCell x _
  exact h.both ((But2.refl _ _ _).but2 g) (g.row h.ua h.ne) ((h.ma.set x (.bool v)).congr fun i _ => by by_cases e : i = x <;> simp [up, e])
/-- The Book is written. -/
theorem PpSt.book (ht : Ty [38, 27] w.heap.size wr w') (hb : BkOk w' w.heap.size bk) : PpSt w w' b b1 b2 bk c n U M A C :=
  ⟨h.pg.ty ht (by decide), ht.row h.ua (by decide), ht.row h.ma (by decide), hb, h.lo.trans (ht.below h.lo.size), h.hb, h.h1, h.h2, h.ne, h.t0⟩
theorem PpSt.congr {A' C' : Nat → Bool} (hA : ∀ x, x < n → A x = A' x) (hC : ∀ x, x < n → C x = C' x) : PpSt w wr b b1 b2 bk c n U M A' C' :=
  ⟨h.pg, h.ua.congr fun i hi => by rw [hA i hi], h.ma.congr fun i hi => by rw [hC i hi], h.bo, h.lo, h.hb, h.h1, h.h2, h.ne, h.t0⟩
end

theorem book_new (w : World) (B : Nat) (hB : B ≤ w.heap.size) :
    BkOk (w.alloc (.cells #[.slice none 0 0, .slice none 0 0, .slice none 0 0, .slice none 0 0, .slice none 0 0, .slice none 0 0, .slice none 0 0, .slice none 0 0, .slice none 0 0, .slice none 0 0] 38)) B w.heap.size := by
  refine ⟨.slice none 0 0, .slice none 0 0, [], [], ⟨?_, hB, World.ownsRow_nil _ _ _ _, World.ownsRow_nil _ _ _ _, Or.inl rfl, fun p hp => by simp at hp, fun p hp => by simp at hp, List.Pairwise.nil, fun p hp => by simp at hp⟩, by simp, rfl, fun p hp => by simp at hp⟩
  have := World.rowIs_alloc w #[.slice none 0 0, .slice none 0 0, .slice none 0 0, .slice none 0 0, .slice none 0 0, .slice none 0 0, .slice none 0 0, .slice none 0 0, .slice none 0 0, .slice none 0 0] 38 (bkCells (.slice none 0 0) (.slice none 0 0)) (fun i hi => by
    have h10 : i < 10 := by simpa using hi
    have : i = 0 ∨ i = 1 ∨ i = 2 ∨ i = 3 ∨ i = 4 ∨ i = 5 ∨ i = 6 ∨ i = 7 ∨ i = 8 ∨ i = 9 := by omega
    rcases this with rfl | rfl | rfl | rfl | rfl | rfl | rfl | rfl | rfl | rfl <;> rfl)
  simpa using this

theorem pp_start {w w4 : World} {b b1 b2 : Nat} {c : Int} {n : Nat} (h : PS w w4 b c n (fun _ => false) (fun _ => false)) (hne : b1 ≠ b2) (h1 : w.heap.size ≤ b1) (h2 : w.heap.size ≤ b2)
    (r1 : w4.rowIs b1 4 n (fun _ => .bool false)) (r2 : w4.rowIs b2 4 n (fun _ => .bool false)) :
    PpSt w (w4.alloc (.cells #[.slice none 0 0, .slice none 0 0, .slice none 0 0, .slice none 0 0, .slice none 0 0, .slice none 0 0, .slice none 0 0, .slice none 0 0, .slice none 0 0, .slice none 0 0] 38)) b b1 b2 w4.heap.size c n (fun _ => false) (fun _ => false) (fun _ => false) (fun _ => false) :=
  ⟨h.pg.alloc _, r1.alloc _, r2.alloc _, book_new w4 _ h.lo.size, h.lo.alloc h.lo.size _, h.hb, h1, h2, hne, h.t0⟩
theorem PS.drew {w wr : World} {b : Nat} {c : Int} {n : Nat} {U M : Nat → Bool} (h : PS w wr b c n U M) : PS w wr.drew b c n U M :=
  ⟨⟨h.pg.hd, h.pg.lo, h.pg.hi, h.pg.sl, h.pg.out, h.pg.sub⟩, ⟨h.lo.os, h.lo.tape, h.lo.output, h.lo.size, h.lo.block⟩, h.hb, h.t0⟩

/-- The least one from t on that is not used; -1: none. -/
def IsLeast (U : Nat → Bool) (n t : Nat) (v : Int) : Prop :=
  (v = -1 ∧ ∀ x, t ≤ x → x < n → U x = true) ∨ ∃ z : Nat, v = (z : Int) ∧ t ≤ z ∧ z < n ∧ U z = false ∧ ∀ y, t ≤ y → y < z → U y = true
theorem IsLeast.stay {U : Nat → Bool} {n t : Nat} {v : Int} (h : IsLeast U n (t + 1) v) (hU : U t = true) : IsLeast U n t v := by
  rcases h with ⟨h1, h2⟩ | ⟨z, h1, h2, h3, h4, h5⟩
  · refine Or.inl ⟨h1, fun x g1 g2 => ?_⟩
    by_cases e : x = t
    · rw [e]; exact hU
    · exact h2 x (by omega) g2
  · refine Or.inr ⟨z, h1, by omega, h3, h4, fun y g1 g2 => ?_⟩
    by_cases e : y = t
    · rw [e]; exact hU
    · exact h5 y (by omega) g2
theorem IsLeast.here {U : Nat → Bool} {n t : Nat} (ht : t < n) (hU : U t = false) : IsLeast U n t (t : Int) :=
  Or.inr ⟨t, rfl, Nat.le_refl _, ht, hU, fun y g1 g2 => by omega⟩

/-- A sweep of the two lists, as far as t. -/
def swA (U M : Nat → Bool) (t x : Nat) : Bool := if x < t then U x && M x else U x
def swC (M : Nat → Bool) (t x : Nat) : Bool := if x < t then false else M x
theorem swA_zero (U M : Nat → Bool) : swA U M 0 = U := by funext x; simp [swA]
theorem swC_zero (M : Nat → Bool) : swC M 0 = M := by funext x; simp [swC]
theorem swA_next (U M : Nat → Bool) (t : Nat) (v : Bool) (h : (U t && M t) = v) : up (swA U M t) t v = swA U M (t + 1) := by
  funext x
  by_cases e : x = t
  · subst e; simp [up, swA, h]
  · have : (x < t + 1) = (x < t) := by simp; omega
    simp [up, e, swA, this]
theorem swC_next (M : Nat → Bool) (t : Nat) : up (swC M t) t false = swC M (t + 1) := by
  funext x
  by_cases e : x = t
  · subst e; simp [up, swC]
  · have : (x < t + 1) = (x < t) := by simp; omega
    simp [up, e, swC, this]
theorem swA_stay (U M : Nat → Bool) (t : Nat) (h : (U t && M t) = U t) : swA U M t = swA U M (t + 1) := by
  rw [← swA_next U M t (U t) h]
  exact (up_same _ _ _ (by simp [swA])).symm

/-- The sweep of the two lists in its midst: A and C stand in them, al is the list of what went, as far as t. -/
structure SwSt (w6 wr : World) (b1 b2 n : Nat) (G A C : Nat → Bool) (al : Value) (t : Nat) : Prop where
  ra : wr.rowIs b1 4 n (fun x => .bool (A x))
  rc : wr.rowIs b2 4 n (fun x => .bool (C x))
  bu : But2 b1 b2 w6 wr
  ow : wr.ownsRow w6.heap.size 3 1 al (cnt G t) ((els G t).map (Value.int .i64))
  l1 : b1 < w6.heap.size
  l2 : b2 < w6.heap.size
  ne : b1 ≠ b2
section
variable {w6 wr : World} {b1 b2 n : Nat} {G A C : Nat → Bool} {al : Value} {t : Nat} (h : SwSt w6 wr b1 b2 n G A C al t)
include h
theorem SwSt.set1 (x : Nat) (v : Bool) : SwSt w6 (wr.setCell ⟨b1, x, none⟩ (.bool v)) b1 b2 n G (up A x v) C al t := by
  have g : But b1 wr (wr.setCell ⟨b1, x, none⟩ (.bool v)) := (But.refl _ _).setCell x _
  exact ⟨(h.ra.set x (.bool v)).congr fun i _ => by by_cases e : i = x <;> simp [up, e], g.row h.rc (fun e => h.ne e.symm), h.bu.but1 g, (Ty.of_but (B := 0) g h.ra (Nat.zero_le _)).own h.ow (by decide), h.l1, h.l2, h.ne⟩
theorem SwSt.set2 (x : Nat) (v : Bool) : SwSt w6 (wr.setCell ⟨b2, x, none⟩ (.bool v)) b1 b2 n G A (up C x v) al t := by
  have g : But b2 wr (wr.setCell ⟨b2, x, none⟩ (.bool v)) := (But.refl _ _).setCell x _
  exact ⟨g.row h.ra h.ne, (h.rc.set x (.bool v)).congr fun i _ => by by_cases e : i = x <;> simp [up, e], h.bu.but2 g, (Ty.of_but (B := 0) g h.rc (Nat.zero_le _)).own h.ow (by decide), h.l1, h.l2, h.ne⟩
theorem SwSt.same (hG : G t = false) : SwSt w6 wr b1 b2 n G A C al (t + 1) := by
  have e : els G (t + 1) = els G t := by show els G t ++ (if G t then [(t : Int)] else []) = _; rw [hG]; simp
  have e2 : cnt G (t + 1) = cnt G t := by rw [← els_len, e, els_len]
  exact ⟨h.ra, h.rc, h.bu, by rw [e, e2]; exact h.ow, h.l1, h.l2, h.ne⟩
theorem SwSt.grow (hG : G t = true) {w1 : World} {v' : Value} (o : Obj) (ho : w1.ownsRow w6.heap.size 3 1 v' (cnt G t + 1) ((els G t).map (Value.int .i64) ++ [.int .i64 (t : Int)])) (hg : (wr.alloc o).grownBy w1 al.ownBlock) :
    SwSt w6 w1 b1 b2 n G A C v' (t + 1) := by
  have e : els G (t + 1) = els G t ++ [(t : Int)] := by show els G t ++ (if G t then [(t : Int)] else []) = _; rw [hG]; simp
  have e2 : cnt G (t + 1) = cnt G t + 1 := by rw [← els_len, e, List.length_append, els_len]; rfl
  have hb0 : Below w6.heap.size wr (wr.alloc o) := (Below.refl _ _).alloc h.bu.size _
  have hb : Below w6.heap.size wr w1 := hb0.grown hg (by have := h.bu.size; simp; omega) (fun q hq => (h.ow.lt q hq).1)
  exact ⟨h.ra.of_block (hb.block _ h.l1), h.rc.of_block (hb.block _ h.l2), h.bu.below hb, by rw [e, e2, List.map_append]; exact ho, h.l1, h.l2, h.ne⟩
end

end Go.Proofs.YtjpeppflldmffaaDoor

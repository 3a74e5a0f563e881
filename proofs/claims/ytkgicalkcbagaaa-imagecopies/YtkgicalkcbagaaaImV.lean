/- The walk of ImageCopies. -/
import Derived.Test.YtkgicalkcbagaaaImY
import Derived.Deep.DeepCutAuto
namespace Go.Proofs.Ytkgicalkcbagaaa
open Go.RowKit

theorem refSame_true {p : Pg} {n0 n1 n2 : Nat} (hn : Hid (p.glob.length = n0 ∧ p.shapes.length = n1 ∧ p.funcs.length = n2)) (hz : szP p ≤ 3000) (ag az af ag' az' af' : Option Addr) (cg cs cf cg' cs' cf' : Nat) (w : World)
    (h1 : PgV Any w (.slice ag n0 cg) (.slice az n1 cs) (.slice af n2 cf) p) (h2 : PgV Any w (.slice ag' n0 cg') (.slice az' n1 cs') (.slice af' n2 cf') p) :
    Calls Try.prog 11 #[.agg #[.slice ag n0 cg, .slice az n1 cs, .slice af n2 cf], .agg #[.slice ag' n0 cg', .slice az' n1 cs', .slice af' n2 cf']] w fun e w' => e = .returned (.bool true) ∧ Below w.heap.size w w' := by
  obtain ⟨rfl, rfl, rfl⟩ := hn.out
  refine (refSame_any p p ag az af ag' az' af' cg cs cf cg' cs' cf' w hz h1 h2).mono ?_
  rintro e w' ⟨⟨s, rfl, hs⟩, hb⟩
  exact ⟨by rw [hs.2 rfl], hb⟩
theorem RwT.some {Q : Nat → Prop} {w : World} {e : TypeId} {k n j : Nat} {a : Option Addr} {m c : Nat} (h : RwT Q w e k (.slice a m c) n) (hj : j < n) : ∃ g N f, a = some ⟨g, 0, none⟩ ∧ m = n ∧ Q g ∧ w.rowIs g e N f ∧ n * k ≤ N := by
  rcases h with ⟨rfl, _⟩ | ⟨g, c', N, f, h1, h2, h3, h4⟩
  · omega
  · cases h1
    exact ⟨g, N, f, rfl, rfl, h2, h3, h4⟩
theorem ShT.some {Q : Nat → Prop} {w : World} {n i : Nat} {a : Option Addr} {m c : Nat} (h : ShT Q w (.slice a m c) n i) (hi : i < n) : ∃ g N f, a = some ⟨g, 0, none⟩ ∧ Q g ∧ w.rowIs g 42 N f ∧ n ≤ N ∧ ∀ j, i ≤ j → j < n → ∃ m, m ≤ 3000 ∧ RwT Q w 3 1 (f j) m := by
  rcases h with ⟨rfl, _⟩ | ⟨g, c', N, f, h1, h2, h3, h4, h5⟩
  · omega
  · cases h1
    exact ⟨g, N, f, rfl, h2, h3, h4, h5⟩
theorem FuT.some {Q : Nat → Prop} {w : World} {n i : Nat} {a : Option Addr} {m c : Nat} (h : FuT Q w (.slice a m c) n) (hi : i < n) : ∃ g N f, a = some ⟨g, 0, none⟩ ∧ Q g ∧ w.rowIs g 45 N f ∧ n * 5 ≤ N ∧ ∀ j, j < n → FnT Q w (f (j * 5)) (f (j * 5 + 1)) (f (j * 5 + 2)) (f (j * 5 + 3)) (f (j * 5 + 4)) := by
  rcases h with ⟨rfl, _⟩ | ⟨g, c', N, f, h1, h2, h3, h4, h5⟩
  · omega
  · cases h1
    exact ⟨g, N, f, rfl, h2, h3, h4, h5⟩

theorem row_set2 {w : World} {g N : Nat} {e : TypeId} {f : Nat → Value} (h : w.rowIs g e N f) (o : Nat) (u : Value) : ∃ f', (w.setCell ⟨g, o, none⟩ u).rowIs g e N f' ∧ (∀ i, i ≠ o → f' i = f i) ∧ f' o = u := by
  exact ⟨_, h.set o u, fun i hi => by simp [hi], by simp⟩
theorem thru {X w' : World} {b n : Nat} {t : TypeId} {f : Nat → Value} (r : X.rowIs b t n f) (hb : Below X.heap.size X w') : w'.rowIs b t n f := r.of_block (hb.block _ r.lt)
abbrev zPg : Obj := .cells #[.slice none 0 0, .slice none 0 0, .slice none 0 0] 26
abbrev ZRow (w : World) (b : Nat) : Prop := w.rowIs b 26 3 (pgC (.slice none 0 0) (.slice none 0 0) (.slice none 0 0))
theorem zrow (w : World) : ZRow (w.alloc zPg) w.heap.size := pg_box w 0 0 0 none none none 0 0 0
theorem zrow1 (w : World) : ZRow ((w.alloc zPg).alloc zPg) w.heap.size := (zrow w).alloc _
theorem zrow2 (w : World) : ZRow ((w.alloc zPg).alloc zPg) (w.heap.size + 1) := by
  have := zrow (w.alloc zPg)
  rw [World.size_alloc] at this
  exact this
theorem bw_one {w w' : World} (o : Obj) (h : Below (w.alloc o).heap.size (w.alloc o) w') : Below w.heap.size w w' := ((Below.refl _ _).alloc (Nat.le_refl _) o).trans (h.mono (by simp))
theorem bw_drew {w w' : World} (h : Below w.drew.heap.size w.drew w') : Below w.heap.size w w' := ((Below.refl _ _).drew).trans (h.mono (Nat.le_refl _))
theorem ZRow.c {w : World} {b : Nat} (h : ZRow w b) : (w.cell? ⟨b, 0, none⟩ = some (.slice none 0 0) ∧ w.cell? ⟨b, 1, none⟩ = some (.slice none 0 0) ∧ w.cell? ⟨b, 2, none⟩ = some (.slice none 0 0)) ∧ (w.frozen? ⟨b, 0, none⟩ = false ∧ w.frozen? ⟨b, 1, none⟩ = false ∧ w.frozen? ⟨b, 2, none⟩ = false) ∧ b < w.heap.size :=
  ⟨⟨h.cell (i := 0) (by decide), h.cell (i := 1) (by decide), h.cell (i := 2) (by decide)⟩, ⟨h.frozen 0, h.frozen 1, h.frozen 2⟩, h.lt⟩
theorem PgO.base {w : World} {B B' : Nat} {vg vs vf : Value} {p : Pg} {Ss : List (List Int × Value)} {Fs : List FnV} (h : PgO w B vg vs vf p Ss Fs) (hb : B' ≤ B) : PgO w B' vg vs vf p Ss Fs :=
  ⟨h.shs, h.fns, own_base h.glob hb, own_base h.sh hb, own_base h.fn hb, fun q hq => own_base (h.es q hq) hb, fun q hq => (h.ef q hq).base hb⟩
/-- Hidden, whatever it says. -/
structure HidT (p : Prop) : Prop where
  out : p
/-- Ahead of the copies: what was, and the box of p. -/
structure PreAt (w wk : World) (B : Nat) (p0 p1 p2 : Value) (p : Pg) : Prop where
  low : Below B w wk
  box : wk.rowIs B 26 3 (pgC p0 p1 p2)
  pg : PgV (fun b => b < B) wk p0 p1 p2 p
theorem PreAt.below {w wk w2 : World} {B : Nat} {p0 p1 p2 : Value} {p : Pg} (h : PreAt w wk B p0 p1 p2 p) (hb : Below wk.heap.size wk w2) : PreAt w w2 B p0 p1 p2 p :=
  ⟨h.low.trans (hb.mono (Nat.le_of_lt h.box.lt)), h.box.of_block (hb.block _ h.box.lt), h.pg.below hb⟩
theorem PreAt.drew {w wk : World} {B : Nat} {p0 p1 p2 : Value} {p : Pg} (h : PreAt w wk B p0 p1 p2 p) : PreAt w wk.drew B p0 p1 p2 p := h.below ((Below.refl _ _).drew)
theorem PreAt.alloc {w wk : World} {B : Nat} {p0 p1 p2 : Value} {p : Pg} (h : PreAt w wk B p0 p1 p2 p) (o : Obj) : PreAt w (wk.alloc o) B p0 p1 p2 p := h.below ((Below.refl _ _).alloc (Nat.le_refl _) o)
theorem PreAt.c {w wk : World} {B : Nat} {p0 p1 p2 : Value} {p : Pg} (h : PreAt w wk B p0 p1 p2 p) : wk.cell? ⟨B, 0, none⟩ = some p0 ∧ wk.cell? ⟨B, 1, none⟩ = some p1 ∧ wk.cell? ⟨B, 2, none⟩ = some p2 :=
  ⟨h.box.cell (i := 0) (by decide), h.box.cell (i := 1) (by decide), h.box.cell (i := 2) (by decide)⟩
/-- In the midst of spoiling a function: what is kept, its box y, its row g, its lists. -/
structure SpAt (C : Prop) (B M : Nat) (wk : World) (y g N : Nat) (f : Nat → Value) (v0 v1 v2 v3 v4 : Value) (m0 m3 m4 : Nat) : Prop where
  cs : C
  yb : wk.rowIs y 45 5 (fun k => (#[v0, v1, v2, v3, v4] : Array Value).getD k undef)
  gb : wk.rowIs g 45 N f
  h0 : RwT (fun b => B ≤ b ∧ b < M) wk 3 1 v0 m0
  h3 : RwT (fun b => B ≤ b ∧ b < M) wk 3 1 v3 m3
  h4 : RwT (fun b => B ≤ b ∧ b < M) wk 47 4 v4 m4
theorem SpAt.set {C C' : Prop} {B M : Nat} {wk : World} {y g N : Nat} {f : Nat → Value} {v0 v1 v2 v3 v4 : Value} {m0 m3 m4 : Nat} (h : SpAt C B M wk y g N f v0 v1 v2 v3 v4 m0 m3 m4) {g2 N2 : Nat} {e : TypeId} {f2 : Nat → Value} (hr : wk.rowIs g2 e N2 f2) (he : e ≠ 45) {o : Nat} {u : Value} (hc : C') :
    SpAt C' B M (wk.setCell ⟨g2, o, none⟩ u) y g N f v0 v1 v2 v3 v4 m0 m3 m4 :=
  ⟨hc, ((But.refl g2 wk).setCell o u).row h.yb (fun e1 => he (row_type hr (e1 ▸ h.yb))), ((But.refl g2 wk).setCell o u).row h.gb (fun e1 => he (row_type hr (e1 ▸ h.gb))), h.h0.set g2 o u, h.h3.set g2 o u, h.h4.set g2 o u⟩

theorem PgO.ty {w w' : World} {B B' : Nat} {vg vs vf : Value} {p : Pg} {Ss : List (List Int × Value)} {Fs : List FnV} (h : PgO w B vg vs vf p Ss Fs) (ht : Ty [26] B' w w') : PgO w' B vg vs vf p Ss Fs :=
  ⟨h.shs, h.fns, ht.own h.glob (by decide), ht.own h.sh (by decide), ht.own h.fn (by decide), fun q hq => ht.own (h.es q hq) (by decide), fun q hq => (h.ef q hq).ty ht (by decide) (by decide)⟩
/-- Behind both copies: what was, the lists of the one and of the other. -/
structure MidAt (w wk : World) (B M : Nat) (p : Pg) (p0 p1 p2 b0 b1 b2 a0 a1 a2 : Value) (n0 n1 n2 : Nat) : Prop where
  low : Below B w wk
  pbox : wk.rowIs B 26 3 (pgC p0 p1 p2)
  pg : PgV (fun b => b < B) wk p0 p1 p2 p
  bo : ∃ Ss Fs, PgO wk M b0 b1 b2 p Ss Fs
  gl : RwT (fun b => B ≤ b ∧ b < M) wk 3 1 a0 n0
  sh : ShT (fun b => B ≤ b ∧ b < M) wk a1 n1 0
  fn : FuT (fun b => B ≤ b ∧ b < M) wk a2 n2
section
variable {w wk w2 : World} {B M : Nat} {p : Pg} {p0 p1 p2 b0 b1 b2 a0 a1 a2 : Value} {n0 n1 n2 : Nat}
theorem MidAt.below (h : MidAt w wk B M p p0 p1 p2 b0 b1 b2 a0 a1 a2 n0 n1 n2) (hb : Below wk.heap.size wk w2) : MidAt w w2 B M p p0 p1 p2 b0 b1 b2 a0 a1 a2 n0 n1 n2 := by
  obtain ⟨Ss, Fs, hO⟩ := h.bo
  exact ⟨h.low.trans (hb.mono (Nat.le_of_lt h.pbox.lt)), h.pbox.of_block (hb.block _ h.pbox.lt), h.pg.below hb, ⟨Ss, Fs, hO.ty (B' := 0) (Ty.of_below hb)⟩, h.gl.below hb, h.sh.below hb, h.fn.below hb⟩
theorem MidAt.set (h : MidAt w wk B M p p0 p1 p2 b0 b1 b2 a0 a1 a2 n0 n1 n2) {x N : Nat} {f : Nat → Value} (hr : wk.rowIs x 26 N f) (hx : B < x) (o : Nat) (u : Value) : MidAt w (wk.setCell ⟨x, o, none⟩ u) B M p p0 p1 p2 b0 b1 b2 a0 a1 a2 n0 n1 n2 := by
  obtain ⟨Ss, Fs, hO⟩ := h.bo
  have hbut := (But.refl x wk).setCell o u
  have hst : Stay (fun b => b < B) wk (wk.setCell ⟨x, o, none⟩ u) := ⟨hbut.size, fun b hb hp => hbut.block b hb (by omega)⟩
  exact ⟨h.low.setCell (p := ⟨x, o, none⟩) (Nat.le_of_lt hx) _, hbut.row h.pbox (by omega), h.pg.stay hst, ⟨Ss, Fs, hO.ty (Ty.of_but hbut hr (Nat.zero_le _))⟩, h.gl.set x o u, h.sh.set hr (by decide) o u, h.fn.set hr (by decide) o u⟩
theorem MidAt.cs (h : MidAt w wk B M p p0 p1 p2 b0 b1 b2 a0 a1 a2 n0 n1 n2) {xa xb : Nat} (ha : wk.rowIs xa 26 3 (pgC a0 a1 a2)) (hb : wk.rowIs xb 26 3 (pgC b0 b1 b2)) : CsAt w wk B M B xa xb p p0 p1 p2 b0 b1 b2 a0 a1 a2 n0 n1 n2 0 := by
  obtain ⟨Ss, Fs, hO⟩ := h.bo
  exact ⟨h.low, Nat.le_refl _, h.pbox, hb, ha, h.pg, hO.pgV, h.gl, h.sh, h.fn⟩
theorem MidAt.st3 (h : MidAt w wk B M p p0 p1 p2 b0 b1 b2 a0 a1 a2 n0 n1 n2) {x N : Nat} {f : Nat → Value} (hr : wk.rowIs x 26 N f) (hx : B < x) (u0 u1 u2 : Value) : MidAt w (((wk.setCell ⟨x, 0, none⟩ u0).setCell ⟨x, 1, none⟩ u1).setCell ⟨x, 2, none⟩ u2) B M p p0 p1 p2 b0 b1 b2 a0 a1 a2 n0 n1 n2 :=
  ((h.set hr hx 0 u0).set (hr.set 0 u0) hx 1 u1).set ((hr.set 0 u0).set 1 u1) hx 2 u2
theorem row_st3 {x : Nat} {f : Nat → Value} (hr : wk.rowIs x 26 3 f) (u0 u1 u2 : Value) : (((wk.setCell ⟨x, 0, none⟩ u0).setCell ⟨x, 1, none⟩ u1).setCell ⟨x, 2, none⟩ u2).rowIs x 26 3 (pgC u0 u1 u2) :=
  (((hr.set 0 u0).set 1 u1).set 2 u2).congr fun k hk => by
    have : k = 0 ∨ k = 1 ∨ k = 2 := by omega
    rcases this with rfl | rfl | rfl <;> rfl
theorem row_ot3 {x y N : Nat} {t : TypeId} {f : Nat → Value} (hr : wk.rowIs y t N f) (hne : y ≠ x) (u0 u1 u2 : Value) : (((wk.setCell ⟨x, 0, none⟩ u0).setCell ⟨x, 1, none⟩ u1).setCell ⟨x, 2, none⟩ u2).rowIs y t N f :=
  ((hr.setOther (a := ⟨x, 0, none⟩) hne _).setOther (a := ⟨x, 1, none⟩) hne _).setOther (a := ⟨x, 2, none⟩) hne _
end
/-- What the copies leave, wherever the boxes come to lie. -/
def Leaves (w wk : World) (B xa xb : Nat) (p : Pg) (p0 p1 p2 b0 b1 b2 a0 a1 a2 : Value) (n0 n1 n2 : Nat) : Prop := ∃ M, CsAt w wk B M B xa xb p p0 p1 p2 b0 b1 b2 a0 a1 a2 n0 n1 n2 0


section
variable {P : Program} {ops : Array Oper} {Q : Exit → Act → World → Prop} {md : Region.Mode}
/-- A region in whatever order, by what holds behind each set of operations. -/
theorem inv_any (Inv : Array Bool → Act → World → Prop)
    (hstep : ∀ l a w i o, Inv l a w → ops[i]? = some o → l.getD i true = false → (∀ e ∈ o.after, Region.binds md e = true → l.getD e.on false = true) → wpOp P ops Q i (Inv (l.setIfInBounds i true)) a w)
    (hend : ∀ l a w, Inv l a w → Region.ready md ops l = [] → Q .normal a w) :
    ∀ fuel l a w, l.count false ≤ fuel → Inv l a w → wpAny P md ops Q fuel l a w := by
  intro fuel
  induction fuel with
  | zero =>
    intro l a w hc h
    have hr : Region.ready md ops l = [] := by
      apply List.eq_nil_iff_forall_not_mem.2
      intro j hj
      have h1 := (mem_ready.1 hj).1
      have hlt : j < l.size := by
        rcases Nat.lt_or_ge j l.size with h' | h'
        · exact h'
        · simp [Array.getElem?_eq_none h'] at h1
      have h2 : l[j] = false := by simpa [hlt] using h1
      have h3 : 0 < l.count false := Array.count_pos_iff.2 (h2 ▸ Array.getElem_mem hlt)
      omega
    exact ⟨hr, hend _ _ _ h hr⟩
  | succ n ih =>
    intro l a w hc h
    refine ⟨hend _ _ _ h, fun i hi => ?_⟩
    obtain ⟨h1, o, ho, hall⟩ := mem_ready.1 hi
    have hlt : i < l.size := by
      rcases Nat.lt_or_ge i l.size with h' | h'
      · exact h'
      · simp [Array.getElem?_eq_none h'] at h1
    have h2 : l[i] = false := by simpa [hlt] using h1
    have h3 : 0 < l.count false := Array.count_pos_iff.2 (h2 ▸ Array.getElem_mem hlt)
    refine wpOp_mono (fun a' w' hk => ih _ _ _ ?_ hk) (hstep l a w i o h ho h1 hall)
    simp only [Array.setIfInBounds, hlt, dif_pos]
    rw [Array.count_set]
    simp [h2]
    omega
theorem wp_region_inv {id : Nat} {a : Act} {w : World} (hm : P.follows .mixedOrders = true) (Inv : Array Bool → Act → World → Prop) (h0 : Inv (Array.replicate ops.size false) a w.drew)
    (hstep : ∀ l a w i o, Inv l a w → ops[i]? = some o → l.getD i true = false → (∀ e ∈ o.after, Region.binds .any e = true → l.getD e.on false = true) → wpOp P ops Q i (Inv (l.setIfInBounds i true)) a w)
    (hend : ∀ l a w, Inv l a w → Region.ready .any ops l = [] → Q .normal a w) : (Code.region id ops true).wp P Q a w :=
  wp_region_any hm (inv_any Inv hstep hend _ _ _ _ (by simp) h0)
theorem wpOp_of {i : Nat} {o : Oper} {K : Act → World → Prop} {a : Act} {w : World} (ho : ops[i]? = some o) (hg : o.guard = none) (h : o.wp P a w K Q) : wpOp P ops Q i K a w := by
  unfold wpOp
  rw [ho]
  simp [Region.wanted, hg, h]
end

/-- The frame: six slots of T written. -/
def fr (T : Array Value) (v3 v4 v21 v22 v23 v24 : Value) : Act := { tmps := (((((T.setIfInBounds 3 v3).setIfInBounds 4 v4).setIfInBounds 21 v21).setIfInBounds 22 v22).setIfInBounds 23 v23).setIfInBounds 24 v24, defers := [] }
section
variable {T : Array Value} {v3 v4 v21 v22 v23 v24 v : Value}
theorem fr3 : (fr T v3 v4 v21 v22 v23 v24).put (some 3) v = fr T v v4 v21 v22 v23 v24 := by
  simp only [fr, Act.put]
  rw [Array.setIfInBounds_comm _ _ (show (24 : Nat) ≠ 3 by decide), Array.setIfInBounds_comm _ _ (show (23 : Nat) ≠ 3 by decide), Array.setIfInBounds_comm _ _ (show (22 : Nat) ≠ 3 by decide), Array.setIfInBounds_comm _ _ (show (21 : Nat) ≠ 3 by decide), Array.setIfInBounds_comm _ _ (show (4 : Nat) ≠ 3 by decide), Array.setIfInBounds_setIfInBounds]
theorem fr4 : (fr T v3 v4 v21 v22 v23 v24).put (some 4) v = fr T v3 v v21 v22 v23 v24 := by
  simp only [fr, Act.put]
  rw [Array.setIfInBounds_comm _ _ (show (24 : Nat) ≠ 4 by decide), Array.setIfInBounds_comm _ _ (show (23 : Nat) ≠ 4 by decide), Array.setIfInBounds_comm _ _ (show (22 : Nat) ≠ 4 by decide), Array.setIfInBounds_comm _ _ (show (21 : Nat) ≠ 4 by decide), Array.setIfInBounds_setIfInBounds]
theorem fr21 : (fr T v3 v4 v21 v22 v23 v24).put (some 21) v = fr T v3 v4 v v22 v23 v24 := by
  simp only [fr, Act.put]
  rw [Array.setIfInBounds_comm _ _ (show (24 : Nat) ≠ 21 by decide), Array.setIfInBounds_comm _ _ (show (23 : Nat) ≠ 21 by decide), Array.setIfInBounds_comm _ _ (show (22 : Nat) ≠ 21 by decide), Array.setIfInBounds_setIfInBounds]
theorem fr22 : (fr T v3 v4 v21 v22 v23 v24).put (some 22) v = fr T v3 v4 v21 v v23 v24 := by
  simp only [fr, Act.put]
  rw [Array.setIfInBounds_comm _ _ (show (24 : Nat) ≠ 22 by decide), Array.setIfInBounds_comm _ _ (show (23 : Nat) ≠ 22 by decide), Array.setIfInBounds_setIfInBounds]
theorem fr23 : (fr T v3 v4 v21 v22 v23 v24).put (some 23) v = fr T v3 v4 v21 v22 v v24 := by
  simp only [fr, Act.put]
  rw [Array.setIfInBounds_comm _ _ (show (24 : Nat) ≠ 23 by decide), Array.setIfInBounds_setIfInBounds]
theorem fr24 : (fr T v3 v4 v21 v22 v23 v24).put (some 24) v = fr T v3 v4 v21 v22 v23 v := by
  simp only [fr, Act.put]
  rw [Array.setIfInBounds_setIfInBounds]
theorem fr_none : (fr T v3 v4 v21 v22 v23 v24).put none v = fr T v3 v4 v21 v22 v23 v24 := rfl
variable (hT : 24 < T.size)
include hT
theorem ev3 : (fr T v3 v4 v21 v22 v23 v24).eval (.tmp 3) = v3 := by
  have : 3 < T.size := by omega
  simp [fr, Act.eval, this]
theorem ev4 : (fr T v3 v4 v21 v22 v23 v24).eval (.tmp 4) = v4 := by
  have : 4 < T.size := by omega
  simp [fr, Act.eval, this]
theorem ev21 : (fr T v3 v4 v21 v22 v23 v24).eval (.tmp 21) = v21 := by
  have : 21 < T.size := by omega
  simp [fr, Act.eval, this]
theorem ev22 : (fr T v3 v4 v21 v22 v23 v24).eval (.tmp 22) = v22 := by
  have : 22 < T.size := by omega
  simp [fr, Act.eval, this]
theorem ev23 : (fr T v3 v4 v21 v22 v23 v24).eval (.tmp 23) = v23 := by
  have : 23 < T.size := by omega
  simp [fr, Act.eval, this]
theorem ev24 : (fr T v3 v4 v21 v22 v23 v24).eval (.tmp 24) = v24 := by
  have : 24 < T.size := by omega
  simp [fr, Act.eval, this]
omit hT in
theorem ev1 (h : T[1]? = some v) : (fr T v3 v4 v21 v22 v23 v24).eval (.tmp 1) = v := by
  have : 1 < T.size := by
    rcases Nat.lt_or_ge 1 T.size with h' | h'
    · exact h'
    · simp [Array.getElem?_eq_none h'] at h
  simp [fr, Act.eval, h]
end

section
variable {o : Oper} {a : Act} {w : World} {K : Act → World → Prop} {Q : Exit → Act → World → Prop}
theorem o_load {x : Operand} {b : Nat} {c0 c1 c2 : Value} (hop : o.op = Op.load 26 x) (hx : a.eval x = .pointer (some ⟨b, 0, none⟩)) (hr : w.rowIs b 26 3 (pgC c0 c1 c2)) (hK : K (a.put o.dst (.agg #[c0, c1, c2])) w) : o.wp Try.prog a w K Q := by
  have k0 : w.cell? ⟨b, 0, none⟩ = some c0 := hr.cell (i := 0) (by decide)
  have k1 : w.cell? ⟨b, 1, none⟩ = some c1 := hr.cell (i := 1) (by decide)
  have k2 : w.cell? ⟨b, 2, none⟩ = some c2 := hr.cell (i := 2) (by decide)
  have e : ∀ ev : Operand → Value, ev x = .pointer (some ⟨b, 0, none⟩) → (execOp ev o).run Try.prog w = .ok (.value (.agg #[c0, c1, c2])) w := fun ev hx => by
    simp [execOp, hop, hx, go_sem, k0, k1, k2]
  unfold Oper.wp
  rw [e _ hx]
  exact hK
theorem o_alloc (hop : o.op = Op.alloc 26) (hK : K (a.put o.dst (.pointer (some ⟨w.heap.size, 0, none⟩))) (w.alloc zPg)) : o.wp Try.prog a w K Q := by
  have e : (execOp a.eval o).run Try.prog w = .ok (.value (.pointer (some ⟨w.heap.size, 0, none⟩))) (w.alloc zPg) := by
    simp [execOp, hop, go_sem]
  unfold Oper.wp
  rw [e]
  exact hK
theorem o_store {x y : Operand} {b : Nat} {f : Nat → Value} {a0 a1 a2 : Option Addr} {m0 m1 m2 c0 c1 c2 : Nat} (hop : o.op = Op.store 26 x y) (hx : a.eval x = .pointer (some ⟨b, 0, none⟩)) (hy : a.eval y = .agg #[.slice a0 m0 c0, .slice a1 m1 c1, .slice a2 m2 c2]) (hr : w.rowIs b 26 3 f)
    (hK : K (a.put o.dst undef) (((w.setCell ⟨b, 0, none⟩ (.slice a0 m0 c0)).setCell ⟨b, 1, none⟩ (.slice a1 m1 c1)).setCell ⟨b, 2, none⟩ (.slice a2 m2 c2))) : o.wp Try.prog a w K Q := by
  have k0 := hr.cell (i := 0) (by decide)
  have k1 := hr.cell (i := 1) (by decide)
  have k2 := hr.cell (i := 2) (by decide)
  have f0 := hr.frozen 0
  have f1 := hr.frozen 1
  have f2 := hr.frozen 2
  have e : ∀ ev : Operand → Value, ev x = .pointer (some ⟨b, 0, none⟩) → ev y = .agg #[.slice a0 m0 c0, .slice a1 m1 c1, .slice a2 m2 c2] → (execOp ev o).run Try.prog w = .ok .skip (((w.setCell ⟨b, 0, none⟩ (.slice a0 m0 c0)).setCell ⟨b, 1, none⟩ (.slice a1 m1 c1)).setCell ⟨b, 2, none⟩ (.slice a2 m2 c2)) := fun ev hx hy => by
    simp [execOp, hop, hx, hy, go_sem, k0, k1, k2, f0, f1, f2]
  unfold Oper.wp
  rw [e _ hx hy]
  exact hK
end

end Go.Proofs.Ytkgicalkcbagaaa

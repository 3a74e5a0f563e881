/- What ImageCopies keeps while it spoils a copy. -/
import Derived.Test.YtkgicalkcbagaaaImS
import Derived.Test.YtkgicalkcbagaaaImW
namespace Go.Proofs.Ytkgicalkcbagaaa
open Go.RowKit

/-- A slice of n elements of k cells each, in a row of cells of type e in a block of property Q. -/
def RwT (Q : Nat → Prop) (w : World) (e : TypeId) (k : Nat) (v : Value) (n : Nat) : Prop :=
  (n = 0 ∧ ∃ a c, v = .slice a 0 c) ∨ ∃ g c N f, v = .slice (some ⟨g, 0, none⟩) n c ∧ Q g ∧ w.rowIs g e N f ∧ n * k ≤ N
theorem row_set {w : World} {g N : Nat} {e : TypeId} {f : Nat → Value} (h : w.rowIs g e N f) (b o : Nat) (u : Value) : ∃ f', (w.setCell ⟨b, o, none⟩ u).rowIs g e N f' ∧ ∀ i, (g ≠ b ∨ i ≠ o) → f' i = f i := by
  by_cases hb : g = b
  · subst hb
    exact ⟨_, h.set o u, fun i hi => by
      have : i ≠ o := by rcases hi with hi | hi; exact absurd rfl hi; exact hi
      simp [this]⟩
  · exact ⟨f, ((But.refl b w).setCell o u).row h hb, fun _ _ => rfl⟩
section
variable {Q : Nat → Prop} {w w' : World} {e : TypeId} {k n : Nat} {v : Value}
theorem RwT.set (h : RwT Q w e k v n) (b o : Nat) (u : Value) : RwT Q (w.setCell ⟨b, o, none⟩ u) e k v n := by
  rcases h with h | ⟨g, c, N, f, h1, h2, h3, h4⟩
  · exact Or.inl h
  · obtain ⟨f', h5, _⟩ := row_set h3 b o u
    exact Or.inr ⟨g, c, N, f', h1, h2, h5, h4⟩
theorem RwT.below (h : RwT Q w e k v n) (hb : Below w.heap.size w w') : RwT Q w' e k v n := by
  rcases h with h | ⟨g, c, N, f, h1, h2, h3, h4⟩
  · exact Or.inl h
  · exact Or.inr ⟨g, c, N, f, h1, h2, h3.of_block (hb.block _ h3.lt), h4⟩
theorem RwT.len (h : RwT Q w e k v n) : ∃ a c, v = .slice a n c := by
  rcases h with ⟨rfl, a, c, rfl⟩ | ⟨g, c, N, f, rfl, _⟩
  · exact ⟨a, c, rfl⟩
  · exact ⟨_, _, rfl⟩
theorem own_row {base : Nat} {xs : List Value} (h : w.ownsRow base e k v n xs) : (n = 0 ∧ ∃ a c, v = .slice a 0 c) ∨ ∃ g c N f, v = .slice (some ⟨g, 0, none⟩) n c ∧ base ≤ g ∧ g < w.heap.size ∧ w.rowIs g e N f ∧ n * k ≤ N ∧ ∀ i u, xs[i]? = some u → f i = u := by
  rcases h.2 with ⟨rfl, h0⟩ | ⟨g, cap, cur, rfl, hb, hg, hn, _, hs, ht⟩
  · exact Or.inl ⟨h0, none, 0, rfl⟩
  · refine Or.inr ⟨g, cap, cur.size, fun i => cur[i]?.getD undef, rfl, hb, (Array.getElem?_eq_some_iff.1 hg).1, ⟨cur, hg, rfl, fun i hi => ?_⟩, ?_, fun i u hu => ?_⟩
    · simp [hi]
    · have := Nat.mul_le_mul_right k hn
      omega
    · have hx : i < xs.length := (List.getElem?_eq_some_iff.1 hu).1
      have h2 : (cur.toList.take (n * k))[i]? = some u := by rw [ht]; exact hu
      rw [List.getElem?_take] at h2
      split at h2
      · have h3 : cur[i]? = some u := by rw [← Array.getElem?_toList]; exact h2
        show cur[i]?.getD undef = u
        rw [h3]; rfl
      · cases h2
theorem RwT.of_own {base M : Nat} {xs : List Value} (h : w.ownsRow base e k v n xs) (hM : w.heap.size ≤ M) : RwT (fun b => base ≤ b ∧ b < M) w e k v n := by
  rcases own_row h with h | ⟨g, c, N, f, h1, h2, h3, h4, h5, _⟩
  · exact Or.inl h
  · exact Or.inr ⟨g, c, N, f, h1, ⟨h2, by omega⟩, h4, h5⟩
end

/-- A slice of shapes, those from i on still with their fields. -/
def ShT (Q : Nat → Prop) (w : World) (v : Value) (n i : Nat) : Prop :=
  (n = 0 ∧ ∃ a c, v = .slice a 0 c) ∨ ∃ g c N f, v = .slice (some ⟨g, 0, none⟩) n c ∧ Q g ∧ w.rowIs g 42 N f ∧ n ≤ N ∧ ∀ j, i ≤ j → j < n → ∃ m, m ≤ 3000 ∧ RwT Q w 3 1 (f j) m
/-- The five values of a function that may be spoilt. -/
def FnT (Q : Nat → Prop) (w : World) (v0 v1 v2 v3 v4 : Value) : Prop :=
  ∃ m0 m3 m4 r s, m0 ≤ 3000 ∧ m3 ≤ 3000 ∧ m4 ≤ 3000 ∧ RwT Q w 3 1 v0 m0 ∧ v1 = .int .i64 r ∧ v2 = .int .i64 s ∧ RwT Q w 3 1 v3 m3 ∧ RwT Q w 47 4 v4 m4
def FuT (Q : Nat → Prop) (w : World) (v : Value) (n : Nat) : Prop :=
  (n = 0 ∧ ∃ a c, v = .slice a 0 c) ∨ ∃ g c N f, v = .slice (some ⟨g, 0, none⟩) n c ∧ Q g ∧ w.rowIs g 45 N f ∧ n * 5 ≤ N ∧ ∀ j, j < n → FnT Q w (f (j * 5)) (f (j * 5 + 1)) (f (j * 5 + 2)) (f (j * 5 + 3)) (f (j * 5 + 4))
theorem row_type {w : World} {g N N' : Nat} {e e' : TypeId} {f f' : Nat → Value} (h : w.rowIs g e N f) (h' : w.rowIs g e' N' f') : e = e' := by
  obtain ⟨c, h1, _⟩ := h
  obtain ⟨c', h2, _⟩ := h'
  rw [h1] at h2
  simp at h2
  exact h2.2
section
variable {Q : Nat → Prop} {w w' : World} {n i : Nat} {v : Value}
theorem FnT.set {v0 v1 v2 v3 v4 : Value} (h : FnT Q w v0 v1 v2 v3 v4) (b o : Nat) (u : Value) : FnT Q (w.setCell ⟨b, o, none⟩ u) v0 v1 v2 v3 v4 := by
  obtain ⟨m0, m3, m4, r, s, g0, g3, g4, h0, h1, h2, h3, h4⟩ := h
  exact ⟨m0, m3, m4, r, s, g0, g3, g4, h0.set b o u, h1, h2, h3.set b o u, h4.set b o u⟩
theorem FnT.below {v0 v1 v2 v3 v4 : Value} (h : FnT Q w v0 v1 v2 v3 v4) (hb : Below w.heap.size w w') : FnT Q w' v0 v1 v2 v3 v4 := by
  obtain ⟨m0, m3, m4, r, s, g0, g3, g4, h0, h1, h2, h3, h4⟩ := h
  exact ⟨m0, m3, m4, r, s, g0, g3, g4, h0.below hb, h1, h2, h3.below hb, h4.below hb⟩
/-- A store into a block of another type. -/
theorem ShT.set {b N' : Nat} {e : TypeId} {f' : Nat → Value} (h : ShT Q w v n i) (hb : w.rowIs b e N' f') (he : e ≠ 42) (o : Nat) (u : Value) : ShT Q (w.setCell ⟨b, o, none⟩ u) v n i := by
  rcases h with h | ⟨g, c, N, f, h1, h2, h3, h4, h5⟩
  · exact Or.inl h
  · have hne : g ≠ b := fun e1 => he (row_type hb (e1 ▸ h3))
    refine Or.inr ⟨g, c, N, f, h1, h2, ((But.refl b w).setCell o u).row h3 hne, h4, fun j hj hjn => ?_⟩
    obtain ⟨m, h6, h7⟩ := h5 j hj hjn
    exact ⟨m, h6, h7.set b o u⟩
theorem ShT.below (h : ShT Q w v n i) (hb : Below w.heap.size w w') : ShT Q w' v n i := by
  rcases h with h | ⟨g, c, N, f, h1, h2, h3, h4, h5⟩
  · exact Or.inl h
  · refine Or.inr ⟨g, c, N, f, h1, h2, h3.of_block (hb.block _ h3.lt), h4, fun j hj hjn => ?_⟩
    obtain ⟨m, h6, h7⟩ := h5 j hj hjn
    exact ⟨m, h6, h7.below hb⟩
theorem FuT.set {b N' : Nat} {e : TypeId} {f' : Nat → Value} (h : FuT Q w v n) (hb : w.rowIs b e N' f') (he : e ≠ 45) (o : Nat) (u : Value) : FuT Q (w.setCell ⟨b, o, none⟩ u) v n := by
  rcases h with h | ⟨g, c, N, f, h1, h2, h3, h4, h5⟩
  · exact Or.inl h
  · have hne : g ≠ b := fun e1 => he (row_type hb (e1 ▸ h3))
    exact Or.inr ⟨g, c, N, f, h1, h2, ((But.refl b w).setCell o u).row h3 hne, h4, fun j hj => (h5 j hj).set b o u⟩
theorem FuT.below (h : FuT Q w v n) (hb : Below w.heap.size w w') : FuT Q w' v n := by
  rcases h with h | ⟨g, c, N, f, h1, h2, h3, h4, h5⟩
  · exact Or.inl h
  · exact Or.inr ⟨g, c, N, f, h1, h2, h3.of_block (hb.block _ h3.lt), h4, fun j hj => (h5 j hj).below hb⟩
end

/-- ALL THAT ImageCopies KEEPS: p and its box, the copy b and its box; the copy a, spoilt or not, in blocks from B to M. -/
structure CsAt (w wk : World) (B M bp xa xb : Nat) (p : Pg) (p0 p1 p2 b0 b1 b2 a0 a1 a2 : Value) (n0 n1 n2 i : Nat) : Prop where
  low : Below B w wk
  bB : B ≤ bp
  pbox : wk.rowIs bp 26 3 (pgC p0 p1 p2)
  bbox : wk.rowIs xb 26 3 (pgC b0 b1 b2)
  abox : wk.rowIs xa 26 3 (pgC a0 a1 a2)
  pg : PgV (fun b => b < B) wk p0 p1 p2 p
  bg : PgV (fun b => M ≤ b) wk b0 b1 b2 p
  gl : RwT (fun b => B ≤ b ∧ b < M) wk 3 1 a0 n0
  sh : ShT (fun b => B ≤ b ∧ b < M) wk a1 n1 i
  fn : FuT (fun b => B ≤ b ∧ b < M) wk a2 n2
section
variable {w wk w2 : World} {B M bp xa xb : Nat} {p : Pg} {p0 p1 p2 b0 b1 b2 a0 a1 a2 : Value} {n0 n1 n2 i : Nat}
theorem CsAt.bw (h : CsAt w wk B M bp xa xb p p0 p1 p2 b0 b1 b2 a0 a1 a2 n0 n1 n2 i) : B ≤ wk.heap.size := Nat.le_trans h.bB (Nat.le_of_lt h.pbox.lt)
theorem CsAt.below (h : CsAt w wk B M bp xa xb p p0 p1 p2 b0 b1 b2 a0 a1 a2 n0 n1 n2 i) (hb : Below wk.heap.size wk w2) : CsAt w w2 B M bp xa xb p p0 p1 p2 b0 b1 b2 a0 a1 a2 n0 n1 n2 i :=
  ⟨h.low.trans (hb.mono h.bw), h.bB, h.pbox.of_block (hb.block _ h.pbox.lt), h.bbox.of_block (hb.block _ h.bbox.lt), h.abox.of_block (hb.block _ h.abox.lt), h.pg.below hb, h.bg.below hb, h.gl.below hb, h.sh.below hb, h.fn.below hb⟩
theorem CsAt.setX {g N : Nat} {e : TypeId} {f : Nat → Value} (h : CsAt w wk B M bp xa xb p p0 p1 p2 b0 b1 b2 a0 a1 a2 n0 n1 n2 i) (hg : wk.rowIs g e N f) (hQ : B ≤ g ∧ g < M) (h1 : e ≠ 26) (o : Nat) (u : Value) {i' : Nat} (hs : ShT (fun b => B ≤ b ∧ b < M) (wk.setCell ⟨g, o, none⟩ u) a1 n1 i') (hf : FuT (fun b => B ≤ b ∧ b < M) (wk.setCell ⟨g, o, none⟩ u) a2 n2) :
    CsAt w (wk.setCell ⟨g, o, none⟩ u) B M bp xa xb p p0 p1 p2 b0 b1 b2 a0 a1 a2 n0 n1 n2 i' := by
  have hbut := (But.refl g wk).setCell o u
  have ne : ∀ {b N'} {f' : Nat → Value}, wk.rowIs b 26 N' f' → b ≠ g := fun hr e1 => h1 (row_type hg (e1 ▸ hr))
  have hst : ∀ P : Nat → Prop, (∀ b, P b → b ≠ g) → Stay P wk (wk.setCell ⟨g, o, none⟩ u) := fun P hP => ⟨hbut.size, fun b hb hp => hbut.block b hb (hP b hp)⟩
  exact ⟨h.low.setCell hQ.1 _, h.bB, hbut.row h.pbox (ne h.pbox), hbut.row h.bbox (ne h.bbox), hbut.row h.abox (ne h.abox), h.pg.stay (hst _ fun b hb => by omega), h.bg.stay (hst _ fun b hb => by omega), h.gl.set g o u, hs, hf⟩
theorem CsAt.set {g N : Nat} {e : TypeId} {f : Nat → Value} (h : CsAt w wk B M bp xa xb p p0 p1 p2 b0 b1 b2 a0 a1 a2 n0 n1 n2 i) (hg : wk.rowIs g e N f) (hQ : B ≤ g ∧ g < M) (h1 : e ≠ 26) (h2 : e ≠ 42) (h3 : e ≠ 45) (o : Nat) (u : Value) :
    CsAt w (wk.setCell ⟨g, o, none⟩ u) B M bp xa xb p p0 p1 p2 b0 b1 b2 a0 a1 a2 n0 n1 n2 i := h.setX hg hQ h1 o u (h.sh.set hg h2 o u) (h.fn.set hg h3 o u)
theorem CsAt.c (h : CsAt w wk B M bp xa xb p p0 p1 p2 b0 b1 b2 a0 a1 a2 n0 n1 n2 i) : (wk.cell? ⟨xa, 0, none⟩ = some a0 ∧ wk.cell? ⟨xa, 1, none⟩ = some a1 ∧ wk.cell? ⟨xa, 2, none⟩ = some a2) ∧ (wk.cell? ⟨bp, 0, none⟩ = some p0 ∧ wk.cell? ⟨bp, 1, none⟩ = some p1 ∧ wk.cell? ⟨bp, 2, none⟩ = some p2) ∧ (wk.cell? ⟨xb, 0, none⟩ = some b0 ∧ wk.cell? ⟨xb, 1, none⟩ = some b1 ∧ wk.cell? ⟨xb, 2, none⟩ = some b2) :=
  ⟨⟨h.abox.cell (i := 0) (by decide), h.abox.cell (i := 1) (by decide), h.abox.cell (i := 2) (by decide)⟩, ⟨h.pbox.cell (i := 0) (by decide), h.pbox.cell (i := 1) (by decide), h.pbox.cell (i := 2) (by decide)⟩, h.bbox.cell (i := 0) (by decide), h.bbox.cell (i := 1) (by decide), h.bbox.cell (i := 2) (by decide)⟩
theorem CsAt.drewN (h : CsAt w wk B M bp xa xb p p0 p1 p2 b0 b1 b2 a0 a1 a2 n0 n1 n2 i) (q : Nat) : CsAt w (wk.drewN q) B M bp xa xb p p0 p1 p2 b0 b1 b2 a0 a1 a2 n0 n1 n2 i := h.below (below_drewN (Below.refl _ _) q)
end

/-- What Copy answers may be spoilt. -/
theorem PgO.spoil {w : World} {B M : Nat} {vg vs vf : Value} {p : Pg} {Ss : List (List Int × Value)} {Fs : List FnV} (h : PgO w B vg vs vf p Ss Fs) (hM : w.heap.size ≤ M) (hz : szP p ≤ 3000) :
    RwT (fun b => B ≤ b ∧ b < M) w 3 1 vg p.glob.length ∧ ShT (fun b => B ≤ b ∧ b < M) w vs p.shapes.length 0 ∧ FuT (fun b => B ≤ b ∧ b < M) w vf p.funcs.length := by
  have hz' : p.glob.length + p.shapes.length + p.funcs.length + szS p.shapes + szFs p.funcs ≤ 3000 := hz
  have hls : p.shapes.length = Ss.length := by rw [h.shs]; simp
  have hlf : p.funcs.length = Fs.length := by rw [h.fns]; simp
  refine ⟨.of_own h.glob hM, ?_, ?_⟩
  · rw [hls]
    rcases own_row h.sh with h1 | ⟨g, c, N, f, h1, h2, h3, h4, h5, h6⟩
    · exact Or.inl h1
    · refine Or.inr ⟨g, c, N, f, h1, ⟨h2, by omega⟩, h4, by omega, fun j _ hj => ?_⟩
      obtain ⟨q, hq⟩ : ∃ q, Ss[j]? = some q := ⟨_, List.getElem?_eq_getElem hj⟩
      rw [h6 j q.2 (by rw [List.getElem?_map, hq]; rfl)]
      have hsz := szS_mem (Ls := p.shapes) (j := j) (L := q.1) (by rw [h.shs, List.getElem?_map, hq]; rfl)
      exact ⟨q.1.length, by omega, .of_own (h.es q (List.mem_of_getElem? hq)) hM⟩
  · rw [hlf]
    rcases own_row h.fn with h1 | ⟨g, c, N, f, h1, h2, h3, h4, h5, h6⟩
    · exact Or.inl h1
    · refine Or.inr ⟨g, c, N, f, h1, ⟨h2, by omega⟩, h4, h5, fun j hj => ?_⟩
      obtain ⟨q, hq⟩ : ∃ q, Fs[j]? = some q := ⟨_, List.getElem?_eq_getElem hj⟩
      have hc : ∀ k u, k < 5 → q.cs[k]? = some u → f (j * 5 + k) = u := fun k u hk hu => h6 _ u ((flV_at Fs j q hq k hk).trans hu)
      have hsz := szFs_mem (Fs := p.funcs) (j := j) (f := q.f) (by rw [h.fns, List.getElem?_map, hq]; rfl)
      have hsz' : q.f.args.length + q.f.objs.length + q.f.code.length ≤ szFs p.funcs := hsz
      have ho := h.ef q (List.mem_of_getElem? hq)
      have e0 : f (j * 5) = q.v0 := hc 0 _ (by omega) rfl
      rw [e0, hc 1 _ (by omega) rfl, hc 2 _ (by omega) rfl, hc 3 _ (by omega) rfl, hc 4 _ (by omega) rfl]
      exact ⟨q.f.args.length, q.f.objs.length, q.f.code.length, q.f.res, q.f.slots, by omega, by omega, by omega, .of_own ho.args hM, rfl, rfl, .of_own ho.objs hM, .of_own ho.code hM⟩

end Go.Proofs.Ytkgicalkcbagaaa

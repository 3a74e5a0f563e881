/- The walk of the Heap's Alloc where there is a slot. -/
import Derived.Test.YtfkimmbnmcgjiaaDoorHpI
namespace Go.Proofs.YtfkimmbnmcgjiaaDoor
open Go.RowKit

/-- In the midst of Alloc: the arena is ahead of the map. -/
structure Mid (w0 w : World) (B : Nat) (b : Hb) (n : Nat) (nf : List Int) (P : Nat → Option PSt) (W : Nat → Int) (O : Nat → Nat → Option Ob) (m ser giv : Nat) : Prop where
  hd : w.rowIs b.bh 57 5 (hpC b.ba b.vf b.bm ser giv)
  ar : ArAt w B b.ba b.bp b.bw n P W
  fs : w.ownsRow B 3 1 b.vf nf.length (nf.map (Value.int .i64))
  mp : MpAt w b.bm m O
  fr : Hf B b w0 w
theorem Mid.c0 {w0 w : World} {B : Nat} {b : Hb} {n : Nat} {nf : List Int} {P : Nat → Option PSt} {W : Nat → Int} {O : Nat → Nat → Option Ob} {m ser giv : Nat} (h : Mid w0 w B b n nf P W O m ser giv) : w.cell? ⟨b.bh, 0, none⟩ = some (.pointer (some ⟨b.ba, 0, none⟩)) := h.hd.cell (i := 0) (by decide)
theorem Mid.c1 {w0 w : World} {B : Nat} {b : Hb} {n : Nat} {nf : List Int} {P : Nat → Option PSt} {W : Nat → Int} {O : Nat → Nat → Option Ob} {m ser giv : Nat} (h : Mid w0 w B b n nf P W O m ser giv) : w.cell? ⟨b.bh, 1, none⟩ = some b.vf := h.hd.cell (i := 1) (by decide)
theorem Mid.c2 {w0 w : World} {B : Nat} {b : Hb} {n : Nat} {nf : List Int} {P : Nat → Option PSt} {W : Nat → Int} {O : Nat → Nat → Option Ob} {m ser giv : Nat} (h : Mid w0 w B b n nf P W O m ser giv) : w.cell? ⟨b.bh, 2, none⟩ = some (.map (some b.bm)) := h.hd.cell (i := 2) (by decide)
theorem Mid.c3 {w0 w : World} {B : Nat} {b : Hb} {n : Nat} {nf : List Int} {P : Nat → Option PSt} {W : Nat → Int} {O : Nat → Nat → Option Ob} {m ser giv : Nat} (h : Mid w0 w B b n nf P W O m ser giv) : w.cell? ⟨b.bh, 3, none⟩ = some (.int .i64 ser) := h.hd.cell (i := 3) (by decide)
theorem Mid.c4 {w0 w : World} {B : Nat} {b : Hb} {n : Nat} {nf : List Int} {P : Nat → Option PSt} {W : Nat → Int} {O : Nat → Nat → Option Ob} {m ser giv : Nat} (h : Mid w0 w B b n nf P W O m ser giv) : w.cell? ⟨b.bh, 4, none⟩ = some (.int .i64 giv) := h.hd.cell (i := 4) (by decide)
theorem Mid.below {w0 w w' : World} {B : Nat} {b : Hb} {n : Nat} {nf : List Int} {P : Nat → Option PSt} {W : Nat → Int} {O : Nat → Nat → Option Ob} {m ser giv : Nat} (h : Mid w0 w B b n nf P W O m ser giv) (hb : Below w.heap.size w w') : Mid w0 w' B b n nf P W O m ser giv :=
  ⟨h.hd.of_block (hb.block _ h.hd.lt), h.ar.below hb, (Ty.of_below (K := []) (B := 0) hb).own h.fs (by simp), h.mp.below hb, h.fr.trans (Fz.of_below hb)⟩
theorem Mid.bh {w0 w w' : World} {B : Nat} {b : Hb} {n : Nat} {nf : List Int} {P : Nat → Option PSt} {W : Nat → Int} {O : Nat → Nat → Option Ob} {m ser giv ser' giv' : Nat} (h : Mid w0 w B b n nf P W O m ser giv) (hb : But b.bh w w') (hr : w'.rowIs b.bh 57 5 (hpC b.ba b.vf b.bm ser' giv')) : Mid w0 w' B b n nf P W O m ser' giv' := by
  have a := h.ar
  have hf : Fz B [b.bh] [] w w' := Fz.of_but hb (by simp)
  refine ⟨hr, ⟨hb.row a.hd (row_ne a.hd h.hd (by decide)), hb.row a.pr (row_ne a.pr h.hd (by decide)), hb.row a.wo (row_ne a.wo h.hd (by decide)), fun k p e => (a.pg k p e).row (hb.row (a.pg k p e).hd (row_ne (a.pg k p e).hd h.hd (by decide))), a.ap, a.out, a.n64, a.b0, a.b1, a.b2, a.b3⟩, ?_, ?_, h.fr.trans (Fz.of_but hb (by simp))⟩
  · refine hf.own h.fs (fun x hx => ?_) (by simp)
    simp
    intro e
    rcases h.fs.2 with ⟨e1, _⟩ | ⟨g, cap, cur, e1, _, hh, _⟩
    · rw [e1] at hx; simp [Value.ownBlock] at hx
    · rw [e1] at hx; simp [Value.ownBlock] at hx
      obtain ⟨c, hc, _⟩ := h.hd
      rw [← e, ← hx, hh] at hc
      cases hc
  · exact h.mp.of_block (hb.block _ h.mp.lt (fun e => h.mp.no_row h.hd e.symm))

theorem Mid.ser1 {w0 w : World} {B : Nat} {b : Hb} {n : Nat} {nf : List Int} {P : Nat → Option PSt} {W : Nat → Int} {O : Nat → Nat → Option Ob} {m ser giv : Nat} (h : Mid w0 w B b n nf P W O m ser giv) : Mid w0 (w.setCell ⟨b.bh, 3, none⟩ (.int .i64 ((ser : Int) + 1))) B b n nf P W O m (ser + 1) giv := by
  refine h.bh ((But.refl _ _).setCell 3 _) ((h.hd.set 3 _).congr fun i _ => ?_)
  unfold hpC
  by_cases e : i = 3
  · rw [if_pos e, if_neg (by omega), if_neg (by omega), if_neg (by omega), if_pos e]
    simp
  · rw [if_neg e, if_neg e, if_neg e]
theorem Mid.giv1 {w0 w : World} {B : Nat} {b : Hb} {n : Nat} {nf : List Int} {P : Nat → Option PSt} {W : Nat → Int} {O : Nat → Nat → Option Ob} {m ser giv : Nat} (h : Mid w0 w B b n nf P W O m ser giv) (x : Nat) : Mid w0 (w.setCell ⟨b.bh, 4, none⟩ (.int .i64 ((giv : Int) + (x : Int)))) B b n nf P W O m ser (giv + x) := by
  refine h.bh ((But.refl _ _).setCell 4 _) ((h.hd.set 4 _).congr fun i hi => ?_)
  unfold hpC
  by_cases e : i = 4
  · rw [if_pos e, if_neg (by omega), if_neg (by omega), if_neg (by omega), if_neg (by omega)]
    simp
  · have : i = 0 ∨ i = 1 ∨ i = 2 ∨ i = 3 := by omega
    rw [if_neg e]
    rcases this with rfl | rfl | rfl | rfl <;> rfl
theorem Mid.drew {w0 w : World} {B : Nat} {b : Hb} {n : Nat} {nf : List Int} {P : Nat → Option PSt} {W : Nat → Int} {O : Nat → Nat → Option Ob} {m ser giv : Nat} (h : Mid w0 w B b n nf P W O m ser giv) : Mid w0 w.drew B b n nf P W O m ser giv := h.below (Below.refl _ _).drew
theorem mid_cells {w0 w : World} {B : Nat} {b : Hb} {n : Nat} {nf : List Int} {P : Nat → Option PSt} {W : Nat → Int} {O : Nat → Nat → Option Ob} {m0 ser giv : Nat} (h : Mid w0 w B b n nf P W O m0 ser giv) {g cap j m : Nat} (hv : b.vf = .slice (some ⟨g, 0, none⟩) nf.length cap) (hm : nf.getD j 0 = (m : Int)) (hj : j < nf.length) :
    w.cell? ⟨b.bh, 0, none⟩ = some (.pointer (some ⟨b.ba, 0, none⟩)) ∧ w.cell? ⟨b.bh, 1, none⟩ = some (.slice (some ⟨g, 0, none⟩) nf.length cap) ∧ w.cell? ⟨g, j, none⟩ = some (.int .i64 (m : Int)) := by
  refine ⟨h.c0, by rw [h.c1, hv], ?_⟩
  rcases src_of_own h.fs with ⟨e, _⟩ | ⟨g', off, c, e, h1, h2⟩
  · rw [e] at hj; simp at hj
  · rw [hv] at e
    simp at e
    obtain ⟨⟨rfl, rfl⟩, _⟩ := e
    have := h2 j hj
    rw [hm] at this
    simpa using this

section
variable {w : World} {B : Nat} {b : Hb} {n : Nat} {nf : List Int} {s : Hs}

/-- Behind arena.Take. -/
theorem HpAt.mid (h : HpAt w B b n nf s) {w2 w' : World} {k z : Nat} {p : PSt} (hp : s.P k = some p) (ha : ArAt w' B b.ba b.bp b.bw n (upP s.P k (some ⟨p.blk, p.c, up p.U z true, p.M⟩)) (clrF s.W (32 * k + z * p.sz) p.sz)) (h1 : But p.blk w w2) (h2 : But b.bw w2 w') :
    Mid w w' B b n nf (upP s.P k (some ⟨p.blk, p.c, up p.U z true, p.M⟩)) (clrF s.W (32 * k + z * p.sz) p.sz) s.O s.ser s.ser s.giv := by
  have f1 : Af B b w w2 := Fz.of_row h1 (h.ar.pg k p hp).hd (h.ar.b3 k p hp) (by decide)
  have f2 : Af B b w2 w' := Fz.of_but h2 (by simp)
  have hf := f1.trans f2
  have n1 : b.bh ≠ b.bp := row_ne h.hd h.ar.pr (by decide)
  have n2 : b.bh ≠ b.bw := row_ne h.hd h.ar.wo (by decide)
  have n3 : b.bp ≠ b.bm := h.mp.no_row h.ar.pr
  have n4 : b.bw ≠ b.bm := h.mp.no_row h.ar.wo
  have hm := h.mp
  refine ⟨hf.row h.hd (by simp; omega) (by decide), ha, hf.own h.fs (fun x hx => ?_) (by decide), ?_, Af.heap hf⟩
  · have := h.fm x hx
    simp at this ⊢
    omega
  · refine hm.of_block (hf.block b.bm hm.lt (by simp; omega) (Or.inr fun cs t fz hc => ?_))
    obtain ⟨D, ⟨es, clock, he, _⟩, _⟩ := hm
    rw [he] at hc
    cases hc

/-- The end of Alloc. -/
theorem Mid.done {w0 w w' : World} (h : HpAt w0 B b n nf s) {k z j m : Nat} {p : PSt} {o : Ob} (hi : Fit s.P (ofN (nf.getD j 0)) k z p) (hj : j < nf.length) (hm : nf.getD j 0 = (m : Int)) (ho : o.sh = (j : Int)) (hser : s.ser < 2000000)
    (hM : Mid w0 w B b n nf (upP s.P k (some ⟨p.blk, p.c, up p.U z true, p.M⟩)) (clrF s.W (32 * k + z * p.sz) p.sz) s.O s.ser (s.ser + 1) (s.giv + m)) (hmp : MpAt w' b.bm (s.ser + 1) (upO s.O k z (some o))) (hb : But b.bm w w') :
    HpAt w' B b n nf ⟨upP s.P k (some ⟨p.blk, p.c, up p.U z true, p.M⟩), clrF s.W (32 * k + z * p.sz) p.sz, upO s.O k z (some o), s.ser + 1, s.giv + m⟩ ∧ Hf B b w0 w' := by
  have hf : Hf B b w w' := Fz.of_but hb (by simp)
  have a := hM.ar
  refine ⟨⟨hb.row hM.hd (hM.mp.no_row hM.hd), ⟨hb.row a.hd (hM.mp.no_row a.hd), hb.row a.pr (hM.mp.no_row a.pr), hb.row a.wo (hM.mp.no_row a.wo), fun k p e => (a.pg k p e).row (hb.row (a.pg k p e).hd (hM.mp.no_row (a.pg k p e).hd)), a.ap, a.out, a.n64, a.b0, a.b1, a.b2, a.b3⟩, hf.own hM.fs h.fm (by decide), hmp, h.fw, ?_, ?_, h.small, h.few, h.bB, h.mB, hser, ?_⟩, hM.fr.trans hf⟩
  · intro k' x
    show (upO s.O k z (some o) k' x).isSome = true ↔ ∃ p', upP s.P k (some ⟨p.blk, p.c, up p.U z true, p.M⟩) k' = some p' ∧ _
    by_cases e : k' = k
    · subst e
      rw [upP_same]
      by_cases e2 : x = z
      · subst e2
        rw [upO_same]
        exact ⟨fun _ => ⟨_, rfl, hi.hz, by simp [up]⟩, fun _ => rfl⟩
      · rw [upO_other _ _ (by omega), h.use k' x]
        constructor
        · rintro ⟨q, h1, h2, h3⟩
          rw [hi.hp] at h1; cases h1
          exact ⟨_, rfl, h2, by simp [up, e2, h3]⟩
        · rintro ⟨q, h1, h2, h3⟩
          cases h1
          exact ⟨p, hi.hp, h2, by simpa [up, e2] using h3⟩
    · rw [upO_other _ _ (by omega), upP_other _ _ e]
      exact h.use k' x
  · intro k' x o2 h2
    have h3 : upO s.O k z (some o) k' x = some o2 := h2
    show ∃ (j : Nat) (q : PSt), o2.sh = (j : Int) ∧ j < nf.length ∧ upP s.P k (some ⟨p.blk, p.c, up p.U z true, p.M⟩) k' = some q ∧ q.c = ofN (nf.getD j 0)
    by_cases e : k' = k ∧ x = z
    · obtain ⟨rfl, rfl⟩ := e
      rw [upO_same] at h3
      cases h3
      exact ⟨j, _, ho, hj, upP_same _ _ _, hi.hc⟩
    · rw [upO_other _ _ e] at h3
      obtain ⟨j', q, g1, g2, g3, g4⟩ := h.fit k' x o2 h3
      by_cases e1 : k' = k
      · subst e1
        rw [hi.hp] at g3; cases g3
        exact ⟨j', _, g1, g2, upP_same _ _ _, g4⟩
      · exact ⟨j', q, g1, g2, by rw [upP_other _ _ e1]; exact g3, g4⟩
  · show s.giv + m ≤ 16 * (s.ser + 1)
    obtain ⟨f, h5, h6, h7⟩ := h.sm hj
    have := h.giv9
    omega
end

end Go.Proofs.YtfkimmbnmcgjiaaDoor

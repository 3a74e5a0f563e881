/- A Heap in memory: its arena, how many fields each shape has, its objects; frames. -/
import Derived.Test.YtfkimmbnmcgjiaaDoorHmA
import Derived.Test.YtfkimmbnmcgjiaaDoorCf
import Derived.Test.YtfkimmbnmcgjiaaDoorArH
import Derived.Test.YtfkimmbnmcgjiaaDoorArG
import Derived.Test.YtfkimmbnmcgjiaaDoorShE
namespace Go.Proofs.YtfkimmbnmcgjiaaDoor
open Go.RowKit

/-- OF WHAT WAS THERE ONLY THE BLOCKS IN X CHANGED, AND FROM B ON SUCH WHOSE CELLS ARE OF A TYPE IN K (maps beside X stay, too). -/
structure Fz (B : Nat) (X : List Nat) (K : List TypeId) (w w' : World) : Prop where
  os : w'.os = w.os
  tape : w'.tape = w.tape
  output : w'.output = w.output
  size : w.heap.size ≤ w'.heap.size
  block : ∀ i, i < w.heap.size → i ∉ X → (i < B ∨ ∀ (cs : Array Value) (t : TypeId) (fz : Nat × Nat), w.heap[i]? = some (Obj.cells cs t fz) → t ∉ K) → w'.heap[i]? = w.heap[i]?

theorem Fz.refl (B : Nat) (X : List Nat) (K : List TypeId) (w : World) : Fz B X K w w := ⟨rfl, rfl, rfl, Nat.le_refl _, fun _ _ _ _ => rfl⟩
theorem Fz.trans {B : Nat} {X : List Nat} {K : List TypeId} {a b c : World} (h : Fz B X K a b) (g : Fz B X K b c) : Fz B X K a c :=
  ⟨g.os.trans h.os, g.tape.trans h.tape, g.output.trans h.output, Nat.le_trans h.size g.size, fun i hi hX ht => by
    have e := h.block i hi hX ht
    refine (g.block i (Nat.lt_of_lt_of_le hi h.size) hX ?_).trans e
    rcases ht with ht | ht
    · exact Or.inl ht
    · exact Or.inr fun cs t fz hb => ht cs t fz (e.symm.trans hb)⟩
theorem Fz.of_below {B : Nat} {X : List Nat} {K : List TypeId} {a b : World} (h : Below a.heap.size a b) : Fz B X K a b := ⟨h.os, h.tape, h.output, h.size, fun i hi _ _ => h.block i hi⟩
theorem Fz.of_but {B k : Nat} {X : List Nat} {K : List TypeId} {a b : World} (h : But k a b) (hk : k ∈ X) : Fz B X K a b :=
  ⟨h.os, h.tape, h.output, h.size, fun i hi hX _ => h.block i hi (fun e => hX (e ▸ hk))⟩
theorem Fz.of_row {B k : Nat} {X : List Nat} {K : List TypeId} {t : TypeId} {n : Nat} {f : Nat → Value} {a b : World} (h : But k a b) (r : a.rowIs k t n f) (hB : B ≤ k) (hK : t ∈ K) : Fz B X K a b :=
  ⟨h.os, h.tape, h.output, h.size, fun i hi _ ht => h.block i hi fun e => by
    subst e
    rcases ht with ht | ht
    · omega
    · obtain ⟨c, hc, _⟩ := r
      exact ht c t (0, 0) hc hK⟩
theorem Fz.drewN {B : Nat} {X : List Nat} {K : List TypeId} {a b : World} (h : Fz B X K a b) (q : Nat) : Fz B X K a (b.drewN q) := ⟨h.os, h.tape, h.output, h.size, h.block⟩
theorem Fz.row {B b : Nat} {X : List Nat} {K : List TypeId} {t : TypeId} {n : Nat} {f : Nat → Value} {w w' : World} (h : Fz B X K w w') (r : w.rowIs b t n f) (hX : b ∉ X) (hK : t ∉ K) : w'.rowIs b t n f := by
  have hlt := r.lt
  obtain ⟨c, hb, h1, h2⟩ := r
  exact ⟨c, (h.block b hlt hX (Or.inr fun cs u fz hc => by rw [hb] at hc; cases hc; exact hK)).trans hb, h1, h2⟩
theorem Fz.own {B base : Nat} {X : List Nat} {K : List TypeId} {e : TypeId} {size : Nat} {v : Value} {n : Nat} {xs : List Value} {w w' : World} (h : Fz B X K w w') (r : w.ownsRow base e size v n xs) (hX : ∀ x, v.ownBlock = some x → x ∉ X) (hK : e ∉ K) : w'.ownsRow base e size v n xs := by
  obtain ⟨h1, h2⟩ := r
  refine ⟨h1, ?_⟩
  rcases h2 with h2 | ⟨g, cap, cur, hv, hg, hh, r⟩
  · exact Or.inl h2
  · obtain ⟨hlt, _⟩ := Array.getElem?_eq_some_iff.1 hh
    exact Or.inr ⟨g, cap, cur, hv, hg, (h.block g hlt (hX g (by rw [hv]; rfl)) (Or.inr fun cs u fz hc => by rw [hh] at hc; cases hc; exact hK)).trans hh, r⟩
theorem Fz.below {B B0 : Nat} {X : List Nat} {K : List TypeId} {w w' : World} (h : Fz B X K w w') (hX : ∀ x, x ∈ X → B0 ≤ x) (hB : B0 ≤ B) (hw : B0 ≤ w.heap.size) : Below B0 w w' :=
  ⟨h.os, h.tape, h.output, h.size, fun i hi => h.block i (by omega) (fun e => by have := hX i e; omega) (Or.inl (by omega))⟩

/-- The cells of a Heap. -/
def hpC (ba : Nat) (vf : Value) (bm : Nat) (ser giv : Int) (i : Nat) : Value :=
  if i = 0 then .pointer (some ⟨ba, 0, none⟩) else if i = 1 then vf else if i = 2 then .map (some bm) else if i = 3 then .int .i64 ser else .int .i64 giv

/-- Where a Heap lies: its own block, its arena's three, the list of how many fields shapes have, its map. -/
structure Hb where
  bh : Nat
  ba : Nat
  bp : Nat
  bw : Nat
  bm : Nat
  vf : Value
/-- What a Heap is: its pages, their words, its objects, the last serial, how many fields were given. -/
structure Hs where
  P : Nat → Option PSt
  W : Nat → Int
  O : Nat → Nat → Option Ob
  ser : Nat
  giv : Nat

/-- THE HEAP OF n PAGES, WHOSE SHAPES HAVE nf FIELDS. -/
structure HpAt (w : World) (B : Nat) (b : Hb) (n : Nat) (nf : List Int) (s : Hs) : Prop where
  hd : w.rowIs b.bh 57 5 (hpC b.ba b.vf b.bm s.ser s.giv)
  ar : ArAt w B b.ba b.bp b.bw n s.P s.W
  fs : w.ownsRow B 3 1 b.vf nf.length (nf.map (Value.int .i64))
  mp : MpAt w b.bm s.ser s.O
  fw : ∀ x, b.vf.ownBlock = some x → x ≠ b.bw
  use : ∀ k x, (s.O k x).isSome = true ↔ ∃ p, s.P k = some p ∧ x < p.n ∧ p.U x = true
  fit : ∀ k x o, s.O k x = some o → ∃ (j : Nat) (p : PSt), o.sh = (j : Int) ∧ j < nf.length ∧ s.P k = some p ∧ p.c = ofN (nf.getD j 0)
  small : ∀ f ∈ nf, 1 ≤ f ∧ f ≤ 16
  few : nf.length ≤ 100
  bB : B ≤ b.bh
  mB : B ≤ b.bm
  ser9 : s.ser ≤ 2000000
  giv9 : s.giv ≤ 16 * s.ser

/-- What a call on the Heap may change. -/
abbrev Hf (B : Nat) (b : Hb) (w w' : World) : Prop := Fz B [b.bh, b.bm, b.bp, b.bw] [81] w w'

section
variable {w : World} {B : Nat} {b : Hb} {n : Nat} {nf : List Int} {s : Hs}
theorem HpAt.c0 (h : HpAt w B b n nf s) : w.cell? ⟨b.bh, 0, none⟩ = some (.pointer (some ⟨b.ba, 0, none⟩)) := h.hd.cell (i := 0) (by decide)
theorem HpAt.c1 (h : HpAt w B b n nf s) : w.cell? ⟨b.bh, 1, none⟩ = some b.vf := h.hd.cell (i := 1) (by decide)
theorem HpAt.c2 (h : HpAt w B b n nf s) : w.cell? ⟨b.bh, 2, none⟩ = some (.map (some b.bm)) := h.hd.cell (i := 2) (by decide)
theorem HpAt.c3 (h : HpAt w B b n nf s) : w.cell? ⟨b.bh, 3, none⟩ = some (.int .i64 s.ser) := h.hd.cell (i := 3) (by decide)
theorem HpAt.c4 (h : HpAt w B b n nf s) : w.cell? ⟨b.bh, 4, none⟩ = some (.int .i64 s.giv) := h.hd.cell (i := 4) (by decide)
theorem HpAt.drewN (h : HpAt w B b n nf s) (q : Nat) : HpAt (w.drewN q) B b n nf s :=
  ⟨h.hd, h.ar.drewN q, h.fs, h.mp.drewN q, h.fw, h.use, h.fit, h.small, h.few, h.bB, h.mB, h.ser9, h.giv9⟩
theorem HpAt.below {w' : World} (h : HpAt w B b n nf s) (hb : Below w.heap.size w w') : HpAt w' B b n nf s :=
  ⟨h.hd.of_block (hb.block _ h.hd.lt), h.ar.below hb, (Ty.of_below (K := []) (B := 0) hb).own h.fs (by simp), h.mp.below hb, h.fw, h.use, h.fit, h.small, h.few, h.bB, h.mB, h.ser9, h.giv9⟩
theorem HpAt.bw_row (h : HpAt w B b n nf s) : b.bw ≠ b.bm := h.mp.no_row h.ar.wo
theorem HpAt.fm (h : HpAt w B b n nf s) : ∀ x, b.vf.ownBlock = some x → x ∉ [b.bh, b.bm, b.bp, b.bw] := by
  intro x hx
  have h1 := h.fw x hx
  rcases h.fs.2 with ⟨e, _⟩ | ⟨g, cap, cur, e, _, hh, _⟩
  · rw [e] at hx; simp [Value.ownBlock] at hx
  · rw [e] at hx
    simp [Value.ownBlock] at hx
    subst hx
    simp only [List.mem_cons, List.not_mem_nil, or_false, not_or]
    refine ⟨?_, ?_, ?_, h1⟩
    · intro e1
      obtain ⟨c, hc, _⟩ := h.hd
      rw [← e1, hh] at hc
      cases hc
    · intro e1
      obtain ⟨D, ⟨es, clock, hb, _⟩, _⟩ := h.mp
      rw [← e1, hh] at hb
      cases hb
    · intro e1
      obtain ⟨c, hc, _⟩ := h.ar.pr
      rw [← e1, hh] at hc
      cases hc
/-- The list of fields, as it can be read. -/
theorem HpAt.field (h : HpAt w B b n nf s) {j : Nat} (hj : j < nf.length) : ∃ g cap, b.vf = .slice (some ⟨g, 0, none⟩) nf.length cap ∧ g < w.heap.size ∧ w.cell? ⟨g, j, none⟩ = some (.int .i64 (nf.getD j 0)) := by
  obtain ⟨g, cap, e, h1, h2⟩ : ∃ g cap, b.vf = .slice (some ⟨g, 0, none⟩) nf.length cap ∧ g < w.heap.size ∧ ∀ j, j < nf.length → w.cell? ⟨g, j, none⟩ = some (.int .i64 (nf.getD j 0)) := by
    rcases src_of_own h.fs with ⟨e, _⟩ | ⟨g, off, c, e, h1, h2⟩
    · rw [e] at hj; simp at hj
    · rcases h.fs.2 with ⟨e2, _⟩ | ⟨g2, cap2, cur, e2, _⟩
      · rw [e2] at e; simp at e
      · rw [e2] at e
        simp at e
        obtain ⟨⟨rfl, rfl⟩, rfl, rfl⟩ := e
        exact ⟨_, _, e2, h1, fun j hj => by simpa using h2 j hj⟩
  exact ⟨g, cap, e, h1, h2 j hj⟩
theorem HpAt.sm (h : HpAt w B b n nf s) {j : Nat} (hj : j < nf.length) : ∃ f : Nat, nf.getD j 0 = (f : Int) ∧ 1 ≤ f ∧ f ≤ 16 := by
  rw [List.getD, List.getElem?_eq_getElem hj]
  have := h.small _ (List.getElem_mem hj)
  exact ⟨(nf[j]).toNat, by simp; omega, by omega, by omega⟩
end

end Go.Proofs.YtfkimmbnmcgjiaaDoor

/- Frames: blocks that are named, and blocks from B on of some types, may have changed; nothing else. -/
import Derived.Test.YtfkimmbnmcgjiaaDoorFr
namespace Go.Proofs.YtfkimmbnmcgjiaaDoor
open Go.RowKit

/-- OF WHAT WAS THERE ONLY THE BLOCKS IN X CHANGED, AND FROM B ON SUCH WHOSE CELLS ARE OF A TYPE IN K. -/
structure Fix (B : Nat) (X : List Nat) (K : List TypeId) (w w' : World) : Prop where
  os : w'.os = w.os
  tape : w'.tape = w.tape
  output : w'.output = w.output
  size : w.heap.size ≤ w'.heap.size
  block : ∀ i, i < w.heap.size → i ∉ X → (i < B ∨ ∃ (cs : Array Value) (t : TypeId) (fz : Nat × Nat), w.heap[i]? = some (Obj.cells cs t fz) ∧ t ∉ K) → w'.heap[i]? = w.heap[i]?

theorem Fix.refl (B : Nat) (X : List Nat) (K : List TypeId) (w : World) : Fix B X K w w := ⟨rfl, rfl, rfl, Nat.le_refl _, fun _ _ _ _ => rfl⟩
theorem Fix.trans {B : Nat} {X : List Nat} {K : List TypeId} {a b c : World} (h : Fix B X K a b) (g : Fix B X K b c) : Fix B X K a c :=
  ⟨g.os.trans h.os, g.tape.trans h.tape, g.output.trans h.output, Nat.le_trans h.size g.size, fun i hi hX ht => by
    have e := h.block i hi hX ht
    refine (g.block i (Nat.lt_of_lt_of_le hi h.size) hX ?_).trans e
    rcases ht with ht | ⟨cs, t, fz, h1, h2⟩
    · exact Or.inl ht
    · exact Or.inr ⟨cs, t, fz, e.trans h1, h2⟩⟩
theorem Fix.mono {B B' : Nat} {X X' : List Nat} {K K' : List TypeId} {a b : World} (h : Fix B X K a b) (hB : B' ≤ B) (hX : ∀ x, x ∈ X → x ∈ X') (hK : ∀ t, t ∈ K → t ∈ K') : Fix B' X' K' a b :=
  ⟨h.os, h.tape, h.output, h.size, fun i hi hx ht => h.block i hi (fun e => hx (hX i e)) (by
    rcases ht with ht | ⟨cs, t, fz, h1, h2⟩
    · exact Or.inl (by omega)
    · exact Or.inr ⟨cs, t, fz, h1, fun e => h2 (hK t e)⟩)⟩
theorem Fix.of_below {B : Nat} {X : List Nat} {K : List TypeId} {a b : World} (h : Below a.heap.size a b) : Fix B X K a b := ⟨h.os, h.tape, h.output, h.size, fun i hi _ _ => h.block i hi⟩
theorem Fix.of_ty {B : Nat} {X : List Nat} {K : List TypeId} {a b : World} (h : Ty K B a b) : Fix B X K a b :=
  ⟨h.os, h.tape, h.output, h.size, fun i hi _ ht => by
    rcases ht with ht | ⟨cs, t, fz, h1, h2⟩
    · exact h.low i hi ht
    · exact h.block i cs t fz h1 h2⟩
theorem Fix.of_but {B k : Nat} {X : List Nat} {K : List TypeId} {a b : World} (h : But k a b) (hk : k ∈ X) : Fix B X K a b :=
  ⟨h.os, h.tape, h.output, h.size, fun i hi hX _ => h.block i hi (fun e => hX (e ▸ hk))⟩
theorem Fix.of_row {B k : Nat} {X : List Nat} {K : List TypeId} {t : TypeId} {n : Nat} {f : Nat → Value} {a b : World} (h : But k a b) (r : a.rowIs k t n f) (hB : B ≤ k) (hK : t ∈ K) : Fix B X K a b :=
  (Fix.of_ty (X := X) (Ty.of_but h r hB)).mono (Nat.le_refl _) (fun _ h => h) (fun u hu => by simp at hu; exact hu ▸ hK)
theorem Fix.drewN {B : Nat} {X : List Nat} {K : List TypeId} {a b : World} (h : Fix B X K a b) (q : Nat) : Fix B X K a (b.drewN q) := ⟨h.os, h.tape, h.output, h.size, h.block⟩
theorem Fix.row {B b : Nat} {X : List Nat} {K : List TypeId} {t : TypeId} {n : Nat} {f : Nat → Value} {w w' : World} (h : Fix B X K w w') (r : w.rowIs b t n f) (hX : b ∉ X) (hK : t ∉ K) : w'.rowIs b t n f := by
  have hlt := r.lt
  obtain ⟨c, hb, h1, h2⟩ := r
  exact ⟨c, (h.block b hlt hX (Or.inr ⟨c, t, _, hb, hK⟩)).trans hb, h1, h2⟩
theorem Fix.own {B base : Nat} {X : List Nat} {K : List TypeId} {e : TypeId} {size : Nat} {v : Value} {n : Nat} {xs : List Value} {w w' : World} (h : Fix B X K w w') (r : w.ownsRow base e size v n xs) (hX : ∀ x, x ∈ X → x < base) (hK : e ∉ K) : w'.ownsRow base e size v n xs := by
  obtain ⟨h1, h2⟩ := r
  refine ⟨h1, ?_⟩
  rcases h2 with h2 | ⟨g, cap, cur, hv, hg, hh, r⟩
  · exact Or.inl h2
  · obtain ⟨hlt, _⟩ := Array.getElem?_eq_some_iff.1 hh
    exact Or.inr ⟨g, cap, cur, hv, hg, (h.block g hlt (fun e1 => by have := hX g e1; omega) (Or.inr ⟨cur, e, _, hh, hK⟩)).trans hh, r⟩
theorem Fix.below {B B0 : Nat} {X : List Nat} {K : List TypeId} {w w' : World} (h : Fix B X K w w') (hX : ∀ x, x ∈ X → B0 ≤ x) (hB : B0 ≤ B) (hw : B0 ≤ w.heap.size) : Below B0 w w' :=
  ⟨h.os, h.tape, h.output, h.size, fun i hi => h.block i (by omega) (fun e => by have := hX i e; omega) (Or.inl (by omega))⟩

end Go.Proofs.YtfkimmbnmcgjiaaDoor

/- Frames: one block alone changed; by the type of a block's cells. -/
import Derived.Test.YtmjappcjfjajmaaLsB
import Derived.WalkSmall
namespace Go.Proofs.Ytmjappcjfjajmaa
open Go.RowKit

/-- A block that was there is as it was, but for block k. -/
structure But (k : Nat) (w w' : World) : Prop where
  os : w'.os = w.os
  tape : w'.tape = w.tape
  output : w'.output = w.output
  size : w.heap.size ≤ w'.heap.size
  block : ∀ i, i < w.heap.size → i ≠ k → w'.heap[i]? = w.heap[i]?

theorem But.refl (k : Nat) (w : World) : But k w w := ⟨rfl, rfl, rfl, Nat.le_refl _, fun _ _ _ => rfl⟩
theorem But.trans {k : Nat} {a b c : World} (h : But k a b) (g : But k b c) : But k a c :=
  ⟨g.os.trans h.os, g.tape.trans h.tape, g.output.trans h.output, Nat.le_trans h.size g.size, fun i hi hk => (g.block i (Nat.lt_of_lt_of_le hi h.size) hk).trans (h.block i hi hk)⟩
theorem But.drewN {k : Nat} {a w : World} (h : But k a w) (n : Nat) : But k a (w.drewN n) := ⟨h.os, h.tape, h.output, h.size, h.block⟩
theorem But.drew {k : Nat} {a w : World} (h : But k a w) : But k a w.drew := ⟨h.os, h.tape, h.output, h.size, h.block⟩
theorem But.setCell {k : Nat} {a w : World} (h : But k a w) (o : Nat) (v : Value) : But k a (w.setCell ⟨k, o, none⟩ v) :=
  h.trans ⟨rfl, rfl, rfl, by simp [World.setCell], fun i _ hk => Below.heap_setCell _ _ _ _ hk⟩
theorem But.below {B k : Nat} {w w' : World} (h : But k w w') (hB : B ≤ k) (hw : B ≤ w.heap.size) : Below B w w' :=
  ⟨h.os, h.tape, h.output, h.size, fun i hi => h.block i (by omega) (by omega)⟩
theorem But.row {k b : Nat} {t : TypeId} {n : Nat} {f : Nat → Value} {w w' : World} (h : But k w w') (r : w.rowIs b t n f) (hb : b ≠ k) : w'.rowIs b t n f := r.of_block (h.block b r.lt hb)


/-- OF WHAT WAS THERE ONLY BLOCKS FROM B ON CHANGED, AND OF THESE ONLY SUCH WHOSE CELLS ARE OF A TYPE IN K. -/
structure Ty (K : List TypeId) (B : Nat) (w w' : World) : Prop where
  os : w'.os = w.os
  tape : w'.tape = w.tape
  output : w'.output = w.output
  size : w.heap.size ≤ w'.heap.size
  low : ∀ (b : Nat), b < w.heap.size → b < B → w'.heap[b]? = w.heap[b]?
  block : ∀ (b : Nat) (cs : Array Value) (t : TypeId) (fz : Nat × Nat), w.heap[b]? = some (Obj.cells cs t fz) → t ∉ K → w'.heap[b]? = w.heap[b]?

theorem Ty.refl (K : List TypeId) (B : Nat) (w : World) : Ty K B w w := ⟨rfl, rfl, rfl, Nat.le_refl _, fun _ _ _ => rfl, fun _ _ _ _ _ _ => rfl⟩
theorem Ty.trans {K : List TypeId} {B : Nat} {a b c : World} (h : Ty K B a b) (g : Ty K B b c) : Ty K B a c :=
  ⟨g.os.trans h.os, g.tape.trans h.tape, g.output.trans h.output, Nat.le_trans h.size g.size, fun i hi hB => (g.low i (Nat.lt_of_lt_of_le hi h.size) hB).trans (h.low i hi hB),
    fun i cs t fz hb ht => (g.block i cs t fz ((h.block i cs t fz hb ht).trans hb) ht).trans (h.block i cs t fz hb ht)⟩
theorem Ty.mono {K K' : List TypeId} {B B' : Nat} {a b : World} (h : Ty K B a b) (hK : ∀ t, t ∈ K → t ∈ K') (hB : B' ≤ B) : Ty K' B' a b :=
  ⟨h.os, h.tape, h.output, h.size, fun i hi hb => h.low i hi (by omega), fun i cs t fz hb ht => h.block i cs t fz hb (fun hk => ht (hK t hk))⟩
theorem Ty.below {K : List TypeId} {B : Nat} {a b : World} (h : Ty K B a b) (hB : B ≤ a.heap.size) : Below B a b := ⟨h.os, h.tape, h.output, h.size, fun i hi => h.low i (by omega) hi⟩
theorem Ty.of_below {K : List TypeId} {B : Nat} {a b : World} (h : Below a.heap.size a b) : Ty K B a b :=
  ⟨h.os, h.tape, h.output, h.size, fun i hi _ => h.block i hi, fun i cs t fz hb _ => h.block i (by
    obtain ⟨hlt, _⟩ := Array.getElem?_eq_some_iff.1 hb
    exact hlt)⟩
theorem Ty.drewN {K : List TypeId} {B : Nat} {a b : World} (h : Ty K B a b) (q : Nat) : Ty K B a (b.drewN q) := ⟨h.os, h.tape, h.output, h.size, h.low, h.block⟩
theorem Ty.row {K : List TypeId} {B b : Nat} {t : TypeId} {n : Nat} {f : Nat → Value} {w w' : World} (h : Ty K B w w') (r : w.rowIs b t n f) (ht : t ∉ K) : w'.rowIs b t n f := by
  obtain ⟨c, hb, h1, h2⟩ := r
  exact ⟨c, (h.block b c t (0, 0) hb ht).trans hb, h1, h2⟩
theorem Ty.own {K : List TypeId} {B base : Nat} {e : TypeId} {size : Nat} {v : Value} {n : Nat} {xs : List Value} {w w' : World} (h : Ty K B w w') (r : w.ownsRow base e size v n xs) (ht : e ∉ K) : w'.ownsRow base e size v n xs := by
  obtain ⟨h1, h2⟩ := r
  refine ⟨h1, ?_⟩
  rcases h2 with h2 | ⟨g, cap, cur, hv, hg, hh, r⟩
  · exact Or.inl h2
  · exact Or.inr ⟨g, cap, cur, hv, hg, (h.block g cur e (0, 0) hh ht).trans hh, r⟩
theorem Ty.of_but {B k : Nat} {t : TypeId} {n : Nat} {f : Nat → Value} {w w' : World} (h : But k w w') (r : w.rowIs k t n f) (hB : B ≤ k) : Ty [t] B w w' := by
  obtain ⟨c, hc, _⟩ := r
  refine ⟨h.os, h.tape, h.output, h.size, fun i hi hb => h.block i hi (by omega), fun i cs u fz hb hu => h.block i ?_ ?_⟩
  · obtain ⟨hlt, _⟩ := Array.getElem?_eq_some_iff.1 hb
    exact hlt
  · intro e
    subst e
    rw [hc] at hb
    simp at hb
    exact hu (by simp [hb.2.1])
/-- Behind an append onto a row that is owned. -/
theorem Ty.of_grown {B base : Nat} {e : TypeId} {size : Nat} {v : Value} {n : Nat} {xs : List Value} {w w' : World} (r : w.ownsRow base e size v n xs) (h : w.grownBy w' v.ownBlock) (hB : B ≤ base) : Ty [e] B w w' := by
  refine ⟨h.os, h.tape, h.output, h.size, fun i hi hb => h.block i hi ?_, fun i cs u fz hb hu => h.block i ?_ ?_⟩
  · intro e1
    have := (r.lt i e1.symm).1
    omega
  · obtain ⟨hlt, _⟩ := Array.getElem?_eq_some_iff.1 hb
    exact hlt
  · intro e1
    rcases r.2 with ⟨rfl, _⟩ | ⟨g, cap, cur, rfl, _, hg, _⟩
    · simp [Value.ownBlock] at e1
    · simp [Value.ownBlock] at e1
      subst e1
      rw [hg] at hb
      simp at hb
      exact hu (by simp [hb.2.1])

end Go.Proofs.Ytmjappcjfjajmaa

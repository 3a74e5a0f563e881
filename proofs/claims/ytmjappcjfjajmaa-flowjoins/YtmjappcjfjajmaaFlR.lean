/- Lists that lie in rows of ints. -/
import Derived.Test.YtmjappcjfjajmaaLsB
import Derived.Deep.OwnRows
namespace Go.Proofs.Ytmjappcjfjajmaa
open Go.RowKit

/-- The list's block is a row of ints. -/
def IntRow (w : World) (a : Option Addr) : Prop := ∀ b off sp, a = some ⟨b, off, sp⟩ → ∃ cs fl, w.heap[b]? = some (.cells cs 3 fl)
theorem intRow_none (w : World) : IntRow w none := fun _ _ _ h => by cases h
theorem intRow_own {w : World} {base n c m : Nat} {a : Option Addr} {xs : List Value} (h : w.ownsRow base 3 1 (.slice a n c) m xs) : IntRow w a := fun b off sp e => by
  subst e
  rcases h.2 with ⟨h', _⟩ | ⟨g', cap', cur, h', _, hg, _⟩
  · cases h'
  · cases h'
    exact ⟨cur, _, hg⟩
theorem intRow_row {w : World} {g n off : Nat} {f : Nat → Value} (h : w.rowIs g 3 n f) : IntRow w (some ⟨g, off, none⟩) := fun b off sp e => by
  cases e
  obtain ⟨cs, hc, _⟩ := h
  exact ⟨cs, _, hc⟩
theorem IntRow.of_block {w w' : World} {a : Option Addr} (h : IntRow w a) (hb : ∀ b : Nat, (∃ cs fl, w.heap[b]? = some (Obj.cells cs 3 fl)) → w'.heap[b]? = w.heap[b]?) : IntRow w' a := fun b off sp e => by
  have h1 := h b off sp e
  rw [hb b h1]
  exact h1
theorem IntRow.below {w w' : World} {a : Option Addr} (h : IntRow w a) (hb : Below w.heap.size w w') : IntRow w' a := h.of_block fun b ⟨_, _, hc⟩ => hb.block b (Array.getElem?_eq_some_iff.1 hc).1
/-- A list's value, likewise. -/
def IntRowV (w : World) (v : Value) : Prop := ∀ a n c, v = .slice a n c → IntRow w a
theorem intRowV_none (w : World) : IntRowV w (.slice none 0 0) := fun a n c h => by cases h; exact intRow_none w
theorem intRowV_new (w : World) (cs : Array Value) (n c : Nat) : IntRowV (w.alloc (.cells cs 3)) (.slice (some ⟨w.heap.size, 0, none⟩) n c) := fun a n' c' h b off sp e => by
  cases h
  cases e
  exact ⟨cs, _, heap_alloc_new w _⟩

end Go.Proofs.Ytmjappcjfjajmaa

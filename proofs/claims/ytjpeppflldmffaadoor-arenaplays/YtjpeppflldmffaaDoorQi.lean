import Derived.Test.YtjpeppflldmffaaDoorRows
import Derived.WalkKit
import Derived.Deep.Cut
import Derived.Deep.CutBlock
import Derived.BigQuiet
import Derived.Deep.QuietTactic
/- A great function walked in parts: each part a theorem of its own, over a frame of which some slots are told. -/
namespace Go.Proofs.YtjpeppflldmffaaDoor
open Go.RowKit

/-- The block n of a code. -/
def findBlock (n : Nat) : Code → Option Code
  | .block k c => if k = n then some (.block k c) else findBlock n c
  | .seq a b => match findBlock n a with
    | some c => some c
    | none => findBlock n b
  | .loop c => findBlock n c
  | .scope c => findBlock n c
  | .cond _ a b => match findBlock n a with
    | some c => some c
    | none => findBlock n b
  | _ => none

/-- A frame is the list of its slots. -/
theorem act_eta (a : Act) (n : Nat) (hs : a.tmps.size = n) (hd : a.defers = []) : a = ⟨((List.range n).map (fun i => (a.tmps.toList[i]?).getD undef)).toArray, []⟩ := by
  obtain ⟨⟨t⟩, d⟩ := a
  simp only at hd
  subst hd
  subst hs
  congr 2
  apply List.ext_getElem
  · simp
  · intro i h1 h2
    simp [h1]

/-- What a part comes to: it ends as it should, and R holds then. -/
structure EndsN (R : Act → World → Prop) (e : Exit) (a : Act) (w : World) : Prop where
  e : e = .normal
  r : R a w

end Go.Proofs.YtjpeppflldmffaaDoor
/- A region that draws its order, whose own operations only read, and whose callees may lay new memory: walked once, in the order of the text, in every world of which a property holds (the kit's class of worlds, with a property of one's own). -/
namespace Go.Proofs.YtjpeppflldmffaaDoor
open Go.RowKit

/-- A world of which I holds. -/
structure InW (I : World → Prop) where
  w : World
  h : I w

theorem wp_region_in {P : Program} {I : World → Prop} {id : Nat} {Q : Exit → Act → World → Prop} {a : Act} {w : World} {l : List Oper} (hm : P.follows .mixedOrders = true) (hB : Region.lexB .any l.toArray = true)
    (hI : I w.drew) (h : wpQuiet P l.toArray (fun w' => ∃ x : InW I, w' = x.w) (fun a' => ∀ w', (∃ x : InW I, w' = x.w) → Q .normal a' w') l a) : (Code.region id l.toArray true).wp P Q a w :=
  wp_region_quiet (C := fun w' => ∃ x : InW I, w' = x.w) hm hB ⟨⟨_, hI⟩, rfl⟩ (by simpa using h)

theorem callIn {P : Program} {I : World → Prop} {f : FuncId} {args : Array Value} {x : InW I} {v : Value} (h : Calls P f args x.w fun e w' => e = .returned v ∧ I w') :
    Calls P f args x.w fun e w'' => e = .returned v ∧ ∃ y : InW I, w'' = y.w :=
  h.mono fun _ _ ⟨he, hi⟩ => ⟨he, ⟨_, hi⟩, rfl⟩
theorem callSame {P : Program} {I : World → Prop} {f : FuncId} {args : Array Value} {x : InW I} {v : Value} (h : Calls P f args x.w fun e w' => e = .returned v ∧ w' = x.w) :
    Calls P f args x.w fun e w'' => e = .returned v ∧ ∃ y : InW I, w'' = y.w :=
  h.mono fun _ _ ⟨he, hi⟩ => ⟨he, x, hi⟩

end Go.Proofs.YtjpeppflldmffaaDoor

/- A region that draws its order, whose own operations only read, and whose callees may lay new memory: walked once, in the order of the text, in every world of which a property holds (the kit's class of worlds, with a property of one's own). -/
import Derived.Test.YtmjappcjfjajmaaRows
import Derived.WalkKit
import Derived.BigQuiet
import Derived.Deep.QuietTactic
namespace Go.Proofs.Ytmjappcjfjajmaa
open Go.RowKit

/-- A world of which I holds. -/
structure InW (I : World → Prop) where
  w : World
  h : I w

theorem wp_region_in {P : Program} {I : World → Prop} {id : Nat} {Q : Exit → Act → World → Prop} {a : Act} {w : World} {l : List Oper} (hm : P.follows .mixedOrders = true) (hB : Region.lexB .any l.toArray = true)
    (hI : I w.drew) (h : wpQuiet P l.toArray (fun w' => ∃ x : InW I, w' = x.w) (fun a' => ∀ w', (∃ x : InW I, w' = x.w) → Q .normal a' w') l a) : (Code.region id l.toArray true).wp P Q a w :=
  wp_region_quiet (C := fun w' => ∃ x : InW I, w' = x.w) hm hB ⟨⟨_, hI⟩, rfl⟩ (by simpa using h)

theorem callIn {P : Program} {I : World → Prop} {f : FuncId} {args : Array Value} {x : InW I} {v : Value} (h : Calls P f args x.w fun e w' => e = .returned v ∧ I w') :
    Calls P f args x.w fun e w'' => e = .returned v ∧ ∃ y : InW I, w'' = y.w :=
  h.mono fun _ _ ⟨he, hi⟩ => ⟨he, ⟨_, hi⟩, rfl⟩
theorem callSame {P : Program} {I : World → Prop} {f : FuncId} {args : Array Value} {x : InW I} {v : Value} (h : Calls P f args x.w fun e w' => e = .returned v ∧ w' = x.w) :
    Calls P f args x.w fun e w'' => e = .returned v ∧ ∃ y : InW I, w'' = y.w :=
  h.mono fun _ _ ⟨he, hi⟩ => ⟨he, x, hi⟩

end Go.Proofs.Ytmjappcjfjajmaa

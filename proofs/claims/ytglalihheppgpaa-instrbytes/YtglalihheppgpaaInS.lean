/- InstrBytes of arguments as read. -/
import Derived.Test.YtglalihheppgpaaInR
import Derived.Test.YtglalihheppgpaaInK
namespace Go.Proofs.Ytglalihheppgpaa
open Go.ChangeShapes Go.WideShapes Go.ChangeAt Go.RowKit

theorem ibytes_arg {H : Type} {enc : TypeId × Value → H} {W : World} {base : Nat} {v : Value} {d : DataW H} {p : List MemPlace} (h : DataW.Trod enc Try.prog W 0 (fun _ => true) true 43 v d p)
    (hv : Value.okWide Try.prog W .any base 43 v) (b : ByteArray) (hb : b.size ≤ maxLen) :
    Calls Try.prog 4 #[v, .string b] W fun e w' => e = .returned (.bool true) ∧ Below W.heap.size W w' := by
  obtain ⟨L, a, c, rfl, hl, hs⟩ := instrs_arg h hv
  exact ibytes_walk L a c b W hl hb hs

end Go.Proofs.Ytglalihheppgpaa

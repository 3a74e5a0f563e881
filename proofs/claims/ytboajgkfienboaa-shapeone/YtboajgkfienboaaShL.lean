/- ShapeOne of an argument as it is read. -/
import Derived.Test.YtboajgkfienboaaShJ
import Derived.Test.YtboajgkfienboaaShK
namespace Go.Proofs.Ytboajgkfienboaa
open Go.RowKit

theorem shOne_arg {H : Type} {enc : TypeId × Value → H} {W : World} {base : Nat} {v : Value} {d : DataW H} {p : List MemPlace} (h : DataW.Trod enc Try.prog W 0 (fun _ => true) true 22 v d p)
    (hv : Value.okWide Try.prog W .any base 22 v) :
    Calls Try.prog 5 #[v] W fun e w' => e = .returned (.bool true) ∧ Below W.heap.size W w' := by
  obtain ⟨Ls, h1, h2⟩ := shapes_arg h hv
  exact shOne_walk Ls v W h2 h1

end Go.Proofs.Ytboajgkfienboaa

/- ShapeTells of arguments as they are read. -/
import Derived.Test.YtboajgkfienboaaShO
import Derived.Test.YtboajgkfienboaaShK
namespace Go.Proofs.Ytboajgkfienboaa
open Go.RowKit

theorem tells_arg {H : Type} {enc : TypeId × Value → H} {W : World} {base : Nat} {v v' : Value} {d d' : DataW H} {p p' : List MemPlace} (k n : Int) (h : DataW.Trod enc Try.prog W 0 (fun _ => true) true 22 v d p)
    (hv : Value.okWide Try.prog W .any base 22 v) (h' : DataW.Trod enc Try.prog W 0 (fun _ => true) true 23 v' d' p') (hv' : Value.okWide Try.prog W .any base 23 v') :
    Calls Try.prog 3 #[.int .i64 k, .int .i64 n, v, v'] W fun e w' => e = .returned (.bool true) ∧ Below W.heap.size W w' := by
  obtain ⟨Ls, h1, h2⟩ := shapes_arg h hv
  obtain ⟨M, a, c, rfl, h3, _⟩ := ints_arg h' hv'
  exact tells_walk k n Ls M _ _ W h2 h1 h3

end Go.Proofs.Ytboajgkfienboaa

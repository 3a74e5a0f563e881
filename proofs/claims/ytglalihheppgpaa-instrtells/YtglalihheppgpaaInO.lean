/- InstrTells of arguments as read. -/
import Derived.Test.YtglalihheppgpaaInN
import Derived.Test.YtglalihheppgpaaInK
namespace Go.Proofs.Ytglalihheppgpaa
open Go.ChangeShapes Go.WideShapes Go.ChangeAt Go.RowKit

theorem ins_arg {H : Type} {enc : TypeId × Value → H} {W : World} {base : Nat} {v : Value} {d : DataW H} {p : List MemPlace} (h : DataW.Trod enc Try.prog W 0 (fun _ => true) true 23 v d p)
    (hv : Value.okWide Try.prog W .any base 23 v) : ∃ i : Ins, v = i.v := by
  unfold Value.okWide at hv
  rw [Try.underlying23] at hv
  obtain ⟨cs, rfl, hsz, _⟩ := hv
  rw [Try.cells23] at hsz
  obtain ⟨fuel, hf⟩ := h
  obtain ⟨i, hi⟩ := ins_cells hf (by simpa [Value.cells] using hsz)
  refine ⟨i, ?_⟩
  simp only [Value.cells] at hi
  unfold Ins.v
  congr 1
  exact Array.toList_inj.1 hi

theorem tells_arg {H : Type} {enc : TypeId × Value → H} {W : World} {base : Nat} {v : Value} {d : DataW H} {p : List MemPlace} (h : DataW.Trod enc Try.prog W 0 (fun _ => true) true 23 v d p)
    (hv : Value.okWide Try.prog W .any base 23 v) (k : Int) :
    Calls Try.prog 3 #[v, .int .i64 k] W fun e w' => e = .returned (.bool true) ∧ Below W.heap.size W w' := by
  obtain ⟨i, rfl⟩ := ins_arg h hv
  exact tells_walk i k W

end Go.Proofs.Ytglalihheppgpaa

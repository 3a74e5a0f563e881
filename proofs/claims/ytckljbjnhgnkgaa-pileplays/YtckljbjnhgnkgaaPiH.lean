/- PilePlays of arguments as they are read. -/
import Derived.Test.YtckljbjnhgnkgaaPiG
namespace Go.Proofs.Ytckljbjnhgnkgaa
open Go.RowKit

theorem plays8_arg {H : Type} {enc : TypeId × Value → H} {W : World} {base : Nat} {v : Value} {d : DataW H} {p : List MemPlace} (n : Int) (h : DataW.Trod enc Try.prog W 0 (fun _ => true) true 22 v d p)
    (hv : Value.okWide Try.prog W .any base 22 v) :
    Calls Try.prog 3 #[.int .i64 n, v] W fun e w' => e = .returned (.bool true) ∧ Below W.heap.size W w' := by
  obtain ⟨ops, a, c, rfl, ho⟩ := acts_arg h hv
  by_cases hl : 80 < ops.length
  · exact plays8_few n a ops.length c W hl
  · refine plays8_main n ops a c W (by omega) fun j o hj => ?_
    rcases ho with rfl | ⟨bl, off, ha, hbl, hA⟩
    · simp at hj
    · exact ⟨bl, off, ha, hbl, hA⟩

end Go.Proofs.Ytckljbjnhgnkgaa

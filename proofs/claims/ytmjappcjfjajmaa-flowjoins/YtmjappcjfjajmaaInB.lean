/- The walks of the document's operands and Writes, and of both Safe. -/
import Derived.Test.YtmjappcjfjajmaaInT
namespace Go.Proofs.Ytmjappcjfjajmaa
open Go.RowKit

def opT : List ByteArray := [⟨#[45, 45, 45]⟩, ⟨#[115, 110, 45]⟩, ⟨#[115, 115, 45]⟩, ⟨#[115, 115, 115]⟩, ⟨#[115, 115, 115]⟩, ⟨#[115, 115, 115]⟩, ⟨#[115, 115, 115]⟩, ⟨#[115, 115, 115]⟩, ⟨#[115, 115, 115]⟩, ⟨#[45, 116, 45]⟩, ⟨#[115, 116, 45]⟩, ⟨#[115, 112, 45]⟩, ⟨#[115, 115, 45]⟩, ⟨#[115, 112, 45]⟩, ⟨#[115, 115, 105]⟩, ⟨#[115, 105, 115]⟩, ⟨#[115, 103, 45]⟩, ⟨#[103, 115, 45]⟩, ⟨#[115, 111, 45]⟩, ⟨#[115, 115, 105]⟩, ⟨#[115, 105, 115]⟩, ⟨#[114, 102, 97]⟩, ⟨#[114, 45, 45]⟩, ⟨#[45, 102, 97]⟩, ⟨#[45, 102, 97]⟩, ⟨#[115, 115, 45]⟩, ⟨#[115, 115, 45]⟩, ⟨#[45, 45, 45]⟩, ⟨#[45, 45, 45]⟩, ⟨#[115, 45, 45]⟩]
def opS (op : Int) : ByteArray := if kn op = true then opT.getD op.toNat ⟨#[]⟩ else ⟨#[]⟩

set_option maxHeartbeats 4000000 in
theorem operands_known (op : Int) (h : kn op = true) (w : World) :
    Calls Try.prog 60 #[.int .i64 op] w fun e w' => e = .returned (.string (opS op)) ∧ w' = w := by
  rcases kn_cases h with rfl | rfl | rfl | rfl | rfl | rfl | rfl | rfl | rfl | rfl | rfl | rfl | rfl | rfl | rfl | rfl | rfl | rfl | rfl | rfl | rfl | rfl | rfl | rfl | rfl | rfl | rfl | rfl | rfl | rfl <;> (as_aux_lemma =>
    clear h
    go_enter Try.func60, Try.ntmps60
    go_wp2_with fail
    go_ret
    exact ⟨rfl, rfl⟩)
set_option maxHeartbeats 1000000 in
theorem operands_none (op : Int) (h : kn op = false) (w : World) :
    Calls Try.prog 60 #[.int .i64 op] w fun e w' => e = .returned (.string (opS op)) ∧ w' = w := by
  have hs : opS op = ⟨#[]⟩ := by unfold opS; rw [h]; rfl
  rw [hs]
  have h0 := kn_ne h 0 (by decide) (by decide)
  have h1 := kn_ne h 1 (by decide) (by decide)
  have h2 := kn_ne h 2 (by decide) (by decide)
  have h3 := kn_ne h 3 (by decide) (by decide)
  have h4 := kn_ne h 4 (by decide) (by decide)
  have h5 := kn_ne h 5 (by decide) (by decide)
  have h6 := kn_ne h 6 (by decide) (by decide)
  have h7 := kn_ne h 7 (by decide) (by decide)
  have h8 := kn_ne h 8 (by decide) (by decide)
  have h9 := kn_ne h 9 (by decide) (by decide)
  have h10 := kn_ne h 10 (by decide) (by decide)
  have h11 := kn_ne h 11 (by decide) (by decide)
  have h12 := kn_ne h 12 (by decide) (by decide)
  have h13 := kn_ne h 13 (by decide) (by decide)
  have h14 := kn_ne h 14 (by decide) (by decide)
  have h15 := kn_ne h 15 (by decide) (by decide)
  have h16 := kn_ne h 16 (by decide) (by decide)
  have h17 := kn_ne h 17 (by decide) (by decide)
  have h18 := kn_ne h 18 (by decide) (by decide)
  have h19 := kn_ne h 19 (by decide) (by decide)
  have h20 := kn_ne h 20 (by decide) (by decide)
  have h21 := kn_ne h 21 (by decide) (by decide)
  have h22 := kn_ne h 22 (by decide) (by decide)
  have h23 := kn_ne h 23 (by decide) (by decide)
  have h24 := kn_ne h 24 (by decide) (by decide)
  have h25 := kn_ne h 25 (by decide) (by decide)
  have h26 := kn_ne h 26 (by decide) (by decide)
  have h27 := kn_ne h 27 (by decide) (by decide)
  have h28 := kn_ne h 28 (by decide) (by decide)
  have h29 := kn_ne h 29 (by decide) (by decide)
  clear h hs
  go_enter Try.func60, Try.ntmps60
  go_wp2_with fail
  go_ret
  exact ⟨rfl, rfl⟩
theorem operands_any {op : Int} {s : ByteArray} (h : Hid (opS op = s)) (w : World) :
    Calls Try.prog 60 #[.int .i64 op] w fun e w' => e = .returned (.string s) ∧ w' = w := by
  rw [← h.out]
  cases hk : kn op with
  | true => exact operands_known op hk w
  | false => exact operands_none op hk w

end Go.Proofs.Ytmjappcjfjajmaa

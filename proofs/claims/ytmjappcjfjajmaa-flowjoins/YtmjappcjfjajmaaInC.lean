/- The walks of the document's Writes, and of Safe of both. -/
import Derived.Test.YtmjappcjfjajmaaInT
namespace Go.Proofs.Ytmjappcjfjajmaa
open Go.RowKit

/-- An instruction. -/
structure Ins where
  o : Int
  a : Int
  b : Int
  c : Int
def Ins.v (i : Ins) : Value := .agg #[.int .i64 i.o, .int .i64 i.a, .int .i64 i.b, .int .i64 i.c]

def wrB (op : Int) : Bool := (ro op).1 == 3

set_option maxHeartbeats 4000000 in
set_option maxRecDepth 100000 in
theorem refWrites_known (o a b c : Int) (h : kn o = true) (w : World) :
    Calls Try.prog 33 #[.agg #[.int .i64 o, .int .i64 a, .int .i64 b, .int .i64 c]] w fun e w' => e = .returned (.tuple #[.int .i64 (if wrB o = true then a else 0), .bool (wrB o)]) ∧ Below w.heap.size w w' := by
  rcases kn_cases h with rfl | rfl | rfl | rfl | rfl | rfl | rfl | rfl | rfl | rfl | rfl | rfl | rfl | rfl | rfl | rfl | rfl | rfl | rfl | rfl | rfl | rfl | rfl | rfl | rfl | rfl | rfl | rfl | rfl | rfl <;> (as_aux_lemma =>
    clear h
    go_enter Try.func33, Try.ntmps33
    go_wp2_with fail
    go_ret2
    exact ⟨rfl, (Below.refl _ _).alloc (Nat.le_refl _) _⟩)
set_option maxRecDepth 100000 in
set_option maxHeartbeats 1000000 in
theorem refWrites_none (o a b c : Int) (h : kn o = false) (w : World) :
    Calls Try.prog 33 #[.agg #[.int .i64 o, .int .i64 a, .int .i64 b, .int .i64 c]] w fun e w' => e = .returned (.tuple #[.int .i64 (if wrB o = true then a else 0), .bool (wrB o)]) ∧ Below w.heap.size w w' := by
  have hs : wrB o = false := by unfold wrB; rw [ro_none h]; rfl
  rw [hs]
  have h0 := kn_ne h 0 (by decide) (by decide)
  have h1 := kn_ne h 1 (by decide) (by decide)
  have h2 := kn_ne h 2 (by decide) (by decide)
  have h3 := kn_ne h 3 (by decide) (by decide)
  have h4 := kn_ne h 4 (by decide) (by decide)
  have h5 := kn_ne h 5 (by decide) (by decide)
  have h6 := kn_ne h 6 (by decide) (by decide)
  have h7 := kn_ne h 7 (by decide) (by decide)
  have h8 := kn_ne h 8 (by decide) (by decide)
  have h9 := kn_ne h 9 (by decide) (by decide)
  have h10 := kn_ne h 10 (by decide) (by decide)
  have h11 := kn_ne h 11 (by decide) (by decide)
  have h12 := kn_ne h 12 (by decide) (by decide)
  have h13 := kn_ne h 13 (by decide) (by decide)
  have h14 := kn_ne h 14 (by decide) (by decide)
  have h15 := kn_ne h 15 (by decide) (by decide)
  have h16 := kn_ne h 16 (by decide) (by decide)
  have h17 := kn_ne h 17 (by decide) (by decide)
  have h18 := kn_ne h 18 (by decide) (by decide)
  have h19 := kn_ne h 19 (by decide) (by decide)
  have h20 := kn_ne h 20 (by decide) (by decide)
  have h21 := kn_ne h 21 (by decide) (by decide)
  have h22 := kn_ne h 22 (by decide) (by decide)
  have h23 := kn_ne h 23 (by decide) (by decide)
  have h24 := kn_ne h 24 (by decide) (by decide)
  have h25 := kn_ne h 25 (by decide) (by decide)
  have h26 := kn_ne h 26 (by decide) (by decide)
  have h27 := kn_ne h 27 (by decide) (by decide)
  have h28 := kn_ne h 28 (by decide) (by decide)
  have h29 := kn_ne h 29 (by decide) (by decide)
  clear h hs
  go_enter Try.func33, Try.ntmps33
  go_wp2_with fail
  go_ret2
  exact ⟨rfl, (Below.refl _ _).alloc (Nat.le_refl _) _⟩
theorem refWrites_any (i : Ins) (w : World) :
    Calls Try.prog 33 #[i.v] w fun e w' => e = .returned (.tuple #[.int .i64 (if wrB i.o = true then i.a else 0), .bool (wrB i.o)]) ∧ Below w.heap.size w w' := by
  unfold Ins.v
  cases hk : kn i.o with
  | true => exact refWrites_known _ _ _ _ hk w
  | false => exact refWrites_none _ _ _ _ hk w

def sfB (op : Int) : Bool := op == 13 || op == 21 || op == 9 || op == 10 || op == 28 || op == 22
end Go.Proofs.Ytmjappcjfjajmaa

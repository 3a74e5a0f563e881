/- The walk of the document's place; its letters. -/
import Derived.Test.YtmacipjdmaaccaaCkE
namespace Go.Proofs.Ytmacipjdmaaccaa
open Go.RowKit

/-- What a letter of the document names. -/
def nl (x : Int) : Int := if x = 115 then 1 else if x = 97 then 2 else if x = 116 then 3 else if x = 102 then 4 else if x = 112 then 5 else if x = 103 then 6 else if x = 111 then 7 else if x = 105 then 8 else 0
def Lets (x : Int) : Prop := x = 115 ∨ x = 116 ∨ x = 102 ∨ x = 112 ∨ x = 103 ∨ x = 111 ∨ x = 105 ∨ x = 97 ∨ x = 45 ∨ x = 110
theorem Lets.r {x : Int} (h : Lets x) : ¬ x = 114 := by unfold Lets at h; omega
/-- The document's letters and the code's names. -/
def TabOk (op x0 x1 x2 : Int) : Prop :=
  ((x0 = 114 ∧ (nm op).1 = 1 ∧ (op = 21 ∨ op = 22)) ∨ (Lets x0 ∧ (nm op).1 = nl x0 ∧ ¬ op = 21 ∧ ¬ op = 22)) ∧ (Lets x1 ∧ (nm op).2.1 = nl x1 ∧ (x1 = 102 ↔ (op = 21 ∨ op = 23 ∨ op = 24))) ∧ (Lets x2 ∧ (nm op).2.2 = nl x2) ∧
    (¬ x1 = 102 → ¬ (nm op).1 = 2 ∧ ¬ (nm op).2.1 = 2 ∧ ¬ (nm op).2.2 = 2)
theorem tabOk {op : Int} (h : kn op = true) : TabOk op (gb (opS op) 0) (gb (opS op) 1) (gb (opS op) 2) := by
  rcases kn_cases h with rfl | rfl | rfl | rfl | rfl | rfl | rfl | rfl | rfl | rfl | rfl | rfl | rfl | rfl | rfl | rfl | rfl | rfl | rfl | rfl | rfl | rfl | rfl | rfl | rfl | rfl | rfl | rfl | rfl | rfl <;> (unfold TabOk Lets; decide +kernel)
theorem hasB_k {p : Pg} {f : Fn} {k k' : Nat} {n v : Int} (h : ¬ n = 2) : hasB p f k n v = hasB p f k' n v := by
  unfold hasB
  split
  · rfl
  · rfl

set_option maxRecDepth 100000 in
set_option maxHeartbeats 4000000 in
theorem place_any (p : Pg) (f : Fn) (ag az af : Option Addr) (cg cs cf : Nat) (a0 a3 a4 : Option Addr) (c0 c3 c4 : Nat) {x v : Int} {k : Nat} {s : Bool} (hx : Lets x) (hs : Hid (hasB p f k (nl x) v = s)) (hfit : f.slots ≤ 9223372036854775807) (w : World) :
    Calls Try.prog 28 #[.agg #[.slice ag p.glob.length cg, .slice az p.shapes.length cs, .slice af p.funcs.length cf], .agg #[.slice a0 f.args.length c0, .int .i64 f.res, .int .i64 f.slots, .slice a3 f.objs.length c3, .slice a4 f.code.length c4], .int .u8 x, .int .i64 v, .int .i64 (k : Int)] w fun e w' => e = .returned (.bool s) ∧ Below w.heap.size w w' := by
  have HB : Hid (Below w.heap.size w ((w.alloc (.cells #[.slice ag p.glob.length cg, .slice az p.shapes.length cs, .slice af p.funcs.length cf] 26)).alloc (.cells #[.slice a0 f.args.length c0, .int .i64 f.res, .int .i64 f.slots, .slice a3 f.objs.length c3, .slice a4 f.code.length c4] 41))) := ((Below.refl _ _).alloc (Nat.le_refl _) _).alloc (by simp) _
  have hx' : (x = 115 ∨ x = 116 ∨ x = 102 ∨ x = 112 ∨ x = 103 ∨ x = 111 ∨ x = 105) ∨ x = 97 ∨ x = 45 ∨ x = 110 := by unfold Lets at hx; omega
  clear hx
  rcases hx' with hx | rfl | hx
  · rcases hx with rfl | rfl | rfl | rfl | rfl | rfl | rfl
    all_goals as_aux_lemma =>
      first
        | have HI : Hid (inB v f.slots = s) := hs
        | have HI : Hid (inB v f.code.length = s) := hs
        | have HI : Hid (inB v p.funcs.length = s) := hs
        | have HI : Hid (inB v p.shapes.length = s) := hs
        | have HI : Hid (inB v p.glob.length = s) := hs
        | have HI : Hid (inB v f.objs.length = s) := hs
        | have HI : Hid (inB v 16 = s) := hs
      clear hs hfit
      by_cases h0 : 0 ≤ v
      · have hd0 : decide (0 ≤ v) = true := decide_eq_true h0
        unfold inB at HI
        rw [hd0] at HI
        simp only [Bool.true_and] at HI
        go_enter Try.func28, Try.ntmps28
        go_wp2_with fail
        go_ret
        exact ⟨ret_bool HI.out, HB.out⟩
      · have hd0 : decide (0 ≤ v) = false := decide_eq_false h0
        unfold inB at HI
        rw [hd0] at HI
        simp only [Bool.false_and] at HI
        go_enter Try.func28, Try.ntmps28
        go_wp2_with fail
        go_ret
        exact ⟨ret_bool HI.out, HB.out⟩
  · have HI : Hid ((decide (0 ≤ v) && (decide (v ≤ f.slots) && decide ((k : Int) ≤ f.slots - v))) = s) := hs
    clear hs
    by_cases h0 : 0 ≤ v
    · by_cases h1 : (k : Int) ≤ f.slots
      · obtain ⟨y, hy⟩ : ∃ y, y = f.slots - (k : Int) := ⟨_, rfl⟩
        have HI2 : Hid (decide (v ≤ y) = s) := by
          unfold Hid
          rw [← HI.out, decide_eq_true h0, Bool.true_and, hy]
          by_cases h2 : v ≤ f.slots - (k : Int)
          · rw [decide_eq_true h2, decide_eq_true (by omega), decide_eq_true (by omega)]; rfl
          · rw [decide_eq_false h2, decide_eq_false (p := (k : Int) ≤ f.slots - v) (by omega)]; simp
        have hsub : wrap64 (f.slots - (k : Int)) = y := by rw [hy]; unfold wrap64; omega
        have hsub2 : IntKind.i64.wrap (f.slots - (k : Int)) = y := by rw [hy, IntKind.wrap_i64]; omega
        have hsub3 : f.slots - (k : Int) = y := hy.symm
        clear HI hy
        go_enter Try.func28, Try.ntmps28
        go_wp2_with fail
        go_ret
        exact ⟨ret_bool HI2.out, HB.out⟩
      · have HI2 : Hid (false = s) := by
          unfold Hid
          rw [← HI.out, decide_eq_true h0, Bool.true_and]
          by_cases h2 : v ≤ f.slots
          · rw [decide_eq_false (p := (k : Int) ≤ f.slots - v) (by omega)]; simp
          · rw [decide_eq_false h2]; rfl
        clear HI
        go_enter Try.func28, Try.ntmps28
        go_wp2_with fail
        go_ret
        exact ⟨ret_bool HI2.out, HB.out⟩
    · have HI2 : Hid (false = s) := by unfold Hid; rw [← HI.out, decide_eq_false h0]; rfl
      clear HI
      go_enter Try.func28, Try.ntmps28
      go_wp2_with fail
      go_ret
      exact ⟨ret_bool HI2.out, HB.out⟩
  · rcases hx with rfl | rfl
    all_goals
      have HI : Hid (true = s) := hs
      clear hs
      go_enter Try.func28, Try.ntmps28
      go_wp2_with fail
      go_ret
      exact ⟨ret_bool HI.out, HB.out⟩

end Go.Proofs.Ytmacipjdmaaccaa

/- The walk of besombook's markInts. -/
import Derived.Test.YtglalihheppgpaaKiA
import Derived.Test.YtglalihheppgpaaFs
namespace Go.Proofs.Ytglalihheppgpaa
open Go.RowKit

/-- The marks of the list i, from place f on. -/
def mk1 (i k : Nat) : Ins := ⟨-1000 * (i : Int) - (k : Int) - 1, 0, 0, 0⟩
def mks (i f : Nat) : Nat → List Ins
  | 0 => []
  | n + 1 => mks i f n ++ [mk1 i (f + n)]
theorem mks_len (i f : Nat) : ∀ n, (mks i f n).length = n
  | 0 => rfl
  | n + 1 => by unfold mks; rw [List.length_append, mks_len i f n]; rfl
theorem mks_add (i f n : Nat) : ∀ m, mks i f (n + m) = mks i f n ++ mks i (f + n) m
  | 0 => by simp [mks]
  | m + 1 => by
    show mks i f (n + m) ++ [mk1 i (f + (n + m))] = mks i f n ++ (mks i (f + n) m ++ [mk1 i (f + n + m)])
    rw [mks_add i f n m, List.append_assoc, Nat.add_assoc]

set_option maxHeartbeats 1000000 in
theorem mark_any (i f n : Nat) (w : World) (hi' : i ≤ 1000) (hf : f ≤ 100000) (hn : n ≤ 100000) :
    Calls Try.prog 67 #[.int .i64 i, .int .i64 f, .int .i64 n] w fun e w' => ∃ v, e = .returned v ∧ w'.ownsRow w.heap.size 23 4 v n ((mks i f n).flatMap Ins.cs) ∧ Below w.heap.size w w' := by
  obtain ⟨i0, hi, hz0, hz1, hz2⟩ := info_parts Try.info23
  go_enter Try.func67, Try.ntmps67
  go_wp2_with fail
  go_loopw [7, 8] (fun v k wr => ∃ m : Nat, m ≤ n ∧ k = .int .i64 ((f + m : Nat) : Int) ∧ wr.ownsRow w.heap.size 23 4 v m ((mks i f m).flatMap Ins.cs) ∧ Below w.heap.size w wr) (fun _ k _ => f + n - (intOf k).toNat)
  case atStart => exact ⟨0, Nat.zero_le _, rfl, World.ownsRow_nil _ _ _ _, Below.refl _ _⟩
  case round =>
    obtain ⟨m, hm, rfl, hown, hB⟩ := hrel
    by_cases hlt : m < n
    · have HK : Hid (mks i f (m + 1) = mks i f m ++ [⟨-1000 * (i : Int) - ((f : Int) + (m : Int)) - 1, 0, 0, 0⟩]) := by
        show mks i f m ++ [mk1 i (f + m)] = _
        unfold mk1
        rw [Int.natCast_add]
      have HH : Hid ((∀ j u, [Value.int .i64 (-1000 * (i : Int) - ((f : Int) + (m : Int)) - 1), .int .i64 0, .int .i64 0, .int .i64 0][j]? = some u → (wr.alloc (.cells #[.int .i64 (-1000 * (i : Int) - ((f : Int) + (m : Int)) - 1), .int .i64 0, .int .i64 0, .int .i64 0] 23)).cell? ((⟨wr.heap.size, 0, none⟩ : Addr).add j) = some u) ∧ (∀ u ∈ [Value.int .i64 (-1000 * (i : Int) - ((f : Int) + (m : Int)) - 1), .int .i64 0, .int .i64 0, .int .i64 0], u.oneCell' = true) ∧ m + 1 ≤ maxLen ∧ (m + 1) * 32 ≤ 140737488355328 ∧ w.heap.size ≤ (wr.alloc (.cells #[.int .i64 (-1000 * (i : Int) - ((f : Int) + (m : Int)) - 1), .int .i64 0, .int .i64 0, .int .i64 0] 23)).heap.size) := by
        refine ⟨fun j u hu => ?_, fun u hu => ?_, by unfold maxLen; omega, by omega, by have := hB.size; simp; omega⟩
        · rw [Go.WideShapes.add_plain, Nat.zero_add]
          exact cell_new wr _ _ (by rw [← hu]; simp)
        · simp at hu
          rcases hu with rfl | rfl <;> rfl
      go_wp2_with (at_builtin; refine wpList_append_own _ rfl _ _ 43 rfl w.heap.size 23 i0 (.agg #[.int .i64 0, .int .i64 0, .int .i64 0, .int .i64 0]) 4 32 Try.underlying43 hi hz0 hz1 hz2 rfl (by decide) _ _ _ rfl (hown.alloc _) ⟨wr.heap.size, 0, none⟩ 1 1 [.int .i64 (-1000 * (i : Int) - ((f : Int) + (m : Int)) - 1), .int .i64 0, .int .i64 0, .int .i64 0] rfl rfl HH.out.1 HH.out.2.1 HH.out.2.2.1 HH.out.2.2.2.1 HH.out.2.2.2.2 ?_)
      · intro v' w1 hown' hgrow _
        have hBa : Below w.heap.size w (wr.alloc (.cells #[.int .i64 (-1000 * (i : Int) - ((f : Int) + (m : Int)) - 1), .int .i64 0, .int .i64 0, .int .i64 0] 23)) := hB.alloc hB.size _
        have hB1 : Below w.heap.size w w1 := hBa.grown hgrow hBa.size (fun k hk => (hown.lt k hk).1)
        have HO1 : Hid (w1.ownsRow w.heap.size 23 4 v' (m + 1) ((mks i f (m + 1)).flatMap Ins.cs)) := by unfold Hid; rw [HK.out, List.flatMap_append]; simpa [Ins.cs] using hown'
        clear hBa hgrow hown hB HH hown'
        go_wp2_with fail
        go_roundw
        case rel => exact ⟨m + 1, by omega, by go_num, HO1.out, hB1⟩
        case measure => simp [intOf]; omega
    · have e : m = n := by omega
      subst e
      go_wp2_with fail
      go_ret
      exact ⟨_, rfl, hown, hB⟩

end Go.Proofs.Ytglalihheppgpaa

/- The walk of besombook's markInts. -/
import Derived.Test.YtglalihheppgpaaFs
namespace Go.Proofs.Ytglalihheppgpaa
open Go.RowKit

theorem own_cap {w : World} {base g n cap : Nat} {e : TypeId} {m : Nat} {xs : List Value} (h : w.ownsRow base e 1 (.slice (some ⟨g, 0, none⟩) n cap) m xs) : n ≤ cap ∧ cap ≤ maxLen ∧ m = n := by
  rcases h.2 with ⟨h', _⟩ | ⟨g', cap', cur, h', hb, hg, hnc, hcm, hcs, htake⟩
  · simp at h'
  · simp at h'
    obtain ⟨_, rfl, rfl⟩ := h'
    exact ⟨hnc, hcm, rfl⟩

/-- The marks of the list i, from place f on. -/
def mk1 (i k : Nat) : Int := -1000000 * (i : Int) - (k : Int) - 7
def mks (i f : Nat) : Nat → List Int
  | 0 => []
  | n + 1 => mks i f n ++ [mk1 i (f + n)]
theorem mks_len (i f : Nat) : ∀ n, (mks i f n).length = n
  | 0 => rfl
  | n + 1 => by unfold mks; rw [List.length_append, mks_len i f n]; rfl
theorem mks_add (i f n : Nat) : ∀ m, mks i f (n + m) = mks i f n ++ mks i (f + n) m
  | 0 => by simp [mks]
  | m + 1 => by
    show mks i f (n + m) ++ [mk1 i (f + (n + m))] = mks i f n ++ (mks i (f + n) m ++ [mk1 i (f + n + m)])
    rw [mks_add i f n m, List.append_assoc, Nat.add_assoc]

set_option maxHeartbeats 1000000 in
theorem mark_any (i f n : Nat) (w : World) (hi' : i ≤ 1000) (hf : f ≤ 100000) (hn : n ≤ 100000) :
    Calls Try.prog 66 #[.int .i64 i, .int .i64 f, .int .i64 n] w fun e w' => ∃ v, e = .returned v ∧ w'.ownsRow w.heap.size 3 1 v n ((mks i f n).map (Value.int .i64)) ∧ Below w.heap.size w w' := by
  obtain ⟨i0, hi, hz0, hz1, hz2⟩ := info_parts Try.info3
  go_enter Try.func66, Try.ntmps66
  go_wp2_with fail
  go_loopw [7, 8] (fun v k wr => ∃ m : Nat, m ≤ n ∧ k = .int .i64 ((f + m : Nat) : Int) ∧ wr.ownsRow w.heap.size 3 1 v m ((mks i f m).map (Value.int .i64)) ∧ Below w.heap.size w wr) (fun _ k _ => f + n - (intOf k).toNat)
  case atStart => exact ⟨0, Nat.zero_le _, rfl, World.ownsRow_nil _ _ _ _, Below.refl _ _⟩
  case round =>
    obtain ⟨m, hm, rfl, hown, hB⟩ := hrel
    by_cases hlt : m < n
    · have HK : Hid (mks i f (m + 1) = mks i f m ++ [-1000000 * (i : Int) - ((f : Int) + (m : Int)) - 7]) := by
        show mks i f m ++ [mk1 i (f + m)] = _
        unfold mk1
        rw [Int.natCast_add]
      go_wp2_with (at_builtin; refine wpList_append_own _ rfl _ _ 37 rfl w.heap.size 3 i0 (.int .i64 0) 1 8 Try.underlying37 hi hz0 hz1 hz2 rfl (by decide) _ _ _ rfl (hown.alloc _) ⟨wr.heap.size, 0, none⟩ 1 1 [.int .i64 (-1000000 * (i : Int) - ((f : Int) + (m : Int)) - 7)] rfl rfl ?c1 ?c2 ?c3 ?c4 ?c5 ?_)
      case c1 =>
        intro j u hj
        match j, hj with
        | 0, hj => simp at hj; subst hj; simp [Addr.add]
      case c2 => intro u hu; simp at hu; subst hu; rfl
      case c3 => unfold maxLen; omega
      case c4 => omega
      case c5 => have := hB.size; simp; omega
      · intro v' w1 hown' hgrow _
        have hBa : Below w.heap.size w (wr.alloc (.cells #[.int .i64 (-1000000 * (i : Int) - ((f : Int) + (m : Int)) - 7)] 3)) := hB.alloc hB.size _
        have hB1 : Below w.heap.size w w1 := hBa.grown hgrow hBa.size (fun k hk => (hown.lt k hk).1)
        clear hBa hgrow hown hB
        go_wp2_with fail
        go_roundw
        case rel => exact ⟨m + 1, by omega, by go_num, by rw [HK.out, List.map_append]; exact hown', hB1⟩
        case measure => simp [intOf]; omega
    · have e : m = n := by omega
      subst e
      go_wp2_with fail
      go_ret
      exact ⟨_, rfl, hown, hB⟩

end Go.Proofs.Ytglalihheppgpaa

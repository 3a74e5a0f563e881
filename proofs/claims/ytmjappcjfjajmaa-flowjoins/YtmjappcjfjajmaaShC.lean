/- The walks of counts and checkOne: fields counted by kind in a map, and the map ranged over. -/
import Derived.Test.YtmjappcjfjajmaaShB
import Derived.Test.YtmjappcjfjajmaaLsA
import Derived.Maps.OwnOps
import Derived.Maps.RangeWalk
namespace Go.Proofs.Ytmjappcjfjajmaa
open Go.RowKit Go.Maps

theorem Try.lawInt : Keyed Try.prog 3 := int_keyed Try.underlying3
theorem Try.zeroInt (w : World) : (zeroValue 3).run Try.prog w = .ok (.int .i64 0) w := by kernel_rfl

def FitL (L : List Int) : Prop := ∀ n ∈ L, (Lit.int .i64 n).wf = true
theorem FitL.at {L : List Int} (h : FitL L) (k : Nat) : (Lit.int .i64 (L.getD k 0)).wf = true := by
  by_cases hk : k < L.length
  · rw [List.getD, List.getElem?_eq_getElem hk]
    exact h _ (List.getElem_mem hk)
  · rw [List.getD, List.getElem?_eq_none (by omega)]
    decide

/-- The map D tells, of each number, how often it is in L. -/
structure Told (D : DataW Unit) (L : List Int) : Prop where
  im : IsMap D
  cnt : ∀ x : Int, D.atKey (.int .i64 x) (.lit (.int .i64 0)) = .lit (.int .i64 (L.count x))
  has : ∀ x : Int, x ∈ L → Maps.has D (.int .i64 x) = true
theorem told_none : Told (.map []) [] := ⟨isMap_empty, fun _ => rfl, fun _ h => by cases h⟩
theorem told_more {D : DataW Unit} {L : List Int} (h : Told D L) (x : Int) : Told (D.put (.int .i64 x) (.lit (.int .i64 ((L.count x : Int) + 1)))) (L ++ [x]) := by
  refine ⟨h.im.put _ _, fun y => ?_, fun y hy => ?_⟩
  · by_cases e : y = x
    · subst e
      rw [atKey_put_same (k := .int .i64 y) h.im (by trivial)]
      simp
    · rw [atKey_put_other (by simpa using e), h.cnt y]
      simp [List.count_append, Ne.symm e]
  · by_cases e : y = x
    · subst e
      exact has_put_same (k := .int .i64 y) h.im (by trivial) _
    · rw [has_put_other (by simpa using e)]
      exact h.has y (by simpa [e] using hy)

set_option maxHeartbeats 1000000 in
theorem counts_core (L : List Int) (w : World) {b off c : Nat} (hlen : L.length ≤ 1000) (hF : FitL L) (hb : b < w.heap.size)
    (hc : ∀ j, j < L.length → w.cell? ⟨b, off + j, none⟩ = some (.int .i64 (L.getD j 0))) :
    Calls Try.prog 95 #[.agg #[.slice (some ⟨b, off, none⟩) L.length c]] w fun e w' => ∃ B D, e = .returned (.map (some B)) ∧ w.heap.size ≤ B ∧
      w'.ownsMap Try.prog 3 (plainElem (H := Unit) Try.prog 3) B L.length D ∧ Told D L ∧ Below w.heap.size w w' := by
  have hmm := @run_makeMap Try.prog
  have HC : Hid (∀ j, j < L.length → w.cell? ⟨b, off + j, none⟩ = some (.int .i64 (L.getD j 0))) := hc
  clear hc
  go_enter Try.func95, Try.ntmps95
  go_wp2_with fail
  go_loopw [10] (fun i wr => ∃ k : Nat, k ≤ L.length ∧ i = .int .i64 k ∧ ∃ D, wr.ownsMap Try.prog 3 (plainElem (H := Unit) Try.prog 3) (w.heap.size + 1) k D ∧ Told D (L.take k) ∧ Below w.heap.size w wr)
    (fun i _ => L.length - (intOf i).toNat)
  case atStart =>
    refine ⟨0, Nat.zero_le _, rfl, .map [], ?_, told_none, ((Below.refl _ _).alloc (Nat.le_refl _) _).alloc (by simp) _⟩
    have := World.ownsMap_made (H := Unit) (w.alloc (.cells #[.slice (some ⟨b, off, none⟩) L.length c] 58)) Try.prog 3 (plainElem Try.prog 3)
    simpa using this
  case round =>
    obtain ⟨k, hk, rfl, D, hown, hT, hnx⟩ := hrel
    have hB : w.heap.size + 1 ≤ wr.heap.size := by have := hown.lt; omega
    by_cases hlt : k < L.length
    · have hcx : wr.cell? ⟨b, off + k, none⟩ = some (.int .i64 (L.getD k 0)) := (hnx.cell (p := ⟨b, off + k, none⟩) hb).trans (HC.out k hlt)
      have hkey : keyOf Try.prog 3 (.int .i64 (L.getD k 0)) = some (.int .i64 (L.getD k 0)) := keyOf_int_mk Try.underlying3 (hF.at k)
      have HS : Hid (L.take (k + 1) = L.take k ++ [L.getD k 0]) := take_snocD L k hlt
      have hcl : (L.take k).count (L.getD k 0) ≤ k := Nat.le_trans List.count_le_length (List.length_take_le k L)
      have HT : Hid (Told D (L.take k)) := hT
      clear hT HC
      generalize L.getD k 0 = x at *
      go_wp2_with (first
        | (at_lookup; refine wpList_lookup_own_int _ rfl _ _ 128 rfl 3 3 .i64 Try.lawInt Try.underlying128 Try.underlying3 (Try.zeroInt _) (w.heap.size + 1) k _ rfl hown _ _ rfl hkey ?_; intro cn hat _)
        | (at_mapUpdate; refine wpList_mapUpdate_own _ rfl _ _ _ 128 rfl 3 3 Try.lawInt Try.underlying128 _ (w.heap.size + 1) k _ rfl hown (by unfold maxLen; omega) _ _ _ rfl rfl hkey _ [] (plainElem_int Try.underlying3 (wrap64_wf _)) ?_; intro w1 hown1 hgrow1)
        | go_in)
      obtain rfl : cn = ((L.take k).count x : Int) := by
        have := HT.out.cnt x
        rw [hat] at this
        simpa using this
      have e1 : wrap64 (((L.take k).count x : Int) + 1) = ((L.take k).count x : Int) + 1 := by unfold wrap64; omega
      rw [e1] at hown1
      go_roundw
      case rel => exact ⟨k + 1, by omega, by go_num, _, hown1, by rw [HS.out]; exact told_more HT.out x, hnx.grown hgrow1 (by omega) (fun j hj => by cases hj; exact Nat.le_succ _)⟩
      case measure => simp [intOf]; omega
    · go_wp2_with fail
      go_ret
      have e : k = L.length := by omega
      subst e
      rw [List.take_length] at hT
      exact ⟨_, D, rfl, Nat.le_succ _, hown, hT, hnx⟩

end Go.Proofs.Ytmjappcjfjajmaa

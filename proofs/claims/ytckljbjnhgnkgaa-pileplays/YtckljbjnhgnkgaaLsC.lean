/- The walks of besombook's LentInts, StaysInts. -/
import Derived.Test.YtckljbjnhgnkgaaLsB
namespace Go.Proofs.Ytckljbjnhgnkgaa
open Go.RowKit

theorem own_cap {w : World} {base g n cap : Nat} {e : TypeId} {m : Nat} {xs : List Value} (h : w.ownsRow base e 1 (.slice (some ⟨g, 0, none⟩) n cap) m xs) : n ≤ cap ∧ cap ≤ maxLen ∧ m = n := by
  rcases h.2 with ⟨h', _⟩ | ⟨g', cap', cur, h', hb, hg, hnc, hcm, hcs, htake⟩
  · simp at h'
  · simp at h'
    obtain ⟨_, rfl, rfl⟩ := h'
    exact ⟨hnc, hcm, rfl⟩

set_option maxHeartbeats 400000 in
theorem lent_any (L : List Int) (a : Option Addr) (c : Nat) (w : World) (hlen : L.length ≤ 1000) (h : SrcAt w (.slice a L.length c) L) :
    Calls Try.prog 8 #[.slice a L.length c] w fun e w' => ∃ g cap, e = .returned (.slice (some ⟨g, 0, none⟩) L.length cap) ∧
      w'.ownsRow w.heap.size 3 1 (.slice (some ⟨g, 0, none⟩) (L.length + 1) cap) (L.length + 1) ((L ++ [-77]).map (Value.int .i64)) ∧ Below w.heap.size w w' := by
  obtain ⟨i0, hi, hz0, hz1, hz2⟩ := info_parts Try.info3
  go_enter Try.func8, Try.ntmps8
  go_wp2_with fail
  refine (copy_any L _ _ (by omega) h).mono ?_
  rintro e w1 ⟨v1, rfl, hown, hB⟩
  clear h
  go_wp2_with (at_builtin; refine wpList_append_keep _ rfl _ _ 26 rfl w.heap.size 3 i0 (.int .i64 0) 8 Try.underlying26 hi hz0 hz1 hz2 rfl _ _ _ rfl (hown.alloc _) ⟨w1.heap.size, 0, none⟩ 1 1 [.int .i64 (-77)] rfl rfl ?c1 ?c2 (by decide) ?c3 ?c4 ?c5 ?_)
  case c1 =>
    intro j u hj
    match j, hj with
    | 0, hj => simp at hj; subst hj; simp [Addr.add]
  case c2 => intro u hu; simp at hu; subst hu; rfl
  case c3 => unfold maxLen; omega
  case c4 => omega
  case c5 => have := hB.size; simp; omega
  · intro g cap w2 hown2 _ hgrow _
    have hBa : Below w.heap.size w (w1.alloc (.cells #[.int .i64 (-77)] 3)) := hB.alloc hB.size _
    have hB2 : Below w.heap.size w w2 := hBa.grown hgrow hBa.size (fun k hk => (hown.lt k hk).1)
    obtain ⟨hc1, hc2, _⟩ := own_cap hown2
    unfold maxLen at hc2
    have HO : Hid (w2.ownsRow w.heap.size 3 1 (.slice (some ⟨g, 0, none⟩) (L.length + 1) cap) (L.length + 1) (L.map (Value.int .i64) ++ [.int .i64 (-77)])) := hown2
    clear hown2 hgrow hown hB hBa
    go_wp2_with fail
    go_ret
    exact ⟨g, cap, rfl, by simpa using HO.out, hB2⟩

set_option maxHeartbeats 400000 in
theorem stays_any (L : List Int) (v : Value) (g cap base : Nat) (w : World) (hlen : L.length ≤ 1000) (h1 : w.ownsRow base 3 1 (.slice (some ⟨g, 0, none⟩) (L.length + 1) cap) (L.length + 1) ((L ++ [-77]).map (Value.int .i64))) (h2 : SrcAt w v L) :
    Calls Try.prog 15 #[.slice (some ⟨g, 0, none⟩) L.length cap, v] w fun e w' => e = .returned (.bool true) ∧ ∃ q, w' = w.drewN q := by
  obtain ⟨hc1, hc2, _⟩ := own_cap h1
  unfold maxLen at hc2
  rw [List.map_append] at h1
  have hp := own_prefix (n := L.length) (m := 1) h1 (by simp)
  have hs : SrcAt w (.slice (some ⟨g, 0, none⟩) L.length cap) L := src_of_own hp
  have hcell : w.cell? ⟨g, L.length, none⟩ = some (.int .i64 (-77)) := by
    have := h1.cellAt (g := g) (cap := cap) L.length (by omega)
    rw [this]; simp
  clear h1 hp
  go_enter Try.func15, Try.ntmps15
  go_wp2_with fail
  refine (same_any L _ _ _ (by unfold maxLen; omega) hs h2).mono ?_
  rintro e w1 ⟨rfl, q, rfl⟩
  clear hs h2
  go_wp2_with fail
  go_ret
  exact ⟨rfl, q, rfl⟩

end Go.Proofs.Ytckljbjnhgnkgaa

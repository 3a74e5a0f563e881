/- The walks of besombook's SameInts, copyInts, LentInts, StaysInts, markInts. -/
import Derived.Test.YtmjappcjfjajmaaLsA
namespace Go.Proofs.Ytmjappcjfjajmaa
open Go.RowKit

/-- Two lists that are alike: SameInts says so. -/
theorem same_zero (a a' : Option Addr) (c c' : Nat) (w : World) :
    Calls Try.prog 13 #[.slice a 0 c, .slice a' 0 c'] w fun e w' => e = .returned (.bool true) ∧ ∃ q, w' = w.drewN q := by
  go_enter Try.func13, Try.ntmps13
  go_wp2
  go_loop [5] (fun i => i = .int .i64 0) (fun _ => 0)
  case atStart => rfl
  case round =>
    obtain rfl := hrel
    go_wp2
    go_ret
    exact ⟨rfl, 0, rfl⟩

set_option maxHeartbeats 400000 in
theorem same_core (L : List Int) (w : World) {b off c b' off' c' : Nat} (hlen : L.length ≤ maxLen)
    (h1 : ∀ j, j < L.length → w.cell? ⟨b, off + j, none⟩ = some (.int .i64 (L.getD j 0))) (h2 : ∀ j, j < L.length → w.cell? ⟨b', off' + j, none⟩ = some (.int .i64 (L.getD j 0))) :
    Calls Try.prog 13 #[.slice (some ⟨b, off, none⟩) L.length c, .slice (some ⟨b', off', none⟩) L.length c'] w fun e w' => e = .returned (.bool true) ∧ ∃ q, w' = w.drewN q := by
  unfold maxLen at hlen
  have H1 : Hid (∀ j, j < L.length → w.cell? ⟨b, off + j, none⟩ = some (.int .i64 (L.getD j 0))) := h1
  have H2 : Hid (∀ j, j < L.length → w.cell? ⟨b', off' + j, none⟩ = some (.int .i64 (L.getD j 0))) := h2
  clear h1 h2
  go_enter Try.func13, Try.ntmps13
  go_wp2
  go_loopw [5] (fun i wr => ∃ j : Nat, j ≤ L.length ∧ i = .int .i64 j ∧ ∃ q, wr = w.drewN q) (fun i _ => L.length - (intOf i).toNat)
  case atStart => exact ⟨0, Nat.zero_le _, rfl, 0, rfl⟩
  case round =>
    obtain ⟨j, hj, rfl, hq⟩ := hrel
    by_cases hlt : j < L.length
    · have e1 : wr.cell? ⟨b, off + j, none⟩ = some (.int .i64 (L.getD j 0)) := by obtain ⟨q, rfl⟩ := hq; exact H1.out j hlt
      have e2 : wr.cell? ⟨b', off' + j, none⟩ = some (.int .i64 (L.getD j 0)) := by obtain ⟨q, rfl⟩ := hq; exact H2.out j hlt
      have HQ : Hid (∃ q, wr = w.drewN q) := hq
      clear hq H1 H2
      generalize L.getD j 0 = k at *
      have hlt' : (j : Int) < (L.length : Int) := by omega
      go_upto_region 6 with (fail)
      go_quiet (fail)
      go_wp2
      go_roundw
      case rel => exact ⟨j + 1, by omega, by go_num, drewN_more HQ.out _⟩
      case measure => simp [intOf]; omega
    · go_wp2
      go_ret
      exact ⟨rfl, hq⟩

theorem same_any (L : List Int) (v v' : Value) (w : World) (hlen : L.length ≤ maxLen) (h1 : SrcAt w v L) (h2 : SrcAt w v' L) :
    Calls Try.prog 13 #[v, v'] w fun e w' => e = .returned (.bool true) ∧ ∃ q, w' = w.drewN q := by
  by_cases h0 : L = []
  · subst h0
    obtain ⟨a, c, rfl⟩ := h1.len
    obtain ⟨a', c', rfl⟩ := h2.len
    exact same_zero a a' c c' w
  · rcases h1 with ⟨h, _⟩ | ⟨b, off, c, rfl, _, h3⟩
    · exact absurd h h0
    · rcases h2 with ⟨h, _⟩ | ⟨b', off', c', rfl, _, h4⟩
      · exact absurd h h0
      · exact same_core L w hlen h3 h4

theorem ints_one (L : List Int) : ∀ u ∈ L.map (Value.int .i64), u.oneCell' = true := by
  intro u hu
  obtain ⟨x, _, rfl⟩ := List.mem_map.1 hu
  rfl
theorem ints_cells {w : World} {b off : Nat} {L : List Int} (h : ∀ j, j < L.length → w.cell? ⟨b, off + j, none⟩ = some (.int .i64 (L.getD j 0))) :
    ∀ j u, (L.map (Value.int .i64))[j]? = some u → w.cell? ((⟨b, off, none⟩ : Addr).add j) = some u := by
  intro j u hj
  rw [Go.WideShapes.add_plain]
  obtain ⟨hlt, he⟩ := List.getElem?_eq_some_iff.1 hj
  have hlt' : j < L.length := by simpa using hlt
  rw [h j hlt', ← he]
  simp [hlt']

set_option maxHeartbeats 400000 in
theorem copy_any (L : List Int) (v : Value) (w : World) (hlen : L.length ≤ 100000) (h : SrcAt w v L) :
    Calls Try.prog 26 #[v] w fun e w' => ∃ v', e = .returned v' ∧ w'.ownsRow w.heap.size 3 1 v' L.length (L.map (Value.int .i64)) ∧ Below w.heap.size w w' := by
  obtain ⟨i0, hi, hz0, hz1, hz2⟩ := info_parts Try.info3
  have hnil := World.ownsRow_nil w w.heap.size 3 1
  rcases h with ⟨rfl, rfl | ⟨ad, c, rfl⟩⟩ | ⟨b, off, c, rfl, h2, h3⟩
  · go_enter Try.func26, Try.ntmps26
    go_wp2_with (at_builtin; refine wpList_append_own_none rfl _ _ 22 rfl w.heap.size 3 i0 1 Try.underlying22 hi _ _ _ rfl hnil rfl ?_)
    go_ret
    exact ⟨_, rfl, hnil, Below.refl _ _⟩
  · go_enter Try.func26, Try.ntmps26
    go_wp2_with (at_builtin; refine wpList_append_own _ rfl _ _ 22 rfl w.heap.size 3 i0 (.int .i64 0) 1 8 Try.underlying22 hi hz0 hz1 hz2 rfl (by decide) _ _ _ rfl hnil ad 0 c [] rfl rfl ?c1 ?c2 ?c3 ?c4 ?c5 ?_)
    case c1 => intro j u hj; simp at hj
    case c2 => intro u hu; simp at hu
    case c3 => unfold maxLen; omega
    case c4 => omega
    case c5 => exact Nat.le_refl _
    · intro v' w1 hown' hgrow _
      go_wp2_with fail
      go_ret
      exact ⟨_, rfl, hown', (Below.refl _ _).grown hgrow (Nat.le_refl _) (fun k hk => by simp [Value.ownBlock] at hk)⟩
  · have hn := ints_cells h3
    go_enter Try.func26, Try.ntmps26
    go_wp2_with (at_builtin; refine wpList_append_own _ rfl _ _ 22 rfl w.heap.size 3 i0 (.int .i64 0) 1 8 Try.underlying22 hi hz0 hz1 hz2 rfl (by decide) _ _ _ rfl hnil ⟨b, off, none⟩ L.length c (L.map (Value.int .i64)) rfl (by simp) hn (ints_one L) ?c3 ?c4 ?c5 ?_)
    case c3 => unfold maxLen; omega
    case c4 => omega
    case c5 => exact Nat.le_refl _
    · intro v' w1 hown' hgrow _
      go_wp2_with fail
      go_ret
      exact ⟨_, rfl, by simpa using hown', (Below.refl _ _).grown hgrow (Nat.le_refl _) (fun k hk => by simp [Value.ownBlock] at hk)⟩

end Go.Proofs.Ytmjappcjfjajmaa

/- The walk of checkOne: the map of counts is ranged over, in whatever order. -/
import Derived.Test.YtmjappcjfjajmaaShC
namespace Go.Proofs.Ytmjappcjfjajmaa
open Go.RowKit Go.Maps

/-- How many fields of L may be, and have been seen. -/
def seenN (L : List Int) (n : Int) (left : Lit → Bool) : Nat := L.countP fun x => fldB x n && !left (.int .i64 x)
theorem seen_start {L : List Int} {n : Int} {left : Lit → Bool} (h : ∀ x ∈ L, left (.int .i64 x) = true) : seenN L n left = 0 := by
  unfold seenN
  rw [List.countP_eq_zero]
  intro x hx
  simp [h x hx]
theorem seen_end {L : List Int} {n : Int} {left : Lit → Bool} (h : ∀ kl, left kl = false) : seenN L n left = L.countP (fun x => fldB x n) := by
  unfold seenN
  simp [h]
theorem same_int (x y : Int) : (Lit.int .i64 y).sameKey (.int .i64 x) = decide (y = x) := by
  by_cases e : y = x
  · subst e
    rw [WideAt.sameKey_self (by trivial)]
    simp
  · rw [sameKey_ne (by simpa using e)]
    simp [e]
theorem seen_step {L : List Int} {n x : Int} {left : Lit → Bool} (h : left (.int .i64 x) = true) :
    seenN L n (fun z => left z && !z.sameKey (.int .i64 x)) = seenN L n left + (if fldB x n then L.count x else 0) := by
  unfold seenN
  induction L with
  | nil => simp
  | cons y L ih =>
    rw [List.countP_cons, List.countP_cons, ih, List.count_cons]
    simp only [same_int]
    by_cases e : y = x
    · subst e
      simp [h]
      split <;> omega
    · simp [e]
      split <;> split <;> omega
theorem seen_le (L : List Int) (n : Int) (left : Lit → Bool) : seenN L n left ≤ L.length := List.countP_le_length

/-- What is wrong with one of n shapes. -/
def oneN (L : List Int) (n : Int) : Int := if L.length < 1 ∨ 16 < L.length then 1 else if L.countP (fun x => fldB x n) < L.length then 3 else 0

theorem one_none (a : Option Addr) (c : Nat) (n : Int) (w : World) :
    Calls Try.prog 88 #[.agg #[.slice a 0 c], .int .i64 n] w fun e w' => e = .returned (.int .i64 1) ∧ Below w.heap.size w w' := by
  go_enter Try.func88, Try.ntmps88
  go_wp2_with fail
  go_ret
  exact ⟨rfl, (Below.refl _ _).alloc (Nat.le_refl _) _⟩
theorem one_many (a : Option Addr) (k c : Nat) (n : Int) (w : World) (h : 16 < k) :
    Calls Try.prog 88 #[.agg #[.slice a k c], .int .i64 n] w fun e w' => e = .returned (.int .i64 1) ∧ Below w.heap.size w w' := by
  have h1 : ¬ (k : Int) < 1 := by omega
  have h2 : 16 < (k : Int) := by omega
  go_enter Try.func88, Try.ntmps88
  go_wp2_with fail
  go_ret
  exact ⟨rfl, (Below.refl _ _).alloc (Nat.le_refl _) _⟩

set_option maxHeartbeats 2000000 in
theorem one_core (L : List Int) (n : Int) (w : World) {b off c : Nat} (h1 : 1 ≤ L.length) (h16 : L.length ≤ 16) (hF : FitL L) (hb : b < w.heap.size)
    (hc : ∀ j, j < L.length → w.cell? ⟨b, off + j, none⟩ = some (.int .i64 (L.getD j 0))) :
    Calls Try.prog 88 #[.agg #[.slice (some ⟨b, off, none⟩) L.length c], .int .i64 n] w fun e w' => e = .returned (.int .i64 (oneN L n)) ∧ Below w.heap.size w w' := by
  have HC : Hid (∀ j, j < L.length → w.cell? ⟨b, off + j, none⟩ = some (.int .i64 (L.getD j 0))) := hc
  clear hc
  go_enter Try.func88, Try.ntmps88
  go_wp2_with fail
  have HB1 : Hid (Below w.heap.size w (w.alloc (.cells #[.slice (some ⟨b, off, none⟩) L.length c] 58))) := (Below.refl _ _).alloc (Nat.le_refl _) _
  have hcell1 : (w.alloc (.cells #[.slice (some ⟨b, off, none⟩) L.length c] 58)).cell? ⟨w.heap.size, 0, none⟩ = some (.slice (some ⟨b, off, none⟩) L.length c) := by simp
  have hs1 : (w.alloc (.cells #[.slice (some ⟨b, off, none⟩) L.length c] 58)).heap.size = w.heap.size + 1 := by simp
  generalize (w.alloc (.cells #[.slice (some ⟨b, off, none⟩) L.length c] 58)) = w1 at *
  have HL : Hid (Calls Try.prog 95 #[.agg #[.slice (some ⟨b, off, none⟩) L.length c]] w1 _) := counts_core L w1 (by omega) hF (by omega) (fun j hj => (HB1.out.cell (p := ⟨b, off + j, none⟩) hb).trans (HC.out j hj))
  clear HC
  refine Calls.mono HL.out ?_
  rintro e w2 ⟨B, D, rfl, hB, hown, hT, hnx⟩
  clear HL
  have hcell2 : w2.cell? ⟨w.heap.size, 0, none⟩ = some (.slice (some ⟨b, off, none⟩) L.length c) := (hnx.cell (p := ⟨w.heap.size, 0, none⟩) (by show w.heap.size < _; omega)).trans hcell1
  have hs2 := hnx.size
  have HN : Hid (Below w.heap.size w w2) := HB1.out.trans (hnx.mono (by omega))
  have HT : Hid (Told D L) := hT
  clear hT hnx hcell1
  go_wp2_with (first
    | (at_range; refine wpList_range_own _ rfl _ 128 rfl 3 3 Try.lawInt Try.underlying128 _ B L.length D rfl hown ?_; intro w3 hrg0 hg0 hs3)
    | go_in)
  go_frame
  go_loopw [5] (fun g wr => ∃ (left : Lit → Bool) (cnt : Nat), Hid (wr.ranges Try.prog 3 (plainElem Try.prog 3) B w2.heap.size L.length D left cnt) ∧ g = .int .i64 (seenN L n left) ∧ Hid (Below w.heap.size w wr) ∧ wr.cell? ⟨w.heap.size, 0, none⟩ = some (.slice (some ⟨b, off, none⟩) L.length c))
    (fun _ wr => wr.rangeLeft B w2.heap.size)
  case atStart =>
    refine ⟨_, _, hrg0, ?_, HN.out.grown hg0 (by omega) (fun k hk => by cases hk), ?_⟩
    · rw [seen_start (fun x hx => HT.out.has x hx)]
      rfl
    · rw [← hcell2]
      exact World.cell?_of_block (hg0.block w.heap.size (by omega) (by simp))
  case round =>
    obtain ⟨left, cnt, HR, rfl, HW, hcl⟩ := hrel
    have hrg := HR.out
    clear hrg0 hg0 hs3 hcell2
    have hle := seen_le L n left
    obtain ⟨g, hg⟩ : ∃ g, Hid (seenN L n left = g) := ⟨_, rfl⟩
    rw [hg.out] at hle ⊢
    go_wp2_with (first
      | (at_next; refine wpList_next_ranges_ii _ rfl _ rfl 3 3 .i64 .i64 Try.lawInt Try.underlying3 Try.underlying3 B w2.heap.size L.length _ _ _ rfl hrg ?_ ?_)
      | go_in)
    · intro _ hl0
      have e0 : g = L.countP (fun x => fldB x n) := by rw [← hg.out]; exact seen_end hl0
      have HE : Hid (oneN L n = if g < L.length then 3 else 0) := by
        show oneN L n = _
        unfold oneN
        rw [if_neg (by omega), e0]
      clear e0 hl0 hrg
      by_cases hlt : g < L.length
      · have hlt' : (g : Int) < (L.length : Int) := by omega
        go_wp2_with fail
        go_ret
        exact ⟨ret_int (by rw [HE.out, if_pos hlt]), HW.out⟩
      · have hlt' : ¬ (g : Int) < (L.length : Int) := by omega
        go_wp2_with fail
        go_ret
        exact ⟨ret_int (by rw [HE.out, if_neg hlt]), HW.out⟩
    · intro x cn w4 cnt1 _ _ hlx hat hrg1 hlt hg1 hs4 hen
      obtain rfl : cn = (L.count x : Int) := by
        have := HT.out.cnt x
        rw [hat] at this
        simpa using this
      have HST : Hid (seenN L n (fun z => left z && !z.sameKey (.int .i64 x)) = g + (if fldB x n then L.count x else 0)) := by
        show seenN _ _ _ = _
        rw [seen_step hlx, hg.out]
      have HW4 : Hid (Below w.heap.size w w4) := HW.out.grown hg1 HW.out.size (fun k hk => by cases hk; omega)
      have hcl4 : w4.cell? ⟨w.heap.size, 0, none⟩ = some (.slice (some ⟨b, off, none⟩) L.length c) := by
        rw [← hcl]
        exact World.cell?_of_block (hg1.block w.heap.size (by have := hrg.lt; omega) (by simp; omega))
      have HL1 : Hid (w4.rangeLeft B w2.heap.size < wr.rangeLeft B w2.heap.size) := by
        show _ < _
        rw [hrg1.left_eq, hrg.left_eq]
        exact hlt
      have HR1 : Hid (w4.ranges Try.prog 3 (plainElem Try.prog 3) B w2.heap.size L.length D (fun z => left z && !z.sameKey (.int .i64 x)) cnt1) := hrg1
      have hck : L.count x ≤ L.length := List.count_le_length
      clear hrg hrg1 hat hlx hg1 hlt HR
      obtain ⟨p, hp⟩ : ∃ p, Hid (fldB x n = p) := ⟨_, rfl⟩
      rw [hp.out] at HST
      generalize L.count x = m at *
      cases p
      · go_wp2_with fail
        refine (field_any hp _).mono ?_
        rintro e w5 ⟨rfl, rfl⟩
        go_wp2_with fail
        go_roundw
        case rel => exact ⟨_, _, HR1, by rw [HST.out]; rfl, HW4, hcl4⟩
        case measure => exact HL1.out
      · go_wp2_with fail
        refine (field_any hp _).mono ?_
        rintro e w5 ⟨rfl, rfl⟩
        go_wp2_with fail
        go_roundw
        case rel => exact ⟨_, _, HR1, by rw [HST.out]; go_num, HW4, hcl4⟩
        case measure => exact HL1.out

end Go.Proofs.Ytmjappcjfjajmaa

/- The walk of the law SieveSteps. -/
import Derived.Test.YthnnbhpaejemnaaDoorSvO
namespace Go.Proofs.YthnnbhpaejemnaaDoor
open Go.RowKit

theorem cnt_both (S : Nat → Bool) : ∀ n, cnt S n + cnt (notIn S) n = n
  | 0 => rfl
  | n + 1 => by
    show cnt S n + (if S n then 1 else 0) + (cnt (notIn S) n + if notIn S n then 1 else 0) = n + 1
    have := cnt_both S n
    cases h : S n <;> simp [notIn, h] <;> omega
theorem cnt_next (T : Nat → Bool) (m z : Nat) (hz : m ≤ z) (hT : T z = true) (h : ∀ y, m ≤ y → y < z → T y = false) : cnt T (z + 1) = cnt T m + 1 := by
  rw [← els_len, els_next T m z hz hT h, List.length_append, els_len]; rfl
theorem cnt_end (T : Nat → Bool) (m n : Nat) (hm : m ≤ n) (h : ∀ y, m ≤ y → y < n → T y = false) : cnt T n = cnt T m := by
  obtain ⟨d, rfl⟩ := Nat.le.dest hm
  rw [← els_len, els_none T m d h, els_len]

theorem has_nat (n x : Nat) (S : Nat → Bool) (v : Bool) (hx : x < n) (hv : S x = v) : hasB n S (x : Int) = v := by
  simp [hasB, may_true n x hx, hv]

set_option maxHeartbeats 1000000 in
theorem steps_main (n : Int) (L : List Int) (a : Option Addr) (c : Nat) (w : World) (hT : Tab w) (hn0 : 1 ≤ n) (hn1 : n ≤ 300) (hl : L.length ≤ 100) (hI : IntsIn w w.heap.size (.slice a L.length c) L) :
    Calls Tryd.prog 5 #[.int .i64 n, .slice a L.length c] w fun e w' => e = .returned (.bool true) ∧ Below w.heap.size w w' := by
  have HT : Hid (Tab w) := hT
  have HI : Hid (IntsIn w w.heap.size (.slice a L.length c) L) := hI
  have hml : Hid (L.length ≤ maxLen) := by unfold Hid maxLen; omega
  clear hT hI
  go_enter Tryd.func5, Tryd.ntmps5
  go_wp2_with fail
  refine (alive_any _ HT.out).mono ?_
  rintro e w1 ⟨rfl, hB1⟩
  have HB1 : Hid (Below w.heap.size w w1) := hB1
  clear hB1
  go_wp2_with fail
  refine (new_any n _).mono ?_
  rintro e w2 ⟨b, bw, hb, hbw, rfl, hs, hB2⟩
  have hB2' : Below w.heap.size w w2 := HB1.out.trans (hB2.mono HB1.out.size)
  have hbw' : w.heap.size ≤ bw := Nat.le_trans HB1.out.size hbw
  have HB2 : Hid (Below w.heap.size w w2) := hB2'
  have hN : ((svN n : Nat) : Int) = n := svN_nat n hn0 (by omega)
  clear hB2 hB2' HB1 hb hbw
  generalize svN n = N at *
  subst hN
  go_wp2_with fail
  refine (put_any L _ _ hs hbw' (HI.out.below HB2.out) hml.out).mono ?_
  rintro e w3 ⟨rfl, hs3, hB3⟩
  have HB3 : Hid (Below w.heap.size w w3) := HB2.out.trans (hB3.below hbw' HB2.out.size)
  have hT3 : Tab w3 := HT.out.below HB3.out HT.out.size
  clear hB3 hs HB2 HI hml hbw'
  generalize putS N (fun _ => false) L = S at *
  generalize putC N (fun _ => false) L = c0 at *
  have HS3 : Hid (SvAt w3 b bw N S) := hs3
  have HT3 : Hid (Tab w3) := hT3
  clear hs3 hT3
  go_wp2_with fail
  refine (next_any 0 _ (by decide) HS3.out HT3.out).mono ?_
  rintro e w4 ⟨rfl, q, rfl⟩
  go_wp2_with fail
  go_loopw [6, 8] (fun i k wr => ∃ m : Nat, m ≤ N ∧ k = .int .i64 (nx S N (m : Int)) ∧ i = .int .i64 (cnt S m : Nat) ∧ ∃ q, wr = w3.drewN q) (fun _ k _ => stepM N (intOf k))
  case atStart => exact ⟨0, Nat.zero_le _, rfl, rfl, q, rfl⟩
  case round =>
    obtain ⟨m, hm, rfl, rfl, q, rfl⟩ := hrel
    have hcm := cnt_le S m
    rcases nx_cases S N m with ⟨h1, h2⟩ | ⟨z, h1, h2, h3, h4, h5⟩
    · have HE : Hid (cnt S N = cnt S m) := cnt_end S m N hm h2
      rw [h1]
      clear h1 h2
      go_wp2_with fail
      refine (gap_any (-5) _ (by decide) (HS3.out.drewN _) (SvAt.tab HT3.out _)).mono ?_
      rintro e w5 ⟨rfl, q5, rfl⟩
      go_wp2_with fail
      go_loopw [7, 9] (fun i k wr => ∃ m : Nat, m ≤ N ∧ k = .int .i64 (nx (notIn S) N (m : Int)) ∧ i = .int .i64 (cnt (notIn S) m : Nat) ∧ ∃ q, wr = w3.drewN q) (fun _ k _ => stepM N (intOf k))
      case atStart => exact ⟨0, Nat.zero_le _, rfl, rfl, _, rfl⟩
      case round =>
        obtain ⟨m2, hm2, rfl, rfl, q6, rfl⟩ := hrel
        have hcm2 := cnt_le (notIn S) m2
        rcases nx_cases (notIn S) N m2 with ⟨h1, h2⟩ | ⟨z, h1, h2, h3, h4, h5⟩
        · have HE2 : Hid (cnt (notIn S) N = cnt (notIn S) m2) := cnt_end (notIn S) m2 N hm2 h2
          have HA : Hid (cnt S N + cnt (notIn S) N = N) := cnt_both S N
          rw [h1]
          clear h1 h2
          go_wp2_with fail
          refine (count_any _ (HS3.out.drewN _)).mono ?_
          rintro e w7 ⟨rfl, rfl⟩
          have hA := HA.out
          rw [HE2.out] at hA
          rw [HE.out] at hA
          rw [HE.out]
          clear HE HE2 HA
          generalize cnt S m = c1 at *
          generalize cnt (notIn S) m2 = c2 at *
          have hA2 : (((c1 : Int) + (c2 : Int)) == (N : Int)) = true := beq_iff_eq.2 (by omega)
          clear hA
          go_wp2_with fail
          go_ret
          exact ⟨rfl, below_drewN HB3.out _⟩
        · have HN : Hid (cnt (notIn S) (z + 1) = cnt (notIn S) m2 + 1) := cnt_next (notIn S) m2 z h2 h4 h5
          have HM : Hid (stepM N (nx (notIn S) N ((z + 1 : Nat) : Int)) < stepM N (z : Int)) := stepM_next (notIn S) N z h3
          have h4' : S z = false := by simpa [notIn] using h4
          have HH : Hid (hasB N S (z : Int) = false) := has_nat N z S false h3 h4'
          rw [h1]
          clear h1 h5 h4 h4'
          generalize cnt (notIn S) m2 = c2 at *
          go_wp2_with fail
          refine (has_is _ false _ (HS3.out.drewN _) HH.out).mono ?_
          rintro e w7 ⟨rfl, q7, rfl⟩
          go_wp2_with fail
          rw [show ((z : Int) + 1) = ((z + 1 : Nat) : Int) from by omega]
          refine (gap_any ((z + 1 : Nat) : Int) _ (by omega) (HS3.out.drewN _) (SvAt.tab HT3.out _)).mono ?_
          rintro e w8 ⟨rfl, q8, rfl⟩
          go_wp2_with fail
          exact ⟨⟨z + 1, by omega, rfl, by rw [HN.out]; go_num, _, rfl⟩, HM.out⟩
    · have HN : Hid (cnt S (z + 1) = cnt S m + 1) := cnt_next S m z h2 h4 h5
      have HM : Hid (stepM N (nx S N ((z + 1 : Nat) : Int)) < stepM N (z : Int)) := stepM_next S N z h3
      have HH : Hid (hasB N S (z : Int) = true) := has_nat N z S true h3 h4
      rw [h1]
      clear h1 h5 h4
      generalize cnt S m = c1 at *
      go_wp2_with fail
      refine (has_is _ true _ (HS3.out.drewN _) HH.out).mono ?_
      rintro e w7 ⟨rfl, q7, rfl⟩
      go_wp2_with fail
      rw [show ((z : Int) + 1) = ((z + 1 : Nat) : Int) from by omega]
      refine (next_any ((z + 1 : Nat) : Int) _ (by omega) (HS3.out.drewN _) (SvAt.tab HT3.out _)).mono ?_
      rintro e w8 ⟨rfl, q8, rfl⟩
      go_wp2_with fail
      exact ⟨⟨z + 1, by omega, rfl, by rw [HN.out]; go_num, _, rfl⟩, HM.out⟩

set_option maxHeartbeats 400000 in
theorem steps_any (n : Int) (L : List Int) (a : Option Addr) (c : Nat) (w : World) (hT : Tab w) (hlen : L.length ≤ maxLen) (hI : IntsIn w w.heap.size (.slice a L.length c) L) :
    Calls Tryd.prog 5 #[.int .i64 n, .slice a L.length c] w fun e w' => e = .returned (.bool true) ∧ Below w.heap.size w w' := by
  unfold maxLen at hlen
  by_cases h1 : n < 1
  · have HT : Hid (Tab w) := hT
    clear hT hI
    go_enter Tryd.func5, Tryd.ntmps5
    go_wp2_with (go_at_call 7; refine (alive_any _ HT.out).mono ?_; rintro e w1 ⟨rfl, hB1⟩)
    go_ret
    exact ⟨rfl, hB1⟩
  · by_cases h2 : 300 < n
    · have HT : Hid (Tab w) := hT
      clear hT hI
      go_enter Tryd.func5, Tryd.ntmps5
      go_wp2_with (go_at_call 7; refine (alive_any _ HT.out).mono ?_; rintro e w1 ⟨rfl, hB1⟩)
      go_ret
      exact ⟨rfl, hB1⟩
    · by_cases h3 : 100 < L.length
      · have HT : Hid (Tab w) := hT
        clear hT hI
        go_enter Tryd.func5, Tryd.ntmps5
        go_wp2_with (go_at_call 7; refine (alive_any _ HT.out).mono ?_; rintro e w1 ⟨rfl, hB1⟩)
        go_ret
        exact ⟨rfl, hB1⟩
      · exact steps_main n L a c w hT (by omega) (by omega) (by omega) hI

end Go.Proofs.YthnnbhpaejemnaaDoor

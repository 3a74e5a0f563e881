/- The walk of the law SieveTwice. -/
import Derived.Test.YthnnbhpaejemnaaDoorSvN
namespace Go.Proofs.YthnnbhpaejemnaaDoor
open Go.RowKit

theorem svN_nat (n : Int) (h0 : 1 ≤ n) (h1 : n ≤ 600) : ((svN n : Nat) : Int) = n := by unfold svN; omega
theorem ownsRow_len {w : World} {base : Nat} {e : TypeId} {v : Value} {n : Nat} {xs : List Value} (h : w.ownsRow base e 1 v n xs) : ∃ a c, v = .slice a n c := by
  rcases h.2 with ⟨rfl, rfl⟩ | ⟨g, cap, cur, rfl, _⟩
  · exact ⟨none, 0, rfl⟩
  · exact ⟨_, _, rfl⟩

set_option maxHeartbeats 1000000 in
theorem twice_main (n : Int) (L : List Int) (a : Option Addr) (c : Nat) (w : World) (hT : Tab w) (hn0 : 1 ≤ n) (hn1 : n ≤ 300) (hl : L.length ≤ 60) (hI : IntsIn w w.heap.size (.slice a L.length c) L) :
    Calls Tryd.prog 6 #[.int .i64 n, .slice a L.length c] w fun e w' => e = .returned (.bool true) ∧ Below w.heap.size w w' := by
  have HT : Hid (Tab w) := hT
  have HI : Hid (IntsIn w w.heap.size (.slice a L.length c) L) := hI
  have hml : Hid (L.length ≤ maxLen) := by unfold Hid maxLen; omega
  clear hT hI
  go_enter Tryd.func6, Tryd.ntmps6
  go_wp2_with fail
  refine (alive_any _ HT.out).mono ?_
  rintro e w1 ⟨rfl, hB1⟩
  have HB1 : Hid (Below w.heap.size w w1) := hB1
  clear hB1
  go_wp2_with fail
  refine (new_any n _).mono ?_
  rintro e w2 ⟨b, bw, hb, hbw, rfl, hs, hB2⟩
  have hB2' : Below w.heap.size w w2 := HB1.out.trans (hB2.mono HB1.out.size)
  have hbw' : w.heap.size ≤ bw := Nat.le_trans HB1.out.size hbw
  have HB2 : Hid (Below w.heap.size w w2) := hB2'
  clear hB2 hB2' HB1 hb hbw
  obtain ⟨t1, t2, t3, t4, t5, t6, t7⟩ := twice (svN n) L
  obtain ⟨a0, ha0⟩ : ∃ a0, a0 = putC (svN n) (fun _ => false) L := ⟨_, rfl⟩
  obtain ⟨S1, hS1⟩ : ∃ S1, S1 = putS (svN n) (fun _ => false) L := ⟨_, rfl⟩
  have ha1 : a0 ≤ 60 := by rw [ha0]; exact Nat.le_trans (putC_le _ _ _) hl
  rw [← hS1] at t1 t2 t3 t4 t5
  rw [← ha0] at t3 t5
  have T1 : Hid (putS (svN n) S1 L = S1) := t1
  have T2 : Hid (putC (svN n) S1 L = 0) := t2
  have T3 : Hid (cnt S1 (svN n) = a0) := t3
  have T4 : Hid (cutS (svN n) S1 L = fun _ => false) := t4
  have T5 : Hid (cutC (svN n) S1 L = a0) := t5
  have T6 : Hid (cutS (svN n) (fun _ => false) L = fun _ => false) := t6
  have T7 : Hid (cutC (svN n) (fun _ => false) L = 0) := t7
  have T8 : Hid (putC (svN n) (fun _ => false) L = a0) := ha0.symm
  have T9 : Hid (putS (svN n) (fun _ => false) L = S1) := hS1.symm
  clear t1 t2 t3 t4 t5 t6 t7 ha0 hS1
  go_wp2_with fail
  refine (put_any L _ _ hs hbw' (HI.out.below HB2.out) hml.out).mono ?_
  rintro e w3 ⟨rfl, hs3, hB3⟩
  rw [T8.out]
  rw [T9.out] at hs3
  have HB3 : Hid (Below w.heap.size w w3) := HB2.out.trans (hB3.below hbw' HB2.out.size)
  clear hB3 hs HB2
  go_wp2_with fail
  refine (put_any L _ _ hs3 hbw' (HI.out.below HB3.out) hml.out).mono ?_
  rintro e w4 ⟨rfl, hs4, hB4⟩
  rw [T2.out]
  rw [T1.out] at hs4
  have HB4 : Hid (Below w.heap.size w w4) := HB3.out.trans (hB4.below hbw' HB3.out.size)
  clear hB4 hs3 HB3
  go_wp2_with fail
  refine (count_any _ hs4).mono ?_
  rintro e w5 ⟨rfl, rfl⟩
  rw [T3.out]
  go_wp2_with fail
  refine (cut_any L _ _ hs4 hbw' (HI.out.below HB4.out) hml.out).mono ?_
  rintro e w6 ⟨rfl, hs6, hB6⟩
  rw [T5.out]
  rw [T4.out] at hs6
  have HB6 : Hid (Below w.heap.size w w6) := HB4.out.trans (hB6.below hbw' HB4.out.size)
  clear hB6 hs4 HB4
  go_wp2_with fail
  refine (count_any _ hs6).mono ?_
  rintro e w7 ⟨rfl, rfl⟩
  rw [cnt_empty]
  go_wp2_with fail
  refine (cut_any L _ _ hs6 hbw' (HI.out.below HB6.out) hml.out).mono ?_
  rintro e w8 ⟨rfl, hs8, hB8⟩
  rw [T7.out]
  rw [T6.out] at hs8
  have HB8 : Hid (Below w.heap.size w w8) := HB6.out.trans (hB8.below hbw' HB6.out.size)
  clear hB8 hs6 HB6
  go_wp2_with fail
  refine (put_any L _ _ hs8 hbw' (HI.out.below HB8.out) hml.out).mono ?_
  rintro e w9 ⟨rfl, hs9, hB9⟩
  rw [T8.out]
  rw [T9.out] at hs9
  have HB9 : Hid (Below w.heap.size w w9) := HB8.out.trans (hB9.below hbw' HB8.out.size)
  clear hB9 hs8 HB8
  go_wp2_with fail
  refine (all_any _ hs9 (HT.out.below HB9.out HT.out.size)).mono ?_
  rintro e w10 ⟨v, rfl, hown, hB10⟩
  rw [T3.out] at hown
  obtain ⟨ad, cc, rfl⟩ := ownsRow_len hown
  have HB10 : Hid (Below w.heap.size w w10) := HB9.out.trans (hB10.mono HB9.out.size)
  clear hB10 hs9 HB9 hown
  go_wp2_with fail
  go_ret
  exact ⟨rfl, HB10.out⟩

set_option maxHeartbeats 400000 in
theorem twice_any (n : Int) (L : List Int) (a : Option Addr) (c : Nat) (w : World) (hT : Tab w) (hlen : L.length ≤ maxLen) (hI : IntsIn w w.heap.size (.slice a L.length c) L) :
    Calls Tryd.prog 6 #[.int .i64 n, .slice a L.length c] w fun e w' => e = .returned (.bool true) ∧ Below w.heap.size w w' := by
  unfold maxLen at hlen
  by_cases h1 : n < 1
  · have HT : Hid (Tab w) := hT
    clear hT hI
    go_enter Tryd.func6, Tryd.ntmps6
    go_wp2_with (go_at_call 7; refine (alive_any _ HT.out).mono ?_; rintro e w1 ⟨rfl, hB1⟩)
    go_ret
    exact ⟨rfl, hB1⟩
  · by_cases h2 : 300 < n
    · have HT : Hid (Tab w) := hT
      clear hT hI
      go_enter Tryd.func6, Tryd.ntmps6
      go_wp2_with (go_at_call 7; refine (alive_any _ HT.out).mono ?_; rintro e w1 ⟨rfl, hB1⟩)
      go_ret
      exact ⟨rfl, hB1⟩
    · by_cases h3 : 60 < L.length
      · have HT : Hid (Tab w) := hT
        clear hT hI
        go_enter Tryd.func6, Tryd.ntmps6
        go_wp2_with (go_at_call 7; refine (alive_any _ HT.out).mono ?_; rintro e w1 ⟨rfl, hB1⟩)
        go_ret
        exact ⟨rfl, hB1⟩
      · exact twice_main n L a c w hT (by omega) (by omega) (by omega) hI

end Go.Proofs.YthnnbhpaejemnaaDoor

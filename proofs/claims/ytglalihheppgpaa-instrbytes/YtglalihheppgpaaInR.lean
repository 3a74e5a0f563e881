/- The walk of InstrBytes. -/
import Derived.Test.YtglalihheppgpaaInP
import Derived.Test.YtglalihheppgpaaInQ
import Derived.Test.YtglalihheppgpaaKiJ
import Derived.Test.YtglalihheppgpaaKiK
namespace Go.Proofs.Ytglalihheppgpaa
open Go.RowKit

theorem ibook_new (w : World) (B : Nat) (hB : B ≤ w.heap.size) :
    BookAt (w.alloc (.cells #[.slice none 0 0, .slice none 0 0, .slice none 0 0, .slice none 0 0, .slice none 0 0, .slice none 0 0, .slice none 0 0, .slice none 0 0, .slice none 0 0, .slice none 0 0] 36)) B w.heap.size (.slice none 0 0) (.slice none 0 0) [] [] := by
  refine ⟨?_, hB, World.ownsRow_nil _ _ _ _, World.ownsRow_nil _ _ _ _, Or.inl rfl, fun p hp => by simp at hp, fun p hp => by simp at hp, List.Pairwise.nil, fun p hp => by simp at hp⟩
  have := World.rowIs_alloc w #[.slice none 0 0, .slice none 0 0, .slice none 0 0, .slice none 0 0, .slice none 0 0, .slice none 0 0, .slice none 0 0, .slice none 0 0, .slice none 0 0, .slice none 0 0] 36 (bkCells (.slice none 0 0) (.slice none 0 0)) (fun i hi => by
    simp at hi
    have : i = 0 ∨ i = 1 ∨ i = 2 ∨ i = 3 ∨ i = 4 ∨ i = 5 ∨ i = 6 ∨ i = 7 ∨ i = 8 ∨ i = 9 := by omega
    rcases this with rfl | rfl | rfl | rfl | rfl | rfl | rfl | rfl | rfl | rfl <;> rfl)
  exact this

theorem bytes_big (L : List Ins) (a : Option Addr) (c : Nat) (b : ByteArray) (w : World) (h : 80 < L.length ∨ 600 < b.size) (h63 : L.length ≤ maxLen) (hb63 : b.size ≤ maxLen) :
    Calls Try.prog 4 #[.slice a L.length c, .string b] w fun e w' => e = .returned (.bool true) ∧ Below w.heap.size w w' := by
  unfold maxLen at h63 hb63
  by_cases h1 : 80 < L.length
  · go_enter Try.func4, Try.ntmps4
    go_wp2_with fail
    refine (alive_any _).mono ?_
    rintro e w1 ⟨rfl, hB⟩
    go_wp2_with fail
    go_ret
    exact ⟨rfl, hB⟩
  · have h2 : 600 < b.size := by omega
    go_enter Try.func4, Try.ntmps4
    go_wp2_with fail
    refine (alive_any _).mono ?_
    rintro e w1 ⟨rfl, hB⟩
    go_wp2_with fail
    go_ret
    exact ⟨rfl, hB⟩

/-- Where the statement's lists lie: the argument and what was lent in front of H. -/
structure Fx2 (H : World) (g cap : Nat) (v : Value) (L : List Ins) : Prop where
  own : H.ownsRow 0 23 4 (.slice (some ⟨g, 0, none⟩) (L.length + 1) cap) (L.length + 1) ((L ++ [mark77]).flatMap Ins.cs)
  src : SrcI H v L
theorem Fx2.below {H w : World} {g cap : Nat} {v : Value} {L : List Ins} (h : Fx2 H g cap v L) (hb : Below H.heap.size H w) : Fx2 w g cap v L :=
  ⟨(Ty.of_below (K := []) (B := 0) hb).own h.own (by simp), h.src.below hb⟩

set_option maxRecDepth 100000 in
set_option maxHeartbeats 4000000 in
theorem bytes_main (L : List Ins) (a : Option Addr) (c : Nat) (b : ByteArray) (w : World) (hl : L.length ≤ 80) (hb : b.size ≤ 600) (hs : SrcI w (.slice a L.length c) L) :
    Calls Try.prog 4 #[.slice a L.length c, .string b] w fun e w' => e = .returned (.bool true) ∧ Below w.heap.size w w' := by
  have HS : Hid (SrcI w (.slice a L.length c) L) := hs
  obtain ⟨ok, hok⟩ : ∃ ok, Hid (L.all fit = ok) := ⟨_, rfl⟩
  obtain ⟨is, his⟩ : ∃ is, Hid (rdOk b = is) := ⟨_, rfl⟩
  obtain ⟨S, hS⟩ : ∃ S, Hid (layR L = S) := ⟨_, rfl⟩
  obtain ⟨le, hle⟩ : ∃ le, Hid (layE L = le) := ⟨_, rfl⟩
  obtain ⟨re, hre⟩ : ∃ re, Hid (readE b = re) := ⟨_, rfl⟩
  obtain ⟨R, hR⟩ : ∃ R, Hid (readR b = R) := ⟨_, rfl⟩
  have hRl : R.length ≤ 90 := by
    rw [← hR.out]; unfold readR
    split
    · rw [rdL_len]; omega
    · simp
  clear hs
  go_enter Try.func4, Try.ntmps4
  go_wp2_with fail
  refine (alive_any _).mono ?_
  rintro e w1 ⟨rfl, hB1⟩
  have HS1 : Hid (SrcI w1 (.slice a L.length c) L) := HS.out.below hB1
  have HB1 : Hid (Below w.heap.size w w1) := hB1
  clear hB1 HS
  go_wp2_with fail
  refine (lent_anyI L a c _ (by omega) HS1.out).mono ?_
  rintro e w2 ⟨g, cap, rfl, hm, hB2⟩
  have HF : Hid (Fx2 w2 g cap (.slice a L.length c) L) := ⟨own_base hm (Nat.zero_le _), HS1.out.below hB2⟩
  have HB2 : Hid (Below w.heap.size w w2) := HB1.out.trans (hB2.mono HB1.out.size)
  have hm2 := hm
  rw [List.flatMap_append] at hm2
  have HSM : Hid (SrcI w2 (.slice (some ⟨g, 0, none⟩) L.length cap) L) := srcI_of_own (own_prefixG (n := L.length) (m := 1) hm2 (flI_len L))
  clear hm hm2 hB2 HS1 HB1
  go_wp2_with fail
  refine (lay_any L _ _ (by omega) HSM.out).mono ?_
  rintro e w3 ⟨rfl, hB3⟩
  rw [hS.out, hle.out]
  have HB3 : Hid (Below w2.heap.size w2 w3) := hB3
  clear hB3 HSM
  go_wp2_with fail
  refine (refLay_any L _ _ (by omega) (HF.out.below HB3.out).src).mono ?_
  rintro e w4 ⟨rfl, hB4⟩
  rw [hS.out, hok.out]
  have HB4 : Hid (Below w2.heap.size w2 w4) := HB3.out.trans (hB4.mono HB3.out.size)
  clear hB4 HB3
  go_upto_region 6 with (fail)
  go_cut [58] (fun v wk => v = .bool false ∧ wk = w4)
  case first =>
    have hle' := hle.out
    unfold layE at hle'
    rw [hok.out] at hle'
    cases ok with
    | true =>
      have e : le = 0 := by rw [← hle']; rfl
      subst e
      clear hle'
      go_wp2
      go_meet
      case rel => exact ⟨rfl, rfl⟩
    | false =>
      have e : le = 1 := by rw [← hle']; rfl
      subst e
      clear hle'
      go_wp2
      go_meet
      case rel => exact ⟨rfl, rfl⟩
  case rest =>
    obtain ⟨rfl, hw4⟩ := hcut
    rw [hw4]
    clear hw4
    have HB5 : Hid (Below w2.heap.size w2 (w4.alloc (.cells #[.slice none 0 0, .slice none 0 0, .slice none 0 0, .slice none 0 0, .slice none 0 0, .slice none 0 0, .slice none 0 0, .slice none 0 0, .slice none 0 0, .slice none 0 0] 36))) := HB4.out.alloc HB4.out.size _
    have HK5 : Hid (BookAt (w4.alloc (.cells #[.slice none 0 0, .slice none 0 0, .slice none 0 0, .slice none 0 0, .slice none 0 0, .slice none 0 0, .slice none 0 0, .slice none 0 0, .slice none 0 0, .slice none 0 0] 36)) w2.heap.size w4.heap.size (.slice none 0 0) (.slice none 0 0) [] []) := ibook_new w4 _ HB4.out.size
    clear HB4
    go_wp2_with fail
    refine (readI_any b _ (by omega)).mono ?_
    rintro e w6 ⟨x, rfl, hx, hB6⟩
    rw [hR.out] at hx
    rw [hre.out]
    have HB6 : Hid (Below w2.heap.size w2 w6) := HB5.out.trans (hB6.mono HB5.out.size)
    have HK6 : Hid (BookAt w6 w2.heap.size w4.heap.size (.slice none 0 0) (.slice none 0 0) [] []) := HK5.out.below hB6
    have HX6 : Hid (OwnInts w6 w2.heap.size (x, R)) := own_base hx HB5.out.size
    clear hx hB6 HB5 HK5
    generalize w4.heap.size = bk at *
    obtain ⟨xa, xc, rfl⟩ : ∃ xa xc, x = .slice xa R.length xc := own_lenG HX6.out
    go_wp2_with fail
    refine (refRead_any b _ (by omega)).mono ?_
    rintro e w7 ⟨y, rfl, hy, hB7⟩
    rw [hR.out] at hy
    rw [his.out]
    have HB7 : Hid (Below w2.heap.size w2 w7) := HB6.out.trans (hB7.mono HB6.out.size)
    have HK7 : Hid (BookAt w7 w2.heap.size bk (.slice none 0 0) (.slice none 0 0) [] []) := HK6.out.below hB7
    have HX7 : Hid (OwnInts w7 w2.heap.size (.slice xa R.length xc, R)) := HX6.out.below hB7
    have HY7 : Hid (OwnInts w7 w2.heap.size (y, R)) := own_base hy HB6.out.size
    clear hy hB7 HB6 HK6 HX6
    obtain ⟨ya, yc, rfl⟩ : ∃ ya yc, y = .slice ya R.length yc := own_lenG HY7.out
    go_wp2_with fail
    refine (ints_any2 R _ _ HK7.out HB7.out.size (by omega) (by decide) (by decide) HX7.out (fun p hp => by simp at hp) (fun p hp => by simp at hp)).mono ?_
    rintro e w8 ⟨rfl, vi, vw, v2, hb8, ht8, _⟩
    have HK8 : Hid (BookAt w8 w2.heap.size bk vi vw [(.slice xa R.length xc, R)] [(v2, R)]) := hb8
    have HY8 : Hid (OwnInts w8 w2.heap.size (.slice ya R.length yc, R)) := ht8.own HY7.out (by decide)
    have HB8 : Hid (Below w2.heap.size w2 w8) := HB7.out.trans (ht8.below HB7.out.size)
    clear hb8 ht8 HK7 HX7 HY7 HB7
    have HSX : Hid (SrcI w8 (.slice xa R.length xc) R ∧ SrcI w8 (.slice ya R.length yc) R) := ⟨srcI_of_own (HK8.out.ri (.slice xa R.length xc, R) (by simp)), srcI_of_own HY8.out⟩
    go_upto_region 12 with (fail)
    go_cut [91] (fun v wk => v = .bool false ∧ ∃ q, wk = w8.drewN q)
    case first =>
      have hre' := hre.out
      unfold readE at hre'
      rw [his.out] at hre'
      cases is with
      | true =>
        have e : re = 0 := by rw [← hre']; rfl
        subst e
        clear hre'
        go_wp2_with fail
        refine (same_anyI R _ _ _ (by unfold maxLen; omega) HSX.out.1 HSX.out.2).mono ?_
        rintro e w9 ⟨rfl, q, rfl⟩
        go_wp2
        go_meet
        case rel => exact ⟨rfl, q, rfl⟩
      | false =>
        have e : re = 2 := by rw [← hre']; rfl
        subst e
        clear hre'
        go_wp2_with fail
        refine (same_anyI R _ _ _ (by unfold maxLen; omega) HSX.out.1 HSX.out.2).mono ?_
        rintro e w9 ⟨rfl, q, rfl⟩
        go_wp2
        go_meet
        case rel => exact ⟨rfl, q, rfl⟩
    case rest =>
      obtain ⟨rfl, q, hq⟩ := hcut
      have HK9 : Hid (BookAt wc w2.heap.size bk vi vw [(.slice xa R.length xc, R)] [(v2, R)]) := by rw [hq]; exact HK8.out.drewN q
      have HB9 : Hid (Below w2.heap.size w2 wc) := by rw [hq]; exact below_drewN HB8.out q
      clear hq HK8 HY8 HB8 HSX
      cases ok with
      | false =>
        have HF9 : Hid (Fx2 wc g cap (.slice a L.length c) L) := HF.out.below HB9.out
        go_wp2_with fail
        refine (stays_anyI L _ g cap 0 _ (by omega) HF9.out.own HF9.out.src).mono ?_
        rintro e w10 ⟨rfl, q2, rfl⟩
        go_wp2_with fail
        refine (apart_any (wc.drewN q2) (HK9.out.drewN q2) HB9.out.size rfl (by simp) (by intro p hp; simp at hp; subst hp; exact Nat.le_trans hRl (by decide))).mono ?_
        rintro e w11 ⟨rfl, hB11⟩
        have HBf : Hid (Below w.heap.size w w11) := HB2.out.trans (((below_drewN HB9.out q2).trans hB11).mono HB2.out.size)
        clear hB11
        go_wp2_with fail
        go_ret
        exact ⟨rfl, HBf.out⟩
      | true =>
        have hSL : S = layS L := by rw [← hS.out]; unfold layR; rw [hok.out]; rfl
        obtain ⟨hz1, hz2⟩ := rd_whole hok.out
        rw [← hSL] at hz1 hz2
        have hSz : S.size = 7 * L.length := by rw [hSL]; exact layS_size L
        have HZ : Hid (readR S = L ∧ readE S = 0) := ⟨hz1, hz2⟩
        clear hSL hz1 hz2
        go_wp2_with fail
        refine (readI_any S _ (by omega)).mono ?_
        rintro e w10 ⟨z, rfl, hz, hB10⟩
        rw [HZ.out.1] at hz
        rw [HZ.out.2]
        have HZ10 : Hid (OwnInts w10 w2.heap.size (z, L) ∧ Apt (.slice xa R.length xc) z ∧ Apt z v2) := ⟨own_base hz HB9.out.size, apt_fresh (HK9.out.ri (.slice xa R.length xc, R) (by simp)) hz (Nat.le_refl _), (apt_fresh (HK9.out.rc (v2, R) (by simp)) hz (Nat.le_refl _)).symm'⟩
        have HK10 : Hid (BookAt w10 w2.heap.size bk vi vw [(.slice xa R.length xc, R)] [(v2, R)]) := HK9.out.below hB10
        have HB10 : Hid (Below w2.heap.size w2 w10) := HB9.out.trans (hB10.mono HB9.out.size)
        clear hz hB10 HK9 HB9
        obtain ⟨za, zc, rfl⟩ : ∃ za zc, z = .slice za L.length zc := own_lenG HZ10.out.1
        go_wp2_with fail
        refine (ints_any2 L _ _ HK10.out HB10.out.size (by omega) (by simp) (by simp) HZ10.out.1 (fun p hp => by simp at hp; subst hp; exact HZ10.out.2.1) (fun p hp => by simp at hp; subst hp; exact HZ10.out.2.2)).mono ?_
        rintro e w11 ⟨rfl, vi', vw', v3, hb11, ht11, _⟩
        have HK11 : Hid (BookAt w11 w2.heap.size bk vi' vw' [(.slice xa R.length xc, R), (.slice za L.length zc, L)] [(v2, R), (v3, L)]) := hb11
        have HB11 : Hid (Below w2.heap.size w2 w11) := HB10.out.trans (ht11.below HB10.out.size)
        clear hb11 ht11 HK10 HB10 HZ10
        have HF11 : Hid (Fx2 w11 g cap (.slice a L.length c) L) := HF.out.below HB11.out
        have HSZ : Hid (SrcI w11 (.slice za L.length zc) L) := srcI_of_own (HK11.out.ri (.slice za L.length zc, L) (by simp))
        go_wp2_with fail
        refine (same_anyI L _ _ _ (by unfold maxLen; omega) HSZ.out HF11.out.src).mono ?_
        rintro e w12 ⟨rfl, q3, rfl⟩
        go_wp2_with fail
        refine (stays_anyI L _ g cap 0 (w11.drewN q3) (by omega) HF11.out.own (HF11.out.src.drewN q3)).mono ?_
        rintro e w13 ⟨rfl, q4, rfl⟩
        go_wp2_with fail
        refine (apart_any (w11.drewN (q3 + q4)) (HK11.out.drewN (q3 + q4)) HB11.out.size rfl (by simp) (by intro p hp; simp at hp; rcases hp with rfl | rfl <;> (first | exact Nat.le_trans hRl (by decide) | exact Nat.le_trans hl (by decide)))).mono ?_
        rintro e w14 ⟨rfl, hB14⟩
        have HBf : Hid (Below w.heap.size w w14) := HB2.out.trans (((below_drewN HB11.out (q3 + q4)).trans hB14).mono HB2.out.size)
        clear hB14
        go_wp2_with fail
        go_ret
        exact ⟨rfl, HBf.out⟩

theorem ibytes_walk (L : List Ins) (a : Option Addr) (c : Nat) (b : ByteArray) (w : World) (h63 : L.length ≤ maxLen) (hb63 : b.size ≤ maxLen) (hs : SrcI w (.slice a L.length c) L) :
    Calls Try.prog 4 #[.slice a L.length c, .string b] w fun e w' => e = .returned (.bool true) ∧ Below w.heap.size w w' := by
  by_cases h : 80 < L.length ∨ 600 < b.size
  · exact bytes_big L a c b w h h63 hb63
  · exact bytes_main L a c b w (by omega) (by omega) hs

end Go.Proofs.Ytglalihheppgpaa

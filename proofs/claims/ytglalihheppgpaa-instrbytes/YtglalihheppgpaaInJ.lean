/- The walk of InstrPrefix. -/
import Derived.Test.YtglalihheppgpaaInI
import Derived.Laws.StructEq
namespace Go.Proofs.Ytglalihheppgpaa
open Go.RowKit

theorem prefix_big (L : List Ins) (a : Option Addr) (c : Nat) (k : Int) (w : World) (h : 60 < L.length) (h63 : L.length ≤ maxLen) :
    Calls Try.prog 5 #[.slice a L.length c, .int .i64 k] w fun e w' => e = .returned (.bool true) ∧ Below w.heap.size w w' := by
  unfold maxLen at h63
  go_enter Try.func5, Try.ntmps5
  go_wp2_with fail
  refine (alive_any _).mono ?_
  rintro e w1 ⟨rfl, hB⟩
  go_wp2_with fail
  go_ret
  exact ⟨rfl, hB⟩

theorem prefix_bad (L : List Ins) (a : Option Addr) (c : Nat) (k : Int) (w : World) (h : L.length ≤ 60) (hs : SrcI w (.slice a L.length c) L) (hf : L.all fit = false) :
    Calls Try.prog 5 #[.slice a L.length c, .int .i64 k] w fun e w' => e = .returned (.bool true) ∧ Below w.heap.size w w' := by
  have HS : Hid (SrcI w (.slice a L.length c) L) := hs
  have eR : layR L = ⟨#[]⟩ := by unfold layR; rw [hf]; rfl
  have eE : layE L = 1 := by unfold layE; rw [hf]; rfl
  have HE : Hid (layR L = ⟨#[]⟩ ∧ layE L = 1) := ⟨eR, eE⟩
  clear hs hf eR eE
  go_enter Try.func5, Try.ntmps5
  go_wp2_with fail
  refine (alive_any _).mono ?_
  rintro e w1 ⟨rfl, hB⟩
  have HS1 : Hid (SrcI w1 (.slice a L.length c) L) := HS.out.below hB
  have HB1 : Hid (Below w.heap.size w w1) := hB
  clear hB
  go_wp2_with fail
  refine (lay_any L _ _ (by omega) HS1.out).mono ?_
  rintro e w2 ⟨rfl, hB2⟩
  rw [HE.out.1, HE.out.2]
  have HB2 : Hid (Below w.heap.size w w2) := HB1.out.trans (hB2.mono HB1.out.size)
  clear hB2
  go_wp2_with fail
  go_ret
  exact ⟨ret_bool (by first | rfl | decide +kernel), HB2.out⟩

/-- A list of instructions that is not empty stands somewhere. -/
theorem SrcI.some {w : World} {a : Option Addr} {n c j : Nat} {L : List Ins} {i : Ins} (h : SrcI w (.slice a n c) L) (hj : L[j]? = some i) : ∃ b off, a = some ⟨b, off, none⟩ ∧ b < w.heap.size ∧ InsAt w b (off + j * 4) i := by
  rcases h with ⟨rfl, _⟩ | ⟨b, off, c', h1, h2, h3⟩
  · simp at hj
  · cases h1
    exact ⟨b, off, rfl, h2, h3 j i hj⟩

theorem tmod_range (k : Int) (z : Nat) : -(z : Int) ≤ k.tmod ((z : Int) + 1) ∧ k.tmod ((z : Int) + 1) ≤ z := by
  have h1 := Int.tmod_lt_of_pos k (show (0 : Int) < (z : Int) + 1 by omega)
  have h2 := Int.lt_tmod_of_pos k (show (0 : Int) < (z : Int) + 1 by omega)
  omega

set_option maxRecDepth 100000 in
set_option maxHeartbeats 1000000 in
theorem prefix_good (L : List Ins) (a : Option Addr) (c : Nat) (k x : Int) (z K : Nat) (s : ByteArray) (w : World) (h : L.length ≤ 60) (hs : SrcI w (.slice a L.length c) L) (hss : Hid (layR L = s ∧ layE L = 0)) (hsz : s.size = z) (hzb : z ≤ 420)
    (hx : k.tmod ((z : Int) + 1) = x) (hxr : -(z : Int) ≤ x ∧ x ≤ z) (hK : (x + (z : Int) + 1).tmod ((z : Int) + 1) = (K : Int)) (hKz : K ≤ z)
    (hd : (¬ (K : Int) % 7 = 0 ∧ Hid (readR (s.extract 0 K) = [] ∧ readE (s.extract 0 K) = 2)) ∨ ((K : Int) % 7 = 0 ∧ ∃ m : Nat, m ≤ L.length ∧ (K : Int) / 7 = (m : Int) ∧ Hid (readR (s.extract 0 K) = L.take m ∧ readE (s.extract 0 K) = 0))) :
    Calls Try.prog 5 #[.slice a L.length c, .int .i64 k] w fun e w' => e = .returned (.bool true) ∧ Below w.heap.size w w' := by
  have HS : Hid (SrcI w (.slice a L.length c) L) := hs
  have hex : (s.extract 0 K).size ≤ 7000 := by rw [ByteArray.size_extract]; omega
  have HEX : Hid ((s.extract 0 K).size ≤ 7000) := hex
  clear hs hex
  go_enter Try.func5, Try.ntmps5
  go_wp2_with fail
  refine (alive_any _).mono ?_
  rintro e w1 ⟨rfl, hB⟩
  have HS1 : Hid (SrcI w1 (.slice a L.length c) L) := HS.out.below hB
  have HB1 : Hid (Below w.heap.size w w1) := hB
  clear hB HS
  go_wp2_with fail
  refine (lay_any L _ _ (by omega) HS1.out).mono ?_
  rintro e w2 ⟨rfl, hB2⟩
  rw [hss.out.1, hss.out.2]
  have HS2 : Hid (SrcI w2 (.slice a L.length c) L) := HS1.out.below hB2
  have HB2 : Hid (Below w.heap.size w w2) := HB1.out.trans (hB2.mono HB1.out.size)
  clear hB2 HS1 HB1
  go_wp2_with fail
  refine (readI_any _ _ HEX.out).mono ?_
  rintro e w3 ⟨v, rfl, hown, hB3⟩
  have HS3 : Hid (SrcI w3 (.slice a L.length c) L) := HS2.out.below hB3
  have HB3 : Hid (Below w.heap.size w w3) := HB2.out.trans (hB3.mono HB2.out.size)
  clear hB3 HS2 HB2 hx hxr hK
  rcases hd with ⟨hd1, hd2⟩ | ⟨hd1, m, hm, hd2, hd3⟩
  · rw [hd2.out.1] at hown
    rw [hd2.out.2]
    obtain ⟨va, vc, rfl⟩ := (srcI_of_own hown).len
    clear hown
    go_wp2_with fail
    go_ret
    exact ⟨rfl, HB3.out⟩
  · rw [hd3.out.1] at hown
    rw [hd3.out.2]
    have hsv := srcI_of_own hown
    have hml : (L.take m).length = m := by rw [List.length_take]; omega
    obtain ⟨va, vc, rfl⟩ := hsv.len
    rw [hml] at hsv ⊢
    have HV : Hid (SrcI w3 (.slice va m vc) (L.take m)) := hsv
    clear hsv hown hml
    go_wp2_with fail
    clear hd1 hd2
    go_loopw [9] (fun i wr => ∃ j : Nat, j ≤ m ∧ i = .int .i64 j ∧ ∃ q, wr = w3.drewN q) (fun i _ => m - (intOf i).toNat)
    case atStart => exact ⟨0, Nat.zero_le _, rfl, 0, rfl⟩
    case round =>
      obtain ⟨j, hj, rfl, hq⟩ := hrel
      by_cases hlt : j < m
      · obtain ⟨i, hi⟩ : ∃ i, L[j]? = some i := ⟨_, List.getElem?_eq_getElem (by omega)⟩
        have hi' : (L.take m)[j]? = some i := by rw [List.getElem?_take, if_pos hlt]; exact hi
        obtain ⟨b1, o1, rfl, _, g1⟩ := HV.out.some hi'
        obtain ⟨b2, o2, rfl, _, g2⟩ := HS3.out.some hi
        have g1' : InsAt wr b1 (o1 + j * 4) i := by obtain ⟨q, rfl⟩ := hq; exact g1
        have g2' : InsAt wr b2 (o2 + j * 4) i := by obtain ⟨q, rfl⟩ := hq; exact g2
        obtain ⟨c0, c1, c2, c3⟩ := g1'
        obtain ⟨d0, d1, d2, d3⟩ := g2'
        have HQ : Hid (∃ q, wr = w3.drewN q) := hq
        have hlt1 : (j : Int) < (m : Int) := by omega
        have hlt2 : (j : Int) < (L.length : Int) := by omega
        clear hq g1 g2 hi hi'
        go_upto_region 15 with (fail)
        go_quiet (fail)
        go_wp2
        go_roundw
        case rel => exact ⟨j + 1, by omega, by go_num, drewN_more HQ.out _⟩
        case measure => simp [intOf]; omega
      · have HQ : Hid (∃ q, wr = w3.drewN q) := hq
        clear hq
        go_wp2_with fail
        refine (refKnown_any 0 _).mono ?_
        rintro e w4 ⟨rfl, rfl⟩
        rw [show kn 0 = true from rfl]
        go_wp2_with fail
        go_ret
        obtain ⟨q, rfl⟩ := HQ.out
        exact ⟨rfl, below_drewN HB3.out q⟩

theorem prefix_walk (L : List Ins) (a : Option Addr) (c : Nat) (k : Int) (w : World) (h63 : L.length ≤ maxLen) (hs : SrcI w (.slice a L.length c) L) :
    Calls Try.prog 5 #[.slice a L.length c, .int .i64 k] w fun e w' => e = .returned (.bool true) ∧ Below w.heap.size w w' := by
  by_cases h : L.length ≤ 60
  · cases hf : L.all fit with
    | false => exact prefix_bad L a c k w h hs hf
    | true =>
      have hsz := layS_size L
      have hr := tmod_range k (7 * L.length)
      have hn : (0 : Int) ≤ (k.tmod (((7 * L.length : Nat) : Int) + 1) + ((7 * L.length : Nat) : Int) + 1) := by omega
      have hK0 := Int.tmod_nonneg (((7 * L.length : Nat) : Int) + 1) hn
      have hK1 := Int.tmod_lt_of_pos (k.tmod (((7 * L.length : Nat) : Int) + 1) + ((7 * L.length : Nat) : Int) + 1) (show (0 : Int) < ((7 * L.length : Nat) : Int) + 1 by omega)
      obtain ⟨K, hK⟩ : ∃ K : Nat, (k.tmod (((7 * L.length : Nat) : Int) + 1) + ((7 * L.length : Nat) : Int) + 1).tmod (((7 * L.length : Nat) : Int) + 1) = (K : Int) := ⟨_, (Int.toNat_of_nonneg hK0).symm⟩
      rw [hK] at hK0 hK1
      refine prefix_good L a c k _ (7 * L.length) K (layS L) w h hs ⟨by unfold layR; rw [hf]; rfl, by unfold layE; rw [hf]; rfl⟩ hsz (by omega) rfl hr hK (by omega) ?_
      by_cases h7 : K % 7 = 0
      · refine Or.inr ⟨by omega, K / 7, by omega, by omega, ?_⟩
        have := rd_part (L := L) (m := K / 7) (by omega) hf
        rw [show 7 * (K / 7) = K from by omega] at this
        exact this
      · refine Or.inl ⟨by omega, ?_⟩
        exact rd_cut (by rw [ByteArray.size_extract, hsz]; omega)
  · exact prefix_big L a c k w (by omega) h63

end Go.Proofs.Ytglalihheppgpaa

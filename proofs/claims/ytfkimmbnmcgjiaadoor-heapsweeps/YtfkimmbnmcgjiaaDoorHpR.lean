/- The walk of the law HeapFields. -/
import Derived.Test.YtfkimmbnmcgjiaaDoorHpQ
namespace Go.Proofs.YtfkimmbnmcgjiaaDoor
open Go.RowKit

set_option maxRecDepth 100000 in
set_option maxHeartbeats 1000000 in
theorem fields_few (k v : Int) (a : Option Addr) (l c : Nat) (w : World) (hT : Tab w) (h : l < 1 ∨ 8 < l) :
    Calls Tryd.prog 5 #[.slice a l c, .int .i64 k, .int .i64 v] w fun e w' => e = .returned (.bool true) ∧ Below w.heap.size w w' := by
  have HT : Hid (Tab w) := hT
  clear hT
  by_cases h1 : (l : Int) < 1
  · go_enter Tryd.func5, Tryd.ntmps5
    go_wp2_with fail
    refine (halive_any _ HT.out).mono ?_
    rintro e w1 ⟨rfl, hB1⟩
    go_wp2_with fail
    go_ret
    exact ⟨rfl, hB1⟩
  · have h2 : 8 < (l : Int) := by omega
    go_enter Tryd.func5, Tryd.ntmps5
    go_wp2_with fail
    refine (halive_any _ HT.out).mono ?_
    rintro e w1 ⟨rfl, hB1⟩
    go_wp2_with fail
    go_ret
    exact ⟨rfl, hB1⟩

theorem of_small {m : Nat} (h1 : 1 ≤ m) (h2 : m ≤ 16) : ofN (m : Int) ≠ -1 := by
  have hall : ∀ j : Fin 17, 1 ≤ j.val → ofN (j.val : Int) ≠ -1 := by decide +kernel
  exact hall ⟨m, by omega⟩ h1
theorem zero_clr {W : Nat → Int} (h : ∀ x, W x = 0) (o n : Nat) : ∀ x, clrF W o n x = 0 := by
  intro x
  unfold clrF
  split
  · rfl
  · exact h x
theorem lens_at {Ls : List (List Int)} {j : Nat} (h : j < Ls.length) : (lens Ls).getD j 0 = ((Ls.getD j []).length : Int) := by
  unfold lens
  simp [List.getD, h]
theorem lens_len (Ls : List (List Int)) : (lens Ls).length = Ls.length := by unfold lens; simp
/-- Inside the first object no other one begins. -/
theorem no_beg1 {P : Nat → Option PSt} {pp : PSt} (hp : P 0 = some pp) (h1 : 1 < pp.sz) : NoBeg P 1048577 := by
  intro k x p hi
  have h2 := hi.hp
  have h3 := hi.he
  unfold adr at h3
  have hk : k = 0 ∧ x * p.sz = 1 := by
    generalize x * p.sz = y at *
    omega
  obtain ⟨rfl, h4⟩ := hk
  rw [hp] at h2
  cases h2
  have : 1 < x * pp.sz ∨ x = 0 := by
    rcases Nat.eq_zero_or_pos x with h | h
    · exact Or.inr h
    · left
      have := Nat.mul_le_mul_right pp.sz h
      omega
  rcases this with h | h
  · omega
  · rw [h] at h4; simp at h4

set_option maxRecDepth 100000 in
set_option maxHeartbeats 8000000 in
theorem fields_main (k v : Int) (L : List Int) (a : Option Addr) (c : Nat) (w : World) (hT : Tab w) (h1 : 1 ≤ L.length) (h8 : L.length ≤ 8) (hL : SrcAt w (.slice a L.length c) L) :
    Calls Tryd.prog 5 #[.slice a L.length c, .int .i64 k, .int .i64 v] w fun e w' => e = .returned (.bool true) ∧ Below w.heap.size w w' := by
  have HT : Hid (Tab w) := hT
  have HL : Hid (SrcAt w (.slice a L.length c) L) := hL
  clear hT hL
  go_enter Tryd.func5, Tryd.ntmps5
  go_wp2_with fail
  refine (halive_any _ HT.out).mono ?_
  rintro e w1 ⟨rfl, hB1⟩
  have HB1 : Hid (Below w.heap.size w w1) := hB1
  clear hB1
  go_wp2_with fail
  refine (shapes_any L a c w1 (by omega) (HL.out.below HB1.out)).mono ?_
  rintro e w2 ⟨sv, Ls, rfl, hLl, hG, hsv, hB2⟩
  have HB2 : Hid (Below w.heap.size w w2) := HB1.out.trans (hB2.mono HB1.out.size)
  have HG : Hid (GoodL Ls.length Ls) := hG
  have hl0 : 0 < Ls.length := by omega
  have hl8 : Ls.length ≤ 8 := by omega
  have HV : Hid (ShV w2 sv Ls) := hsv
  have hT2 : Tab w2 := HT.out.below HB2.out HT.out.size
  clear hLl hG hB2 HB1 HL
  rcases hsv with ⟨e, _⟩ | ⟨bs, off, cc0, rfl, hsa⟩
  · rw [e] at hl0; simp at hl0
  obtain ⟨fa, fc, hfc, _⟩ := hsa.cell 0 hl0
  have hbs := hsa.lt
  have hm16 := HG.out _ (show Ls.getD 0 [] ∈ Ls by rw [List.getD, List.getElem?_eq_getElem hl0]; exact List.getElem_mem hl0)
  obtain ⟨nf, hnf⟩ : ∃ nf, nf = lens Ls := ⟨_, rfl⟩
  have HNF : Hid (nf.getD 0 0 = ((Ls.getD 0 []).length : Int) ∧ 0 < nf.length) := ⟨by rw [hnf]; exact lens_at hl0, by rw [hnf, lens_len]; exact hl0⟩
  obtain ⟨m, hm⟩ : ∃ m, m = (Ls.getD 0 []).length := ⟨_, rfl⟩
  rw [← hm] at hfc hm16 HNF
  have hm1 := hm16.2.1
  have hm2 := hm16.2.2
  have HF : Hid (w2.cell? ⟨bs, off, none⟩ = some (.slice fa m fc) ∧ bs < w2.heap.size) := ⟨hfc, hbs⟩
  clear hfc hbs hsa hm16 hm
  obtain ⟨cc, hcc⟩ : ∃ cc, ofN (m : Int) = cc := ⟨_, rfl⟩
  have HCC : Hid (ofN (m : Int) = cc) := hcc
  have hcr : 0 ≤ cc ∧ cc ≤ 7 ∧ (m : Int) ≤ szN cc := by
    rcases of_range (m : Int) with h | h
    · exfalso
      have := of_small hm1 hm2
      omega
    · rw [hcc] at h; omega
  clear hcc
  go_wp2_with fail
  refine (hnew_any 8 8 Ls _ _ (by decide) (HG.out.fit (by omega)) (HG.out.chk (by omega)) HV.out).mono ?_
  rintro e w3 ⟨b, rfl, hp, hB3⟩
  rw [← hnf] at hp
  have H3 : Hid (HS w2 w3 w2.heap.size b 8 nf Hs.none) := ⟨hp, hB3, Nat.le_refl _, hB3.size, hT2⟩
  have hc3 : w3.cell? ⟨bs, off, none⟩ = some (.slice fa m fc) := (hB3.cell (p := ⟨bs, off, none⟩) HF.out.2).trans HF.out.1
  clear hp hB3 hnf HV HT HG hT2
  go_wp2_with fail
  refine (refClass_any' HCC.out _).mono ?_
  rintro e w4 ⟨rfl, hB⟩
  have H4 : Hid (HS w2 w4 w2.heap.size b 8 nf Hs.none) := H3.out.below hB
  clear hB H3 hc3
  go_wp2_with fail
  refine (fresh_some H4.out.hp hcr.1 hcr.2.1 (k := 0) (by decide) rfl (fun j hj => by omega) H4.out.bs).mono ?_
  rintro e w5 ⟨rfl, pb, hp, hf⟩
  obtain ⟨s5, F5, H5⟩ : ∃ s5 : Hs, Hid (s5.P 0 = some ⟨pb, cc, f0, f0⟩ ∧ s5.ser = 0 ∧ ∀ x, s5.W x = 0) ∧ Hid (HS w2 w5 w2.heap.size b 8 nf s5) := ⟨⟨upP Hs.none.P 0 (some ⟨pb, cc, f0, f0⟩), Hs.none.W, Hs.none.O, 0, 0⟩, ⟨show upP Hs.none.P 0 (some ⟨pb, cc, f0, f0⟩) 0 = _ from upP_same _ _ _, rfl, fun x => rfl⟩, H4.out.to hp hf⟩
  clear hp hf H4
  have hnum := H5.out.hp.ar.num F5.out.1
  have hn2 : 2 ≤ (slN cc).toNat := hnum.n2
  obtain ⟨zz, hzz⟩ : ∃ zz, zz = (szN cc).toNat := ⟨_, rfl⟩
  have hz1 : 1 ≤ zz := by have := hnum.s1; rw [hzz]; exact this
  have hz16 : zz ≤ 16 := by have := hnum.s16; rw [hzz]; exact this
  have hmz : m ≤ zz := by omega
  have HZ : Hid (zz = (szN cc).toNat) := hzz
  have HN2 : Hid (2 ≤ (slN cc).toNat) := hn2
  clear hnum hzz hn2
  go_wp2_with fail
  refine (alloc_some H5.out.hp 0 false HNF.out.2 HNF.out.1 (k := 0) (z := 0) (p := ⟨pb, cc, f0, f0⟩) (fun k hk => by omega) ⟨F5.out.1, by rw [HNF.out.1, HCC.out], Nat.lt_of_lt_of_le (by decide) HN2.out, rfl, fun y hy => by omega⟩ H5.out.tb (by rw [F5.out.2.1]; decide)).mono ?_
  rintro e w6 ⟨rfl, hp, hf⟩
  rw [show adr 0 0 (PSt.sz ⟨pb, cc, f0, f0⟩) = 1048576 by unfold adr; omega]
  obtain ⟨s6, F6, H6⟩ : ∃ s6 : Hs, Hid (s6.P 0 = some ⟨pb, cc, up f0 0 true, f0⟩ ∧ s6.ser = 1 ∧ (∀ x, s6.W x = 0) ∧ s6.O 0 0 = some ⟨0, 1, 0⟩) ∧ Hid (HS w2 w6 w2.heap.size b 8 nf s6) :=
    ⟨s5.took 0 m false 0 0 ⟨pb, cc, f0, f0⟩, ⟨took_P _ _ _ _ _ _ _, by show s5.ser + 1 = 1; rw [F5.out.2.1], zero_clr F5.out.2.2 _ _, by rw [took_O, F5.out.2.1]; rfl⟩, H5.out.to hp hf⟩
  clear hp hf H5 F5
  go_wp2_with fail
  refine (alloc_some H6.out.hp 0 false HNF.out.2 HNF.out.1 (k := 0) (z := 1) (p := ⟨pb, cc, up f0 0 true, f0⟩) (fun k hk => by omega) ⟨F6.out.1, by rw [HNF.out.1, HCC.out], Nat.lt_of_lt_of_le (by decide) HN2.out, rfl, up_first⟩ H6.out.tb (by rw [F6.out.2.1]; decide)).mono ?_
  rintro e w7 ⟨rfl, hp, hf⟩
  obtain ⟨yv, hyv⟩ : ∃ yv : Int, ((adr 0 1 (PSt.sz ⟨pb, cc, up f0 0 true, f0⟩) : Nat) : Int) = yv := ⟨_, rfl⟩
  rw [hyv]
  have hy : yv = 1048576 + (zz : Int) := by
    rw [← hyv, HZ.out]
    show ((adr 0 1 (szN cc).toNat : Nat) : Int) = _
    unfold adr
    omega
  obtain ⟨s7, pp, F7, H7⟩ : ∃ (s7 : Hs) (pp : PSt), Hid (s7.P 0 = some pp ∧ (∀ x, s7.W x = 0) ∧ s7.O 0 0 = some ⟨0, 1, 0⟩ ∧ s7.O 0 1 = some ⟨0, 2, 0⟩ ∧ pp.sz = zz ∧ InS s7.P 1048576 0 0 0 pp ∧ InS s7.P yv 0 1 0 pp) ∧ Hid (HS w2 w7 w2.heap.size b 8 nf s7) := by
    have hP := took_P s6 0 m false 0 1 ⟨pb, cc, up f0 0 true, f0⟩
    refine ⟨s6.took 0 m false 0 1 ⟨pb, cc, up f0 0 true, f0⟩, ⟨pb, cc, up (up f0 0 true) 1 true, f0⟩, ⟨hP, zero_clr F6.out.2.2.1 _ _, ?_, ?_, HZ.out.symm, ⟨hP, Nat.lt_of_lt_of_le (by decide) HN2.out, rfl, ?_, ?_⟩, ⟨hP, Nat.lt_of_lt_of_le (by decide) HN2.out, rfl, ?_, hyv.symm⟩⟩, H6.out.to hp hf⟩
    · rw [took_O2 _ _ _ _ _ (by decide)]; exact F6.out.2.2.2
    · rw [took_O, F6.out.2.1]; rfl
    · show 0 < (szN cc).toNat; rw [← HZ.out]; omega
    · unfold adr; omega
    · show 0 < (szN cc).toNat; rw [← HZ.out]; omega
  have HY : Hid (yv = 1048576 + (zz : Int)) := hy
  clear hp hf H6 F6 hyv hy
  have hc7 : w7.cell? ⟨bs, off, none⟩ = some (.slice fa m fc) := (H7.out.lo.cell (p := ⟨bs, off, none⟩) HF.out.2).trans HF.out.1
  obtain ⟨r, kk, hr1, hr2, hr3, hr4, hr5, hr6, hr7⟩ := rem_twice k (m : Int) (by omega) (by omega)
  go_wp2_with fail
  refine (hstore_in H7.out.hp (ad := 1048576) kk v (by decide) F7.out.2.2.2.2.2.1 F7.out.2.2.1 (j := 0) (m := m) rfl HNF.out.2 HNF.out.1 (by omega)).mono ?_
  rintro e w8 ⟨rfl, hp, hf⟩
  obtain ⟨s8, F8, H8⟩ : ∃ (s8 : Hs), Hid (s8.P 0 = some pp ∧ s8.O 0 0 = some ⟨0, 1, 0⟩ ∧ s8.O 0 1 = some ⟨0, 2, 0⟩ ∧ InS s8.P 1048576 0 0 0 pp ∧ InS s8.P yv 0 1 0 pp ∧ (∀ i, s8.W (32 * 0 + 0 * pp.sz + i) = if i = kk then v else 0) ∧ (∀ i, s8.W (32 * 0 + 1 * pp.sz + i) = 0)) ∧ Hid (HS w2 w8 w2.heap.size b 8 nf s8) := by
    refine ⟨⟨s7.P, upW s7.W (32 * 0 + 0 * pp.sz + kk) v, s7.O, s7.ser, s7.giv⟩, ⟨F7.out.1, F7.out.2.2.1, F7.out.2.2.2.1, F7.out.2.2.2.2.2.1, F7.out.2.2.2.2.2.2, fun i => ?_, fun i => ?_⟩, H7.out.to hp hf⟩
    · show upW s7.W (32 * 0 + 0 * pp.sz + kk) v (32 * 0 + 0 * pp.sz + i) = _
      unfold upW
      rw [F7.out.2.1]
      by_cases e : i = kk
      · rw [if_pos (by omega), if_pos e]
      · rw [if_neg (by omega), if_neg e]
    · show upW s7.W (32 * 0 + 0 * pp.sz + kk) v (32 * 0 + 1 * pp.sz + i) = _
      unfold upW
      rw [F7.out.2.1, F7.out.2.2.2.2.1, if_neg (by omega)]
  have HNB : Hid (zz ≠ 1 → NoBeg s8.P 1048577) := fun h => no_beg1 F8.out.1 (by rw [F7.out.2.2.2.2.1]; omega)
  clear hp hf H7 F7
  go_wp2_with fail
  refine (hstore_over H8.out.hp (ad := 1048576) (m : Int) v (by decide) F8.out.2.2.2.1 F8.out.2.1 (j := 0) (m := m) rfl HNF.out.2 HNF.out.1 (Or.inr (Int.le_refl _))).mono ?_
  rintro e w9 ⟨rfl, hB⟩
  have H9 : Hid (HS w2 w9 w2.heap.size b 8 nf s8) := H8.out.below hB
  clear hB H8
  go_wp2_with fail
  refine (hstore_over H9.out.hp (ad := 1048576) (-1) v (by decide) F8.out.2.2.2.1 F8.out.2.1 (j := 0) (m := m) rfl HNF.out.2 HNF.out.1 (Or.inl (by decide))).mono ?_
  rintro e w10 ⟨rfl, hB⟩
  have H10 : Hid (HS w2 w10 w2.heap.size b 8 nf s8) := H9.out.below hB
  clear hB H9
  have hyb : 1048576 ≤ yv ∧ yv ≤ 1048592 := by have := HY.out; omega
  clear hc7 hr1 hr2 hr3 hr4 hr5 hr6
  obtain ⟨kx, hkx⟩ : ∃ kx : Int, (kk : Int) = kx := ⟨_, rfl⟩
  have HKX : Hid ((kk : Int) = kx) := hkx
  rw [hkx]
  clear hkx
  by_cases hyx : yv = 1048577
  · as_aux_lemma =>
    subst hyx
    go_wp2_with fail
    go_loopw [15] (fun iv wr => ∃ i : Nat, i ≤ m ∧ iv = .int .i64 i ∧ Hid (HS w2 wr w2.heap.size b 8 nf s8)) (fun iv _ => m - (intOf iv).toNat)
    case atStart => exact ⟨0, Nat.zero_le _, rfl, H10⟩
    case round =>
      obtain ⟨i, hi, rfl, HR⟩ := hrel
      by_cases hlt : i < m
      · go_wp2_with fail
        refine (hload_in HR.out.hp (ad := 1048576) i (by decide) F8.out.2.2.2.1 F8.out.2.1 (j := 0) (m := m) rfl HNF.out.2 HNF.out.1 hlt).mono ?_
        rintro e w11 ⟨rfl, hB⟩
        have H11 : Hid (HS w2 w11 w2.heap.size b 8 nf s8) := HR.out.below hB
        clear hB HR
        rw [F8.out.2.2.2.2.2.1 i]
        by_cases hik : (i : Int) = kx
        · rw [if_pos (by have := HKX.out; omega)]
          subst hik
          go_wp2_with fail
          refine (hload_in H11.out.hp (ad := 1048577) i (by decide) F8.out.2.2.2.2.1 F8.out.2.2.1 (j := 0) (m := m) rfl HNF.out.2 HNF.out.1 hlt).mono ?_
          rintro e w12 ⟨rfl, hB⟩
          have H12 : Hid (HS w2 w12 w2.heap.size b 8 nf s8) := H11.out.below hB
          clear hB H11
          rw [F8.out.2.2.2.2.2.2 i]
          go_wp2_with fail
          go_roundw
          case rel => exact ⟨i + 1, by omega, by go_num, H12⟩
          case measure => simp [intOf]; omega
        · rw [if_neg (by have := HKX.out; omega)]
          go_wp2_with fail
          refine (hload_in H11.out.hp (ad := 1048577) i (by decide) F8.out.2.2.2.2.1 F8.out.2.2.1 (j := 0) (m := m) rfl HNF.out.2 HNF.out.1 hlt).mono ?_
          rintro e w12 ⟨rfl, hB⟩
          have H12 : Hid (HS w2 w12 w2.heap.size b 8 nf s8) := H11.out.below hB
          clear hB H11
          rw [F8.out.2.2.2.2.2.2 i]
          go_wp2_with fail
          go_roundw
          case rel => exact ⟨i + 1, by omega, by go_num, H12⟩
          case measure => simp [intOf]; omega
      · go_wp2_with fail
        go_ret
        exact ⟨rfl, HB2.out.trans (HR.out.lo.mono HB2.out.size)⟩
  · as_aux_lemma =>
    go_wp2_with fail
    refine (hstore_no H10.out.hp (ad := 1048577) 0 v (by decide) (HNB.out (by have := HY.out; omega))).mono ?_
    rintro e w10' ⟨rfl, hB⟩
    have H10' : Hid (HS w2 w10' w2.heap.size b 8 nf s8) := H10.out.below hB
    clear hB H10
    go_wp2_with fail
    go_loopw [15] (fun iv wr => ∃ i : Nat, i ≤ m ∧ iv = .int .i64 i ∧ Hid (HS w2 wr w2.heap.size b 8 nf s8)) (fun iv _ => m - (intOf iv).toNat)
    case atStart => exact ⟨0, Nat.zero_le _, rfl, H10'⟩
    case round =>
      obtain ⟨i, hi, rfl, HR⟩ := hrel
      by_cases hlt : i < m
      · go_wp2_with fail
        refine (hload_in HR.out.hp (ad := 1048576) i (by decide) F8.out.2.2.2.1 F8.out.2.1 (j := 0) (m := m) rfl HNF.out.2 HNF.out.1 hlt).mono ?_
        rintro e w11 ⟨rfl, hB⟩
        have H11 : Hid (HS w2 w11 w2.heap.size b 8 nf s8) := HR.out.below hB
        clear hB HR
        rw [F8.out.2.2.2.2.2.1 i]
        by_cases hik : (i : Int) = kx
        · rw [if_pos (by have := HKX.out; omega)]
          subst hik
          go_wp2_with fail
          refine (hload_in H11.out.hp (ad := yv) i (by constructor <;> omega) F8.out.2.2.2.2.1 F8.out.2.2.1 (j := 0) (m := m) rfl HNF.out.2 HNF.out.1 hlt).mono ?_
          rintro e w12 ⟨rfl, hB⟩
          have H12 : Hid (HS w2 w12 w2.heap.size b 8 nf s8) := H11.out.below hB
          clear hB H11
          rw [F8.out.2.2.2.2.2.2 i]
          go_wp2_with fail
          go_roundw
          case rel => exact ⟨i + 1, by omega, by go_num, H12⟩
          case measure => simp [intOf]; omega
        · rw [if_neg (by have := HKX.out; omega)]
          go_wp2_with fail
          refine (hload_in H11.out.hp (ad := yv) i (by constructor <;> omega) F8.out.2.2.2.2.1 F8.out.2.2.1 (j := 0) (m := m) rfl HNF.out.2 HNF.out.1 hlt).mono ?_
          rintro e w12 ⟨rfl, hB⟩
          have H12 : Hid (HS w2 w12 w2.heap.size b 8 nf s8) := H11.out.below hB
          clear hB H11
          rw [F8.out.2.2.2.2.2.2 i]
          go_wp2_with fail
          go_roundw
          case rel => exact ⟨i + 1, by omega, by go_num, H12⟩
          case measure => simp [intOf]; omega
      · go_wp2_with fail
        go_ret
        exact ⟨rfl, HB2.out.trans (HR.out.lo.mono HB2.out.size)⟩
theorem fields_any (k v : Int) (L : List Int) (a : Option Addr) (c : Nat) (w : World) (hT : Tab w) (hL : SrcAt w (.slice a L.length c) L) :
    Calls Tryd.prog 5 #[.slice a L.length c, .int .i64 k, .int .i64 v] w fun e w' => e = .returned (.bool true) ∧ Below w.heap.size w w' := by
  by_cases h : L.length < 1 ∨ 8 < L.length
  · exact fields_few k v a L.length c w hT h
  · exact fields_main k v L a c w hT (by omega) (by omega) hL

end Go.Proofs.YtfkimmbnmcgjiaaDoor

/- The walk of the law HeapSweeps. -/
import Derived.Test.YtfkimmbnmcgjiaaDoorHpV
namespace Go.Proofs.YtfkimmbnmcgjiaaDoor
open Go.RowKit Go.Maps

set_option maxRecDepth 100000 in
set_option maxHeartbeats 2000000 in
theorem sweeps_few (n : Int) (a a2 : Option Addr) (l c l2 c2 : Nat) (w : World) (hT : Tab w) (h : l < 1 ∨ 8 < l ∨ 60 < l2 ∨ n < 0 ∨ 60 < n) :
    Calls Tryd.prog 3 #[.slice a l c, .slice a2 l2 c2, .int .i64 n] w fun e w' => e = .returned (.bool true) ∧ Below w.heap.size w w' := by
  have HT : Hid (Tab w) := hT
  clear hT
  by_cases h1 : (l : Int) < 1
  · go_enter Tryd.func3, Tryd.ntmps3
    go_wp2_with fail
    refine (halive_any _ HT.out).mono ?_
    rintro e w1 ⟨rfl, hB1⟩
    go_wp2_with fail
    go_ret
    exact ⟨rfl, hB1⟩
  by_cases h2 : 8 < (l : Int)
  · go_enter Tryd.func3, Tryd.ntmps3
    go_wp2_with fail
    refine (halive_any _ HT.out).mono ?_
    rintro e w1 ⟨rfl, hB1⟩
    go_wp2_with fail
    go_ret
    exact ⟨rfl, hB1⟩
  by_cases h3 : 60 < (l2 : Int)
  · go_enter Tryd.func3, Tryd.ntmps3
    go_wp2_with fail
    refine (halive_any _ HT.out).mono ?_
    rintro e w1 ⟨rfl, hB1⟩
    go_wp2_with fail
    go_ret
    exact ⟨rfl, hB1⟩
  by_cases h4 : n < 0
  · go_enter Tryd.func3, Tryd.ntmps3
    go_wp2_with fail
    refine (halive_any _ HT.out).mono ?_
    rintro e w1 ⟨rfl, hB1⟩
    go_wp2_with fail
    go_ret
    exact ⟨rfl, hB1⟩
  have h5 : 60 < n := by omega
  go_enter Tryd.func3, Tryd.ntmps3
  go_wp2_with fail
  refine (halive_any _ HT.out).mono ?_
  rintro e w1 ⟨rfl, hB1⟩
  go_wp2_with fail
  go_ret
  exact ⟨rfl, hB1⟩

theorem mod_small (i : Nat) {l : Nat} (hl : 0 < l) : ∃ j : Nat, (i : Int).tmod (l : Int) = (j : Int) ∧ (i : Int) % (l : Int) = (j : Int) ∧ j < l := by
  refine ⟨i % l, ?_, (Int.natCast_emod i l).symm, Nat.mod_lt _ hl⟩
  rw [Int.tmod_eq_emod_of_nonneg (by omega)]
  exact (Int.natCast_emod i l).symm
theorem getD_mem {A : List Int} {i : Nat} (h : i < A.length) : A.getD i 0 ∈ A := by
  rw [List.getD, List.getElem?_eq_getElem h]
  exact List.getElem_mem h
theorem colb_small {w : World} {B : Nat} {b : Hb} {nf : List Int} {s : Hs} {A T : List Int} (h : HpAt w B b 8 nf s) (hc : ColB s A T) {ad : Int} (had : ad ∈ A) : 1048576 ≤ ad ∧ ad < 1048576 + 2048 := by
  obtain ⟨k, x, p, hi⟩ := hc.inv.i1 ad had
  exact ins_small h hi
theorem lit64 {x : Int} (h1 : 1048576 ≤ x ∧ x < 1048576 + 2048) : (Lit.int .i64 x).wf = true := WalkArith.wf_i64 (by omega)

set_option maxRecDepth 100000 in
set_option maxHeartbeats 16000000 in
theorem sweeps_main (n : Nat) (L D : List Int) (a a2 : Option Addr) (c c2 : Nat) (w : World) (hT : Tab w) (h1 : 1 ≤ L.length) (h8 : L.length ≤ 8) (hD6 : D.length ≤ 60) (hn : n ≤ 60) (hL : SrcAt w (.slice a L.length c) L) (hD : SrcAt w (.slice a2 D.length c2) D) :
    Calls Tryd.prog 3 #[.slice a L.length c, .slice a2 D.length c2, .int .i64 n] w fun e w' => e = .returned (.bool true) ∧ Below w.heap.size w w' := by
  obtain ⟨i0, hi0, hz0, hz1, hz2⟩ := info_parts Tryd.info3
  have HT : Hid (Tab w) := hT
  have HL : Hid (SrcAt w (.slice a L.length c) L) := hL
  have HD : Hid (SrcAt w (.slice a2 D.length c2) D) := hD
  clear hT hL hD
  have hmm := @run_makeMap Tryd.prog
  go_enter Tryd.func3, Tryd.ntmps3
  go_wp2_with fail
  refine (halive_any _ HT.out).mono ?_
  rintro e w1 ⟨rfl, hB1⟩
  have HB1 : Hid (Below w.heap.size w w1) := hB1
  clear hB1
  go_wp2_with fail
  refine (shapes_any L a c w1 (by omega) (HL.out.below HB1.out)).mono ?_
  rintro e w2 ⟨sv, Ls, rfl, hLl, hG, hsv, hB2⟩
  have HB2 : Hid (Below w.heap.size w w2) := HB1.out.trans (hB2.mono HB1.out.size)
  have HG : Hid (GoodL Ls.length Ls) := hG
  have hl0 : 0 < Ls.length := by omega
  have hl8 : Ls.length ≤ 8 := by omega
  have HV : Hid (ShV w2 sv Ls) := hsv
  have hT2 : Tab w2 := HT.out.below HB2.out HT.out.size
  clear hLl hG hB2 HB1 HL
  rcases hsv with ⟨e, _⟩ | ⟨bs, off, cc0, rfl, hsa⟩
  · rw [e] at hl0; simp at hl0
  obtain ⟨nf, hnf⟩ : ∃ nf, nf = lens Ls := ⟨_, rfl⟩
  have HF : Hid ((∀ j, j < Ls.length → ∃ fa m fc, w2.cell? ⟨bs, off + j, none⟩ = some (.slice fa m fc) ∧ nf.getD j 0 = (m : Int) ∧ j < nf.length ∧ 1 ≤ m ∧ m ≤ 16) ∧ bs < w2.heap.size) := by
    refine ⟨fun j hj => ?_, hsa.lt⟩
    obtain ⟨fa, fc, hfc, _⟩ := hsa.cell j hj
    have hm16 := HG.out _ (show Ls.getD j [] ∈ Ls by rw [List.getD, List.getElem?_eq_getElem hj]; exact List.getElem_mem hj)
    exact ⟨fa, _, fc, hfc, by rw [hnf]; exact lens_at hj, by rw [hnf, lens_len]; exact hj, hm16.2.1, hm16.2.2⟩
  clear hsa
  go_wp2_with fail
  refine (hnew_any 8 8 Ls _ _ (by decide) (HG.out.fit (by omega)) (HG.out.chk (by omega)) HV.out).mono ?_
  rintro e w3 ⟨b, rfl, hp, hB3⟩
  rw [← hnf] at hp
  obtain ⟨S, hS⟩ : ∃ S, S = w3.heap.size := ⟨_, rfl⟩
  have HA3 : Hid (SwA w2 w3 S b nf (.slice none 0 0) [] [] Hs.none) := ⟨⟨hp, hB3, Nat.le_refl _, hB3.size, hT2⟩, World.ownsRow_nil _ _ _ _, inv_none, (fun k x o ho => by cases ho), by omega⟩
  have HLo : Hid (Low b S) := by rw [hS]; exact hp.low
  have HW : Hid (w2.heap.size ≤ S) := by rw [hS]; exact hB3.size
  clear hp hB3 hnf HV HT HG hT2 hS
  go_wp2_with fail
  go_loopw [10, 11] (fun lv iv wr => ∃ (i : Nat) (A : List Int) (s : Hs), i ≤ n ∧ iv = .int .i64 i ∧ A.length ≤ i ∧ Hid (SwA w2 wr S b nf lv A A s ∧ s.ser ≤ i)) (fun _ iv _ => n - (intOf iv).toNat)
  case atStart => exact ⟨0, [], Hs.none, Nat.zero_le _, rfl, Nat.le_refl _, HA3.out, Nat.le_refl _⟩
  case round =>
    obtain ⟨i, A, s, hi, rfl, hAi, HR⟩ := hrel
    obtain ⟨al, cl, rfl⟩ := own_len HR.out.1.ow
    by_cases hlt : i < n
    · obtain ⟨j, hj1, hj2, hj3⟩ := mod_small i hl0
      obtain ⟨fa, m, fc, hcl, hm0, hjn, hm1, hm2⟩ := HF.out.1 j hj3
      have HJ : Hid (j < nf.length ∧ nf.getD j 0 = (m : Int) ∧ w2.cell? ⟨bs, off + j, none⟩ = some (.slice fa m fc)) := ⟨hjn, hm0, hcl⟩
      obtain ⟨cc, hcc⟩ : ∃ cc, ofN (m : Int) = cc := ⟨_, rfl⟩
      have HCC : Hid (ofN (m : Int) = cc) := hcc
      have hcr : 0 ≤ cc ∧ cc ≤ 7 := by
        rcases of_range (m : Int) with h | h
        · exfalso
          have := of_small hm1 hm2
          omega
        · rw [hcc] at h; omega
      have HK : Hid (A.length + 1 ≤ maxLen ∧ (A.length + 1) * 8 ≤ 140737488355328) := ⟨by unfold maxLen; omega, by omega⟩
      clear hcc hcl hm0 hjn
      go_wp2_with fail
      refine (swa_alloc HR.out.1 HLo.out j HJ.out.1 HJ.out.2.1 (by have := HR.out.2; omega)).mono ?_
      rintro e w6 (⟨ad, s6, rfl, hh, hs⟩ | ⟨rfl, hh⟩)
      · as_aux_lemma =>
        have H6 : Hid (SwA w2 w6 S b nf (.slice al A.length cl) A (A ++ [ad]) s6 ∧ s6.ser ≤ i + 1) := ⟨hh, by have := HR.out.2; omega⟩
        have HZ : Hid (∀ o, S ≤ (w6.alloc o).heap.size) := fun o => by have := H6.out.1.sz; simp; omega
        clear hh hs HR
        go_wp2_with (at_builtin; refine wpList_append_keep _ rfl _ _ 22 rfl S 3 i0 (.int .i64 0) 8 Tryd.underlying22 hi0 hz0 hz1 hz2 rfl _ _ _ rfl (H6.out.1.ow.alloc _) ⟨w6.heap.size, 0, none⟩ 1 1 [.int .i64 ad] rfl rfl (new_one w6 _ _) (one_of rfl) (by decide) HK.out.1 HK.out.2 (HZ.out _) ?_)
        intro g' cap w8 ho8 hold hgrow hat
        have H8 : Hid (SwA w2 w8 S b nf (.slice (some ⟨g', 0, none⟩) (A.length + 1) cap) (A ++ [ad]) (A ++ [ad]) s6 ∧ s6.ser ≤ i + 1) := ⟨H6.out.1.app HLo.out HW.out ho8 hgrow, H6.out.2⟩
        clear ho8 hold hgrow hat H6 HZ
        go_wp2_with fail
        go_roundw
        case rel => exact ⟨i + 1, A ++ [ad], s6, by omega, by go_num, by simp; omega, H8⟩
        case measure => simp [intOf]; omega
      · have H6 : Hid (SwA w2 w6 S b nf (.slice al A.length cl) A A s ∧ s.ser ≤ i) := ⟨hh, HR.out.2⟩
        have hc6 : w6.cell? ⟨bs, off + j, none⟩ = some (.slice fa m fc) := (H6.out.1.hs.lo.cell (p := ⟨bs, off + j, none⟩) HF.out.2).trans HJ.out.2.2
        clear hh HR
        go_wp2_with fail
        refine (refClass_any' HCC.out _).mono ?_
        rintro e w7 ⟨rfl, hB⟩
        have H7 : Hid (SwA w2 w7 S b nf (.slice al A.length cl) A A s ∧ s.ser ≤ i) := ⟨H6.out.1.below hB, H6.out.2⟩
        clear hB hc6 H6
        go_wp2_with fail
        refine (swa_fresh H7.out.1 HLo.out hcr.1 hcr.2).mono ?_
        rintro e w8 ⟨r, s8, rfl, hh, hs⟩
        have H8 : Hid (SwA w2 w8 S b nf (.slice al A.length cl) A A s8 ∧ s8.ser ≤ i) := ⟨hh, by have := H7.out.2; omega⟩
        clear hh hs H7
        cases r with
        | false =>
          go_wp2_with fail
          go_roundw
          case rel => exact ⟨i + 1, A, s8, by omega, by go_num, by omega, H8.out.1, by have := H8.out.2; omega⟩
          case measure => simp [intOf]; omega
        | true =>
          go_wp2_with fail
          refine (swa_alloc H8.out.1 HLo.out j HJ.out.1 HJ.out.2.1 (by have := H8.out.2; omega)).mono ?_
          rintro e w6 (⟨ad, s6, rfl, hh, hs⟩ | ⟨rfl, hh⟩)
          · as_aux_lemma =>
            have H6 : Hid (SwA w2 w6 S b nf (.slice al A.length cl) A (A ++ [ad]) s6 ∧ s6.ser ≤ i + 1) := ⟨hh, by have := H8.out.2; omega⟩
            have HZ : Hid (∀ o, S ≤ (w6.alloc o).heap.size) := fun o => by have := H6.out.1.sz; simp; omega
            clear hh hs H8
            go_wp2_with (at_builtin; refine wpList_append_keep _ rfl _ _ 22 rfl S 3 i0 (.int .i64 0) 8 Tryd.underlying22 hi0 hz0 hz1 hz2 rfl _ _ _ rfl (H6.out.1.ow.alloc _) ⟨w6.heap.size, 0, none⟩ 1 1 [.int .i64 ad] rfl rfl (new_one w6 _ _) (one_of rfl) (by decide) HK.out.1 HK.out.2 (HZ.out _) ?_)
            intro g' cap w8 ho8 hold hgrow hat
            have H8 : Hid (SwA w2 w8 S b nf (.slice (some ⟨g', 0, none⟩) (A.length + 1) cap) (A ++ [ad]) (A ++ [ad]) s6 ∧ s6.ser ≤ i + 1) := ⟨H6.out.1.app HLo.out HW.out ho8 hgrow, H6.out.2⟩
            clear ho8 hold hgrow hat H6 HZ
            go_wp2_with fail
            go_roundw
            case rel => exact ⟨i + 1, A ++ [ad], s6, by omega, by go_num, by simp; omega, H8⟩
            case measure => simp [intOf]; omega
          · as_aux_lemma =>
            have H6 : Hid (SwA w2 w6 S b nf (.slice al A.length cl) A A s8 ∧ s8.ser ≤ i) := ⟨hh, H8.out.2⟩
            clear hh H8
            go_wp2_with fail
            go_roundw
            case rel => exact ⟨i + 1, A, s8, by omega, by go_num, by omega, H6.out.1, by have := H6.out.2; omega⟩
            case measure => simp [intOf]; omega
    · have hA6 : A.length ≤ 60 := by omega
      obtain ⟨w6, h6⟩ : ∃ w6, w6 = wr := ⟨_, rfl⟩
      subst h6
      have HB0 : Hid (SwB w2 (w6.alloc (.map #[] 0)) S b nf (.slice al A.length cl) w6.heap.size A [] [] s) := HR.out.1.start
      clear HR HA3 HF
      go_wp2_with fail
      clear hmm hlt hi hAi
      revert HB0
      generalize w6.alloc (.map #[] 0) = w7
      generalize w6.heap.size = sb
      intro HB0
      have HsS : Hid (S ≤ sb) := HB0.out.hS
      go_loopw [16] (fun iv wr => ∃ (i : Nat) (T : List Int) (s : Hs), i ≤ D.length ∧ iv = .int .i64 i ∧ T.length ≤ i ∧ Hid (SwB w2 wr S b nf (.slice al A.length cl) sb A T T s)) (fun iv _ => D.length - (intOf iv).toNat)
      case atStart => exact ⟨0, [], s, Nat.zero_le _, rfl, Nat.le_refl _, HB0⟩
      case round =>
        obtain ⟨i, T, s1, hi, rfl, hTi, HR⟩ := hrel
        by_cases hlt : (i : Int) < (D.length : Int) ∧ 0 < (A.length : Int)
        · as_aux_lemma =>
          obtain ⟨hlt, hA0⟩ := hlt
          rcases HD.out with ⟨e, _⟩ | ⟨gd, od, cd, e, hgd, hcd0⟩
          · exfalso
            rw [e] at hlt
            simp at hlt
            omega
          cases e
          obtain ⟨x, hx⟩ : ∃ x, D.getD i 0 = x := ⟨_, rfl⟩
          have hcd : wr.cell? ⟨gd, od + i, none⟩ = some (.int .i64 x) := by
            rw [← hx]
            exact ((HB2.out.trans (HR.out.hs.lo.mono HB2.out.size)).cell (p := ⟨gd, od + i, none⟩) hgd).trans (hcd0 i (by omega))
          obtain ⟨r, m, hr1, hr2, hr3, hr4, hr5, hr6, hr7⟩ := rem_twice x (A.length : Int) (by omega) (by omega)
          rcases src_of_own HR.out.ow with ⟨e, _⟩ | ⟨gl, ol, cc1, e, hgl, hcl0⟩
          · exfalso
            rw [e] at hA0
            simp at hA0
          cases e
          have hmA : m < A.length := by omega
          obtain ⟨ad, had⟩ : ∃ ad, A.getD m 0 = ad := ⟨_, rfl⟩
          have hcl : wr.cell? ⟨gl, ol + m, none⟩ = some (.int .i64 ad) := by
            rw [← had]
            exact hcl0 m hmA
          have HM : Hid (ad ∈ A) := by rw [← had]; exact getD_mem hmA
          clear hcd0 hcl0 had hx
          go_wp2_with fail
          refine (swb_shade HR.out HLo.out HM.out).mono ?_
          rintro e w8 ⟨rb, s8, rfl, hh⟩
          have hsm := colb_small hh.hs.hp hh.cb HM.out
          obtain ⟨w9, hrun, hm9, hb9⟩ := hh.mp.store (x := ad) (lit64 hsm) (by omega)
          have hl2 : (if ad ∈ T then T else T ++ [ad]).length ≤ i + 1 := by by_cases e : ad ∈ T <;> simp [e] <;> omega
          have H9 : Hid (SwB w2 w9 S b nf (.slice (some ⟨gl, ol, none⟩) A.length cl) sb A (if ad ∈ T then T else T ++ [ad]) (if ad ∈ T then T else T ++ [ad]) s8) := hh.store HLo.out HW.out hb9 hm9
          generalize (if ad ∈ T then T else T ++ [ad]) = T2 at *
          clear hh hm9 hb9 HR hcd hcl hr1 hr5 hr6
          go_wp2_with fail
          go_roundw
          case rel => exact ⟨i + 1, T2, s8, by omega, by go_num, hl2, H9⟩
          case measure => simp [intOf]; omega
        · have hT6 : T.length ≤ 60 := by omega
          have key : ¬ (i : Int) < (D.length : Int) ∨ ((i : Int) < (D.length : Int) ∧ ¬ 0 < (A.length : Int)) := by
            by_cases h : (i : Int) < (D.length : Int)
            · exact Or.inr ⟨h, fun h2 => hlt ⟨h, h2⟩⟩
            · exact Or.inl h
          obtain ⟨w10, h10⟩ : ∃ w10, w10 = wr := ⟨_, rfl⟩
          subst h10
          have HC0 : Hid (SwC w2 w10 S b nf (.slice al A.length cl) sb A T s1 s1 0) := HR.out.sweep
          have H0 : Hid (HpAt w10 w2.heap.size b 8 nf s1 ∧ ColB s1 A T) := ⟨HR.out.hs.hp, HR.out.cb⟩
          clear hlt HR HB0 HD
          rcases key with hk | ⟨hk, hA0⟩
          all_goals (as_aux_lemma =>
            go_wp2_with fail
            go_loopw [18, 19] (fun gv kv wr => ∃ (k g : Nat) (s : Hs), k ≤ 8 ∧ kv = .int .i64 k ∧ gv = .int .i64 g ∧ g ≤ 32 * k ∧ Hid (SwC w2 wr S b nf (.slice al A.length cl) sb A T s1 s k ∧ g = wtot s1 k)) (fun _ kv _ => 8 - (intOf kv).toNat)
            case atStart => exact ⟨0, 0, s1, Nat.zero_le _, rfl, rfl, Nat.zero_le _, HC0.out, rfl⟩
            case round =>
              obtain ⟨k, g, s2, hk8, rfl, rfl, hg, HR⟩ := hrel
              by_cases hlt : k < 8
              · as_aux_lemma =>
                go_wp2_with fail
                refine (swc_sweep H0.out.1 HR.out.1 HLo.out HsS.out).mono ?_
                rintro e w11 ⟨s3, rfl, hh⟩
                have hw32 := whP_le H0.out.1 k
                have H11 : Hid (SwC w2 w11 S b nf (.slice al A.length cl) sb A T s1 s3 (k + 1) ∧ g + whP s1 k = wtot s1 (k + 1)) := ⟨hh, by have := HR.out.2; show g + whP s1 k = wtot s1 k + whP s1 k; omega⟩
                clear hh HR
                generalize whP s1 k = wp at *
                go_wp2_with fail
                go_roundw
                case rel => exact ⟨k + 1, g + wp, s3, by omega, by go_num, by go_num, by omega, H11⟩
                case measure => simp [intOf]; omega
              · have e8 : k = 8 := by omega
                have HC : Hid (SwC w2 wr S b nf (.slice al A.length cl) sb A T s1 s2 8) := by rw [← e8]; exact HR.out.1
                obtain ⟨ht1, ht2⟩ := swc_tot H0.out.1 HC.out H0.out.2
                have hg2 : (A.length : Int) - (T.length : Int) = (g : Int) := by have := HR.out.2; rw [e8] at this; omega
                have HWh : Hid (∀ k x o, s2.O k x = some o → o.co = 0) := sw_white HC.out.rel HC.out.hs.hp
                obtain ⟨w12, h12⟩ : ∃ w12, w12 = wr := ⟨_, rfl⟩
                subst h12
                have HT2 : Hid (tot s2.P 8 = T.length) := ht1
                clear HR ht1 ht2 e8 HC0
                go_wp2_with fail
                refine (objects_len HC.out.hs.hp).mono ?_
                rintro e w13 ⟨oa, oc, rfl, hB⟩
                rw [HT2.out]
                have H13 : Hid (SwC w2 w13 S b nf (.slice al A.length cl) sb A T s1 s2 8) := HC.out.below hB
                have hln := fun ty => H13.out.mp.len ty
                clear hB HC hlt
                go_wp2_with fail
                refine (greys_none H13.out.hs.hp (fun k x o ho => by rw [HWh.out k x o ho]; decide)).mono ?_
                rintro e w14 ⟨rfl, hB⟩
                have H14 : Hid (SwC w2 w14 S b nf (.slice al A.length cl) sb A T s1 s2 8) := H13.out.below hB
                clear hB hln H13
                go_wp2_with fail
                go_loopw [21] (fun iv wr => ∃ (i : Nat), i ≤ A.length ∧ iv = .int .i64 i ∧ Hid (SwC w2 wr S b nf (.slice al A.length cl) sb A T s1 s2 8)) (fun iv _ => A.length - (intOf iv).toNat)
                case atStart => exact ⟨0, Nat.zero_le _, rfl, H14⟩
                case round =>
                  obtain ⟨q, hq, rfl, HR⟩ := hrel
                  by_cases hlt : q < A.length
                  · rcases src_of_own HR.out.ow with ⟨e, _⟩ | ⟨gl, ol, cc1, e, hgl, hcl0⟩
                    · exfalso
                      rw [e] at hlt
                      simp at hlt
                    cases e
                    obtain ⟨ad, had⟩ : ∃ ad, A.getD q 0 = ad := ⟨_, rfl⟩
                    have hcl : wr.cell? ⟨gl, ol + q, none⟩ = some (.int .i64 ad) := by
                      rw [← had]
                      exact hcl0 q hlt
                    have HM : Hid (ad ∈ A) := by rw [← had]; exact getD_mem hlt
                    have hsm := colb_small H0.out.1 H0.out.2 HM.out
                    have HI : Hid (I64 ad) := by constructor <;> omega
                    have HCell : Hid (∀ q', (wr.drewN q').cell? ⟨gl, ol + q, none⟩ = some (.int .i64 ad)) := fun q' => by simpa using hcl
                    clear hcl0 had
                    by_cases hT : ad ∈ T
                    · as_aux_lemma =>
                      obtain ⟨k', x', q', o', hin, ho, hco, hadr⟩ := sw_in H0.out.1 HR.out.rel HR.out.hs.hp H0.out.2 HM.out hT
                      have HO : Hid (InS s2.P ad k' x' 0 q' ∧ s2.O k' x' = some o' ∧ o'.co = 0) := ⟨hin, ho, hco⟩
                      clear hin ho hco
                      go_wp2_with fail
                      refine (hfind_in HR.out.hs.hp HI.out HO.out.1).mono ?_
                      rintro e w15 ⟨rfl, qq, rfl⟩
                      rw [hadr]
                      have H15 : Hid (SwC w2 (wr.drewN qq) S b nf (.slice (some ⟨gl, ol, none⟩) A.length cl) sb A T s1 s2 8) := HR.out.drewN qq
                      have hc15 := HCell.out qq
                      have hlk := H15.out.mp.look (x := ad) (lit64 hsm)
                      rw [decide_eq_true hT] at hlk
                      clear HR HCell hcl hadr
                      generalize wr.drewN qq = w16 at *
                      go_wp2_with fail
                      refine (color_yes H15.out.hs.hp HI.out HO.out.1 HO.out.2.1).mono ?_
                      rintro e w17 ⟨rfl, hB⟩
                      rw [HO.out.2.2]
                      have H17 : Hid (SwC w2 w17 S b nf (.slice (some ⟨gl, ol, none⟩) A.length cl) sb A T s1 s2 8) := H15.out.below hB
                      clear hB hc15 hlk H15
                      go_wp2_with fail
                      go_roundw
                      case rel => exact ⟨q + 1, by omega, by go_num, H17⟩
                      case measure => simp [intOf]; omega
                    · as_aux_lemma =>
                      have HO : Hid (OutS s2.P ad) := sw_out H0.out.1 HR.out.rel HR.out.hs.hp H0.out.2 HM.out hT
                      go_wp2_with fail
                      refine (hfind_out HR.out.hs.hp HI.out HO.out).mono ?_
                      rintro e w15 ⟨rfl, qq, rfl⟩
                      have H15 : Hid (SwC w2 (wr.drewN qq) S b nf (.slice (some ⟨gl, ol, none⟩) A.length cl) sb A T s1 s2 8) := HR.out.drewN qq
                      have hc15 := HCell.out qq
                      have hlk := H15.out.mp.look (x := ad) (lit64 hsm)
                      rw [decide_eq_false hT] at hlk
                      clear HR HCell hcl
                      generalize wr.drewN qq = w16 at *
                      go_wp2_with fail
                      refine (color_no H15.out.hs.hp HI.out (out_nobeg HO.out)).mono ?_
                      rintro e w17 ⟨rfl, hB⟩
                      have H17 : Hid (SwC w2 w17 S b nf (.slice (some ⟨gl, ol, none⟩) A.length cl) sb A T s1 s2 8) := H15.out.below hB
                      clear hB hc15 hlk H15
                      go_wp2_with fail
                      go_roundw
                      case rel => exact ⟨q + 1, by omega, by go_num, H17⟩
                      case measure => simp [intOf]; omega
                  · as_aux_lemma =>
                    go_wp2_with fail
                    go_ret
                    exact ⟨rfl, HB2.out.trans (HR.out.hs.lo.mono HB2.out.size)⟩)
theorem sweeps_any (n : Int) (L D : List Int) (a a2 : Option Addr) (c c2 : Nat) (w : World) (hT : Tab w) (hL : SrcAt w (.slice a L.length c) L) (hD : SrcAt w (.slice a2 D.length c2) D) :
    Calls Tryd.prog 3 #[.slice a L.length c, .slice a2 D.length c2, .int .i64 n] w fun e w' => e = .returned (.bool true) ∧ Below w.heap.size w w' := by
  by_cases h : L.length < 1 ∨ 8 < L.length ∨ 60 < D.length ∨ n < 0 ∨ 60 < n
  · exact sweeps_few n a a2 L.length c D.length c2 w hT h
  · obtain ⟨m, rfl⟩ := Int.eq_ofNat_of_zero_le (a := n) (by omega)
    exact sweeps_main m L D a a2 c c2 w hT (by omega) (by omega) (by omega) (by omega) hL hD

end Go.Proofs.YtfkimmbnmcgjiaaDoor

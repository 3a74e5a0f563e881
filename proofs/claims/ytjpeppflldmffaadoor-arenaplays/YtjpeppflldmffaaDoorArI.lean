/- The walk of the law ArenaPages. -/
import Derived.Test.YtjpeppflldmffaaDoorArH
import Derived.Test.YtjpeppflldmffaaDoorPgG
namespace Go.Proofs.YtjpeppflldmffaaDoor
open Go.RowKit

abbrev ff : Nat → Bool := fun _ => false

/-- The first k pages are of class c, with no slot used; the others of none. -/
def Filled (P : Nat → Option PSt) (c : Int) (k : Nat) : Prop := (∀ j, j < k → ∃ b, P j = some ⟨b, c, ff, ff⟩) ∧ ∀ j, k ≤ j → P j = none
theorem filled_next {P : Nat → Option PSt} {c : Int} {k b : Nat} (h : Filled P c k) : Filled (upP P k (some ⟨b, c, ff, ff⟩)) c (k + 1) := by
  refine ⟨fun j hj => ?_, fun j hj => ?_⟩
  · by_cases e : j = k
    · subst e; exact ⟨b, upP_same _ _ _⟩
    · rw [upP_other P _ e]; exact h.1 j (by omega)
  · rw [upP_other P _ (by omega)]; exact h.2 j (by omega)
theorem filled_cnt {P : Nat → Option PSt} {c : Int} {k : Nat} (h : Filled P c k) : ∀ n, cnt (noneB P) n = n - k
  | 0 => by simp [cnt]
  | n + 1 => by
    show cnt (noneB P) n + _ = _
    rw [filled_cnt h n]
    by_cases e : n < k
    · obtain ⟨b, hb⟩ := h.1 n e
      simp [noneB, hb]
      omega
    · simp [noneB, h.2 n (by omega)]
      omega
theorem adr_zero (z : Nat) : adr 0 0 z = 1048576 := by unfold adr; omega

set_option maxRecDepth 100000 in
set_option maxHeartbeats 1000000 in
theorem pages_few (pages c d : Int) (w : World) (hT : Tab w) (h : pages < 1 ∨ 10 < pages) :
    Calls Tryd.prog 5 #[.int .i64 pages, .int .i64 c, .int .i64 d] w fun e w' => e = .returned (.bool true) ∧ Below w.heap.size w w' := by
  have HT : Hid (Tab w) := hT
  clear hT
  by_cases h1 : pages < 1
  · go_enter Tryd.func5, Tryd.ntmps5
    go_wp2_with fail
    refine (alive_any _ HT.out).mono ?_
    rintro e w1 ⟨rfl, hB1⟩
    go_wp2_with fail
    go_ret
    exact ⟨rfl, hB1⟩
  · have h2 : 10 < pages := by omega
    go_enter Tryd.func5, Tryd.ntmps5
    go_wp2_with fail
    refine (alive_any _ HT.out).mono ?_
    rintro e w1 ⟨rfl, hB1⟩
    go_wp2_with fail
    go_ret
    exact ⟨rfl, hB1⟩
set_option maxRecDepth 100000 in
set_option maxHeartbeats 1000000 in
theorem pages_badc (pages c d : Int) (w : World) (hT : Tab w) (h1 : 1 ≤ pages) (h2 : pages ≤ 10) (h : c < 0 ∨ 7 < c) :
    Calls Tryd.prog 5 #[.int .i64 pages, .int .i64 c, .int .i64 d] w fun e w' => e = .returned (.bool true) ∧ Below w.heap.size w w' := by
  have HT : Hid (Tab w) := hT
  have HC : Hid (szN c = 0) := none_sz h
  clear hT h
  go_enter Tryd.func5, Tryd.ntmps5
  go_wp2_with fail
  refine (refSize_any' HC.out _).mono ?_
  rintro e w1 ⟨rfl, hB1⟩
  go_wp2_with fail
  refine (alive_any _ (HT.out.bel hB1)).mono ?_
  rintro e w2 ⟨rfl, hB2⟩
  go_wp2_with fail
  go_ret
  exact ⟨rfl, hB1.trans (hB2.mono hB1.size)⟩
set_option maxRecDepth 100000 in
set_option maxHeartbeats 1000000 in
theorem pages_badd (pages c d : Int) (w : World) (hT : Tab w) (h1 : 1 ≤ pages) (h2 : pages ≤ 10) (hc0 : 0 ≤ c) (hc7 : c ≤ 7) (h : d < 0 ∨ 7 < d) :
    Calls Tryd.prog 5 #[.int .i64 pages, .int .i64 c, .int .i64 d] w fun e w' => e = .returned (.bool true) ∧ Below w.heap.size w w' := by
  have HT : Hid (Tab w) := hT
  have HD : Hid (szN d = 0) := none_sz h
  obtain ⟨s, hs⟩ : ∃ s, s = szN c := ⟨_, rfl⟩
  have HC : Hid (szN c = s) := hs.symm
  have hs0 : (s == 0) = false := by rw [beq_eq_false_iff_ne, hs]; exact (sz_sl hc0 hc7).1
  clear hT h hs
  go_enter Tryd.func5, Tryd.ntmps5
  go_wp2_with fail
  refine (refSize_any' HC.out _).mono ?_
  rintro e w1 ⟨rfl, hB1⟩
  have HB1 : Hid (Below w.heap.size w w1) := hB1
  clear hB1
  go_wp2_with fail
  refine (refSize_any' HD.out _).mono ?_
  rintro e w2 ⟨rfl, hB2⟩
  have HB2 : Hid (Below w.heap.size w w2) := HB1.out.trans (hB2.mono HB1.out.size)
  clear hB2
  go_wp2_with fail
  refine (alive_any _ (HT.out.bel HB2.out)).mono ?_
  rintro e w3 ⟨rfl, hB3⟩
  go_wp2_with fail
  go_ret
  exact ⟨rfl, HB2.out.trans (hB3.mono HB2.out.size)⟩

set_option maxRecDepth 100000 in
set_option maxHeartbeats 4000000 in
theorem pages_main (np : Nat) (c d : Int) (w : World) (hT : Tab w) (h1 : 1 ≤ np) (h2 : np ≤ 10) (hc0 : 0 ≤ c) (hc7 : c ≤ 7) (hd0 : 0 ≤ d) (hd7 : d ≤ 7) :
    Calls Tryd.prog 5 #[.int .i64 np, .int .i64 c, .int .i64 d] w fun e w' => e = .returned (.bool true) ∧ Below w.heap.size w w' := by
  have HT : Hid (Tab w) := hT
  obtain ⟨s, hs⟩ : ∃ s, s = szN c := ⟨_, rfl⟩
  have HC : Hid (szN c = s) := hs.symm
  have hs0 : (s == 0) = false := by rw [beq_eq_false_iff_ne, hs]; exact (sz_sl hc0 hc7).1
  obtain ⟨t, ht⟩ : ∃ t, t = szN d := ⟨_, rfl⟩
  have HD : Hid (szN d = t) := ht.symm
  have ht0 : (t == 0) = false := by rw [beq_eq_false_iff_ne, ht]; exact (sz_sl hd0 hd7).1
  have HR : Hid ((0 ≤ c ∧ c ≤ 7) ∧ (0 ≤ d ∧ d ≤ 7)) := ⟨⟨hc0, hc7⟩, hd0, hd7⟩
  clear hT hs ht hc0 hc7 hd0 hd7
  go_enter Tryd.func5, Tryd.ntmps5
  go_wp2_with fail
  refine (refSize_any' HC.out _).mono ?_
  rintro e w1 ⟨rfl, hB1⟩
  have HB1 : Hid (Below w.heap.size w w1) := hB1
  clear hB1
  go_wp2_with fail
  refine (refSize_any' HD.out _).mono ?_
  rintro e w2 ⟨rfl, hB2⟩
  have HB2 : Hid (Below w.heap.size w w2) := HB1.out.trans (hB2.mono HB1.out.size)
  clear hB2 HB1
  go_wp2_with fail
  refine (alive_any _ (HT.out.bel HB2.out)).mono ?_
  rintro e w3 ⟨rfl, hB3⟩
  have HB3 : Hid (Below w.heap.size w w3) := HB2.out.trans (hB3.mono HB2.out.size)
  clear hB3 HB2
  go_wp2_with fail
  refine (anew_any _ np _ (by omega)).mono ?_
  rintro e w4 ⟨ba, bp, bw, rfl, ha, hB⟩
  have H4 : Hid (∃ P W, AS w w4 ba bp bw np P W ∧ Filled P c 0) := ⟨_, _, ⟨⟨ha.hd, ha.pr, ha.wo, ha.pg, ha.ap, ha.out, ha.n64, Nat.le_trans HB3.out.size ha.b0, Nat.le_trans HB3.out.size ha.b1, Nat.le_trans HB3.out.size ha.b2, fun k p e => Nat.le_trans HB3.out.size (ha.b3 k p e)⟩, HB3.out.trans (hB.mono HB3.out.size), HT.out⟩, fun j hj => by omega, fun _ _ => rfl⟩
  clear ha hB HB3 HT
  go_wp2_with fail
  go_loopw [8] (fun i wr => ∃ j : Nat, j ≤ np ∧ i = .int .i64 j ∧ ∃ P W, AS w wr ba bp bw np P W ∧ Filled P c j) (fun i _ => np - (intOf i).toNat)
  case atStart => exact ⟨0, Nat.zero_le _, rfl, H4.out⟩
  case round =>
    obtain ⟨j, hj, rfl, P, W, has, hfl⟩ := hrel
    have HA : Hid (AS w wr ba bp bw np P W ∧ Filled P c j) := ⟨has, hfl⟩
    clear has hfl H4
    by_cases hlt : j < np
    · as_aux_lemma =>
      have HCn : Hid (cnt (noneB P) np = np - j) := filled_cnt HA.out.2 np
      go_wp2_with fail
      refine (room_any _ HA.out.1.ar).mono ?_
      rintro e w5 ⟨rfl, q, rfl⟩
      rw [HCn.out]
      have hcast : ((np - j : Nat) : Int) = (np : Int) - (j : Int) := by omega
      simp only [hcast]
      clear hcast HCn
      go_wp2_with fail
      refine (grow_some c _ (HA.out.1.drewN q).ar HR.out.1.1 HR.out.1.2 hlt (HA.out.2.2 j (Nat.le_refl _)) (fun i hi => by obtain ⟨b, hb⟩ := HA.out.2.1 i hi; rw [hb]; simp) (HA.out.1.drewN q).lo.size).mono ?_
      rintro e w6 ⟨rfl, b, hb, ha, hg⟩
      have H6 : Hid (∃ P W, AS w w6 ba bp bw np P W ∧ Filled P c (j + 1)) := ⟨_, _, (HA.out.1.drewN q).but hg HA.out.1.ar.b1 ha, filled_next HA.out.2⟩
      clear ha hg hb HA
      go_wp2_with fail
      go_roundw
      case rel => exact ⟨j + 1, by omega, by go_num, H6.out⟩
      case measure => simp [intOf]; omega
    · as_aux_lemma =>
      have e : j = np := by omega
      subst e
      obtain ⟨b0, hb0⟩ := HA.out.2.1 0 (by omega)
      have HB0 : Hid (P 0 = some ⟨b0, c, ff, ff⟩) := hb0
      clear hb0
      have HN := HA.out.1.ar.num HB0.out
      obtain ⟨m, hm⟩ : ∃ m, m = PSt.n ⟨b0, c, ff, ff⟩ := ⟨_, rfl⟩
      have hm2 : 2 ≤ m := by rw [hm]; exact HN.n2
      have HM : Hid (PSt.n ⟨b0, c, ff, ff⟩ = m) := hm.symm
      have hz1 := HN.s1
      obtain ⟨z, hz⟩ : ∃ z, z = PSt.sz ⟨b0, c, ff, ff⟩ := ⟨_, rfl⟩
      rw [← hz] at hz1
      have HZ : Hid (PSt.sz ⟨b0, c, ff, ff⟩ = z) := hz.symm
      clear HN hm hz
      go_wp2_with fail
      refine (atake_some c _ HA.out.1.ar (k := 0) (z := 0) (p := ⟨b0, c, ff, ff⟩) (fun k hk => by omega) ⟨HB0.out, rfl, by rw [HM.out]; omega, rfl, fun y hy => by omega⟩ HA.out.1.tb).mono ?_
      rintro e w5 ⟨rfl, ha, w5', hg1, hg2⟩
      have H5 : Hid (∃ W, AS w w5 ba bp bw j (upP P 0 (some ⟨b0, c, up ff 0 true, ff⟩)) W) := ⟨_, HA.out.1.but2 hg1 (HA.out.1.ar.b3 0 _ HB0.out) hg2 HA.out.1.ar.b2 ha⟩
      rw [adr_zero]
      have HF : Hid (∀ k, k < j → upP P 0 (some ⟨b0, c, up ff 0 true, ff⟩) k ≠ none) := fun k hk => by
        by_cases e : k = 0
        · subst e; rw [upP_same]; simp
        · rw [upP_other P _ e]
          obtain ⟨b, hb⟩ := HA.out.2.1 k hk
          rw [hb]; simp
      clear ha hg1 hg2 HA HB0
      obtain ⟨W5, H5⟩ := H5.out
      have H5' : Hid (AS w w5 ba bp bw j (upP P 0 (some ⟨b0, c, up ff 0 true, ff⟩)) W5) := H5
      clear H5
      go_wp2_with fail
      refine (grow_full d _ H5'.out.ar HR.out.2.1 HR.out.2.2 HF.out).mono ?_
      rintro e w6 ⟨rfl, hB6⟩
      have H6 : Hid (AS w w6 ba bp bw j (upP P 0 (some ⟨b0, c, up ff 0 true, ff⟩)) W5) := H5'.out.below hB6
      clear hB6 H5' HF
      go_wp2_with fail
      refine (drop_used _ H6.out.ar (k := 0) (upP_same _ _ _) (by
        show cnt (up ff 0 true) (PSt.n ⟨b0, c, ff, ff⟩) ≠ 0
        rw [HM.out, cnt_up ff 0 rfl m (by omega)]; omega)).mono ?_
      rintro e w7 ⟨rfl, q7, rfl⟩
      go_wp2_with fail
      refine (afree_in 1048576 _ (H6.out.drewN q7).ar (by decide) (k := 0) (s := 0) (p := ⟨b0, c, up ff 0 true, ff⟩) ⟨upP_same _ _ _, by show 0 < PSt.n ⟨b0, c, ff, ff⟩; rw [HM.out]; omega, rfl, by show 0 < PSt.sz ⟨b0, c, ff, ff⟩; rw [HZ.out]; omega, by rw [adr_zero]; rfl⟩).mono ?_
      rintro e w8 ⟨rfl, ha, hg⟩
      have H8 := (H6.out.drewN q7).but hg (H6.out.ar.b3 0 _ (upP_same _ _ _)) ha
      obtain ⟨P8, hP8, HA8⟩ : ∃ P8 : Nat → Option PSt, P8 0 = some ⟨b0, c, up (up ff 0 true) 0 false, up ff 0 false⟩ ∧ Hid (AS w w8 ba bp bw j P8 W5) := ⟨_, upP_same _ _ _, H8⟩
      have HP8 : Hid (P8 0 = some ⟨b0, c, up (up ff 0 true) 0 false, up ff 0 false⟩) := hP8
      clear H8 hP8 ha hg H6
      go_wp2_with fail
      refine (drop_yes _ HA8.out.ar (k := 0) HP8.out (by
        show cnt (up (up ff 0 true) 0 false) _ = 0
        rw [cnt_none _ _ (fun i _ => by by_cases e : i = 0 <;> simp [up, e])])).mono ?_
      rintro e w9 ⟨rfl, ha, hg⟩
      have H9 : Hid (AS w w9 ba bp bw j (upP P8 0 none) W5) := HA8.out.but hg HA8.out.ar.b1 ha
      clear ha hg HA8 HP8
      go_wp2_with fail
      refine (drop_none _ H9.out.ar 0 (by show atI _ ((0 : Nat) : Int) = none; rw [atI_nat, upP_same])).mono ?_
      rintro e w10 ⟨rfl, q10, rfl⟩
      go_wp2_with fail
      refine (grow_some d _ (H9.out.drewN q10).ar HR.out.2.1 HR.out.2.2 (k := 0) (by omega) (upP_same _ _ _) (fun i hi => by omega) (H9.out.drewN q10).lo.size).mono ?_
      rintro e w11 ⟨rfl, b1, hb1, ha, hg⟩
      have H11 := (H9.out.drewN q10).but hg H9.out.ar.b1 ha
      obtain ⟨P11, hP11, HA11⟩ : ∃ P11 : Nat → Option PSt, P11 0 = some ⟨b1, d, ff, ff⟩ ∧ Hid (AS w w11 ba bp bw j P11 W5) := ⟨_, upP_same _ _ _, H11⟩
      have HP11 : Hid (P11 0 = some ⟨b1, d, ff, ff⟩) := hP11
      clear H11 hP11 ha hg hb1 H9
      go_wp2_with fail
      refine (page_some 0 _ HA11.out.ar HP11.out).mono ?_
      rintro e w12 ⟨rfl, rfl⟩
      go_wp2_with fail
      refine (atake_some d _ HA11.out.ar (k := 0) (z := 0) (p := ⟨b1, d, ff, ff⟩) (fun k hk => by omega) ⟨HP11.out, rfl, Nat.lt_of_lt_of_le (by decide) (HA11.out.ar.num HP11.out).n2, rfl, fun y hy => by omega⟩ HA11.out.tb).mono ?_
      rintro e w13 ⟨rfl, ha, w13', hg1, hg2⟩
      have H13 : Hid (∃ W, AS w w13 ba bp bw j (upP P11 0 (some ⟨b1, d, up ff 0 true, ff⟩)) W) := ⟨_, HA11.out.but2 hg1 (HA11.out.ar.b3 0 _ HP11.out) hg2 HA11.out.ar.b2 ha⟩
      rw [adr_zero]
      clear ha hg1 hg2 HA11 HP11
      obtain ⟨W13, H13⟩ := H13.out
      have H13' : Hid (AS w w13 ba bp bw j (upP P11 0 (some ⟨b1, d, up ff 0 true, ff⟩)) W13) := H13
      clear H13
      go_wp2_with fail
      refine (class_any _ (H13'.out.ar.pg 0 _ (upP_same _ _ _))).mono ?_
      rintro e w14 ⟨rfl, rfl⟩
      go_wp2_with fail
      go_ret
      exact ⟨by simp, H13'.out.lo⟩

theorem pages_any (pages c d : Int) (w : World) (hT : Tab w) :
    Calls Tryd.prog 5 #[.int .i64 pages, .int .i64 c, .int .i64 d] w fun e w' => e = .returned (.bool true) ∧ Below w.heap.size w w' := by
  by_cases h1 : pages < 1 ∨ 10 < pages
  · exact pages_few pages c d w hT h1
  · by_cases h2 : c < 0 ∨ 7 < c
    · exact pages_badc pages c d w hT (by omega) (by omega) h2
    · by_cases h3 : d < 0 ∨ 7 < d
      · exact pages_badd pages c d w hT (by omega) (by omega) (by omega) (by omega) h3
      · obtain ⟨np, rfl⟩ := Int.eq_ofNat_of_zero_le (a := pages) (by omega)
        exact pages_main np c d w hT (by omega) (by omega) (by omega) (by omega) (by omega) (by omega)

end Go.Proofs.YtjpeppflldmffaaDoor

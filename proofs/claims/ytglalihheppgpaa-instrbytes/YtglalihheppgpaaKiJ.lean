/- The walk of besombook's Apart, for a Book that keeps ints alone. -/
import Derived.Test.YtglalihheppgpaaKiI
namespace Go.Proofs.Ytglalihheppgpaa
open Go.RowKit

theorem mkUp_all {I : List (Value × List Ins)} {j : Nat} {p : Value × List Ins} (h : (mkUp I.length I)[j]? = some p) : ∃ q, I[j]? = some q ∧ p = (q.1, mks j 0 q.2.length) := by
  rw [mkUp_at] at h
  cases hq : I[j]? with
  | none => rw [hq] at h; simp at h
  | some q =>
    rw [hq] at h
    have hlt := (List.getElem?_eq_some_iff.1 hq).1
    simp [hlt] at h
    exact ⟨q, rfl, h.symm⟩

set_option maxHeartbeats 2000000 in
theorem apart_any (w : World) {B bk : Nat} {vi vw : Value} {I W : List (Value × List Ins)} (h : BookAt w B bk vi vw I W) (hBw : B ≤ w.heap.size) (hIW : I.map Prod.snd = W.map Prod.snd) (hIl : I.length ≤ 250) (hL : ∀ p ∈ I, p.2.length ≤ 900) :
    Calls Try.prog 19 #[.pointer (some ⟨bk, 0, none⟩)] w fun e w' => e = .returned (.bool true) ∧ Below B w w' := by
  have hL' : ∀ p ∈ I, p.2.length ≤ 1000 := fun p hp => Nat.le_trans (hL p hp) (by omega)
  have HLM : Hid (∀ j p, (mkUp I.length I)[j]? = some p → p.2 = mks j 0 p.2.length ∧ p.2.length ≤ 900) := by
    intro j p hp
    obtain ⟨q, hq, rfl⟩ := mkUp_all hp
    have := hL q (List.mem_of_getElem? hq)
    exact ⟨by simp [mks_len], by simpa [mks_len] using this⟩
  have HML : Hid ((mkUp I.length I).length ≤ 250) := by unfold Hid; rw [mkUp_len]; exact hIl
  have H0 : Hid (BookAt w B bk vi vw I W) := h
  have HBw : Hid (B ≤ w.heap.size) := hBw
  have HX : Hid (I.map Prod.snd = W.map Prod.snd ∧ I.length ≤ 250 ∧ ∀ p ∈ I, p.2.length ≤ 1000) := ⟨hIW, hIl, hL'⟩
  clear h hBw hIW hIl hL hL'
  go_enter Try.func19, Try.ntmps19
  go_wp2_with fail
  refine (stillInts_any _ (H0.out.cx 0 (by decide) (by decide) (by decide))).mono ?_
  rintro e w1 ⟨rfl, rfl⟩
  go_wp2_with fail
  refine (stillInstrs_any _ H0.out HX.out.1 HX.out.2.1 HX.out.2.2).mono ?_
  rintro e w2 ⟨rfl, q, rfl⟩
  have HB1 : Hid (BookAt (w1.drewN q) B bk vi vw I W) := H0.out.drewN q
  go_wp2_with fail
  refine (stillPairs_any _ (HB1.out.cx 4 (by decide) (by decide) (by decide))).mono ?_
  rintro e w1 ⟨rfl, rfl⟩
  go_wp2_with fail
  refine (stillEntries_any _ (HB1.out.cx 6 (by decide) (by decide) (by decide))).mono ?_
  rintro e w1 ⟨rfl, rfl⟩
  go_wp2_with fail
  refine (stillObjects_any _ (HB1.out.cx 8 (by decide) (by decide) (by decide))).mono ?_
  rintro e w1 ⟨rfl, rfl⟩
  go_wp2_with fail
  refine (putObjects_any _ (HB1.out.cx 8 (by decide) (by decide) (by decide))).mono ?_
  rintro e w1 ⟨rfl, rfl⟩
  go_wp2_with fail
  refine (putInts_any _ (HB1.out.cx 0 (by decide) (by decide) (by decide))).mono ?_
  rintro e wz ⟨rfl, rfl⟩
  go_wp2_with fail
  refine (putInstrs_any _ HB1.out HX.out.2.1 HX.out.2.2).mono ?_
  rintro e w2 ⟨rfl, hb2, ht2⟩
  have HB2 : Hid (BookAt w2 B bk vi vw (mkUp I.length I) W) := hb2
  have HLo2 : Hid (Below B w1 w2) := ⟨ht2.os, ht2.tape, ht2.output, ht2.size, fun i hi => ht2.low i (Nat.lt_of_lt_of_le hi HBw.out) hi⟩
  have HBw2 : Hid (B ≤ w2.heap.size) := Nat.le_trans HBw.out HLo2.out.size
  clear hb2 ht2 HB1 H0
  go_wp2_with fail
  refine (putPairs_any _ (HB2.out.cx 4 (by decide) (by decide) (by decide))).mono ?_
  rintro e w3 ⟨rfl, rfl⟩
  go_wp2_with fail
  refine (putEntries_any _ (HB2.out.cx 6 (by decide) (by decide) (by decide))).mono ?_
  rintro e w3 ⟨rfl, rfl⟩
  go_wp2_with fail
  refine (growInts_any _ (HB2.out.cx 0 (by decide) (by decide) (by decide))).mono ?_
  rintro e w3 ⟨rfl, rfl⟩
  go_wp2_with fail
  refine (growInstrs_any _ HB2.out HBw2.out HML.out HLM.out).mono ?_
  rintro e w4 ⟨vg, G, rfl, hgs⟩
  have HG : Hid (GrowSt w3 w4 B bk vi vw (mkUp I.length I) W (mkUp I.length I).length vg G) := hgs
  have HLo4 : Hid (Below B w1 w4) := HLo2.out.trans HG.out.lo
  clear hgs
  have hc0 := HG.out.bo.cx 0 (by decide) (by decide) (by decide)
  have hc4 := HG.out.bo.cx 4 (by decide) (by decide) (by decide)
  have hc6 := HG.out.bo.cx 6 (by decide) (by decide) (by decide)
  have hc8 := HG.out.bo.cx 8 (by decide) (by decide) (by decide)
  go_wp2_with fail
  refine (growPairs_any _ hc4).mono ?_
  rintro e w5 ⟨rfl, rfl⟩
  go_wp2_with fail
  refine (growEntries_any _ hc6).mono ?_
  rintro e w5 ⟨rfl, rfl⟩
  go_wp2_with fail
  refine (growObjects_any _ hc8).mono ?_
  rintro e w5 ⟨rfl, rfl⟩
  go_wp2_with fail
  refine (markedInts_any _).mono ?_
  rintro e w5 ⟨rfl, rfl⟩
  go_wp2_with fail
  refine (markedInts_any _).mono ?_
  rintro e w5 ⟨rfl, rfl⟩
  clear hc0 hc4 hc6 hc8
  have hGl : G.length ≤ 250 := by rw [HG.out.len]; exact HML.out
  go_wp2_with fail
  refine (markedInstrs_any _ (own_base HG.out.out HBw2.out) hGl HG.out.ok).mono ?_
  rintro e w6 ⟨rfl, hB6⟩
  have HB6 : Hid (BookAt w6 B bk vi vw (mkUp I.length I) W) := HG.out.bo.below hB6
  have HLo6 : Hid (Below B w1 w6) := HLo4.out.trans (hB6.mono (Nat.le_trans HBw.out HLo4.out.size))
  clear hB6 hGl HG HLo4
  obtain ⟨ai, ci, evi⟩ := own_lenG HB6.out.oi
  subst evi
  have hc0 := HB6.out.c0
  go_wp2_with fail
  refine (markedInstrs_any _ HB6.out.oi HML.out (fun j p hp => ⟨HB6.out.ri p (List.mem_of_getElem? hp), (HLM.out j p hp).1, Nat.le_trans (HLM.out j p hp).2 (by omega)⟩)).mono ?_
  rintro e w7 ⟨rfl, hB7⟩
  have HB7 : Hid (BookAt w7 B bk _ vw (mkUp I.length I) W) := HB6.out.below hB7
  have HLo7 : Hid (Below B w1 w7) := HLo6.out.trans (hB7.mono (Nat.le_trans HBw.out HLo6.out.size))
  clear hc0 hB7
  have hc4 := HB7.out.cx 4 (by decide) (by decide) (by decide)
  have hc6 := HB7.out.cx 6 (by decide) (by decide) (by decide)
  have hc8 := HB7.out.cx 8 (by decide) (by decide) (by decide)
  clear HB7 HB6 HLo6
  go_wp2_with (first
    | (go_at_call 50; refine (markedPairs_any _).mono ?_; rintro e w8 ⟨rfl, rfl⟩)
    | (go_at_call 51; refine (markedEntries_any _).mono ?_; rintro e w8 ⟨rfl, rfl⟩)
    | (go_at_call 52; refine (markedObjects_any _).mono ?_; rintro e w8 ⟨rfl, rfl⟩))
  go_ret
  exact ⟨rfl, HLo7.out⟩

end Go.Proofs.Ytglalihheppgpaa

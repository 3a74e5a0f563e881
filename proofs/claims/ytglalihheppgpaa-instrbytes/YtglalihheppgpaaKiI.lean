/- The walk of besombook's growInts. -/
import Derived.Test.YtglalihheppgpaaKiH
namespace Go.Proofs.Ytglalihheppgpaa
open Go.RowKit

theorem mark_one (i f : Nat) (w : World) (hi' : i ≤ 1000) (hf : f ≤ 100000) :
    Calls Try.prog 67 #[.int .i64 i, .int .i64 f, .int .i64 1] w fun e w' => ∃ v, e = .returned v ∧ w'.ownsRow w.heap.size 23 4 v 1 ((mks i f 1).flatMap Ins.cs) ∧ Below w.heap.size w w' := mark_any i f 1 w hi' hf (by omega)
theorem mark_many (i f : Nat) (w : World) (hi' : i ≤ 1000) (hf : f ≤ 100000) :
    Calls Try.prog 67 #[.int .i64 i, .int .i64 f, .int .i64 60] w fun e w' => ∃ v, e = .returned v ∧ w'.ownsRow w.heap.size 23 4 v 60 ((mks i f 60).flatMap Ins.cs) ∧ Below w.heap.size w w' := mark_any i f 60 w hi' hf (by omega)

theorem own_news {w : World} {B g n cap sz : Nat} {e : TypeId} {xs : List Value} (h : w.ownsRow B e sz (.slice (some ⟨g, 0, none⟩) n cap) n xs) : ∀ j u, xs[j]? = some u → w.cell? ((⟨g, 0, none⟩ : Addr).add j) = some u := h.cells rfl
theorem split_pref {j t : Nat} {L : List Ins} (h : L = mks j 0 L.length) : (mks j 0 (L.length + t)).flatMap Ins.cs = L.flatMap Ins.cs ++ (mks j L.length t).flatMap Ins.cs := by
  rw [mks_add, List.flatMap_append, ← h, Nat.zero_add]

set_option maxRecDepth 100000 in
set_option maxHeartbeats 2000000 in
theorem growInstrs_any (w : World) {B bk : Nat} {vi vw : Value} {I W : List (Value × List Ins)} (h : BookAt w B bk vi vw I W) (hBw : B ≤ w.heap.size) (hIl : I.length ≤ 250) (hL : ∀ j p, I[j]? = some p → p.2 = mks j 0 p.2.length ∧ p.2.length ≤ 900) :
    Calls Try.prog 44 #[.pointer (some ⟨bk, 0, none⟩)] w fun e w' => ∃ vg G, e = .returned vg ∧ GrowSt w w' B bk vi vw I W I.length vg G := by
  obtain ⟨i0, hi, hz0, hz1, hz2⟩ := info_parts Try.info23
  obtain ⟨i1, hi1, hy0, hy1, hy2⟩ := info_parts Try.info43
  obtain ⟨ai, ci, evi⟩ := own_lenG h.oi
  subst evi
  have HL : Hid (∀ j p, I[j]? = some p → p.2 = mks j 0 p.2.length ∧ p.2.length ≤ 900) := hL
  have H0 : Hid (BookAt w B bk (.slice ai I.length ci) vw I W) := h
  have HBw : Hid (B ≤ w.heap.size) := hBw
  clear h hL hBw
  go_enter Try.func44, Try.ntmps44
  go_wp2
  go_loopw [3, 4] (fun vo i wr => ∃ j : Nat, j ≤ I.length ∧ i = .int .i64 j ∧ ∃ G, GrowSt w wr B bk (.slice ai I.length ci) vw I W j vo G) (fun _ i _ => I.length - (intOf i).toNat)
  case atStart => exact ⟨0, Nat.zero_le _, rfl, [], ⟨H0.out, World.ownsRow_nil _ _ _ _, rfl, fun k p hp => by simp at hp, fun k p m q hp => by simp at hp, Below.refl _ _⟩⟩
  case round =>
    obtain ⟨vo, hvo⟩ : ∃ vo, vo = u3 := ⟨_, rfl⟩
    subst hvo
    obtain ⟨j, hj, rfl, G, gst⟩ := hrel
    have HG : Hid (GrowSt w wr B bk (.slice ai I.length ci) vw I W j vo G) := gst
    have hc0 := HG.out.bo.c0
    clear gst
    by_cases hlt : j < I.length
    · obtain ⟨g0, c0, e0, _, hg0, k0, _⟩ := own_cell HG.out.bo.oi (by omega)
      simp only [Value.slice.injEq, true_and] at e0
      obtain ⟨rfl, rfl⟩ := e0
      have hp : I[j]? = some I[j] := List.getElem?_eq_getElem hlt
      have hk := k0 j hlt
      rw [map_fst_at hp] at hk
      have hm : I[j] ∈ I := List.getElem_mem hlt
      obtain ⟨hl1, hl0⟩ := HL.out _ _ hp
      have o0 := HG.out.bo.ri _ hm
      generalize I[j] = p0 at *
      obtain ⟨v0, L0⟩ := p0
      obtain ⟨x0, y0, z0⟩ := own_lenG o0
      have z0' : v0 = .slice x0 L0.length y0 := z0
      subst z0'
      have hl : L0.length ≤ 900 := hl0
      have HP : Hid (I[j]? = some (Value.slice x0 L0.length y0, L0)) := hp
      have HM : Hid (L0 = mks j 0 L0.length) := hl1
      have HO0 : Hid (wr.ownsRow B 23 4 (.slice x0 L0.length y0) L0.length (L0.flatMap Ins.cs)) := o0
      have HJ : Hid (j ≤ 1000) := by show j ≤ 1000; omega
      clear k0 hp hm hl0 hl1 o0 z0
      obtain ⟨wo, hwo⟩ : ∃ wo, wo = wr := ⟨_, rfl⟩
      subst hwo
      have hk' : wo.cell? ⟨g0, j, none⟩ = some (Value.slice x0 L0.length y0) := hk
      clear hk
      go_wp2_with fail
      go_loopw [5, 6] (fun l n wk => ∃ t : Nat, t ≤ 12 ∧ n = .int .i64 t ∧ wk.ownsRow B 23 4 l (L0.length + t) ((mks j 0 (L0.length + t)).flatMap Ins.cs) ∧ Lies l (.slice x0 L0.length y0) wo.heap.size ∧ GrowSt w wk B bk (.slice (some ⟨g0, 0, none⟩) I.length ci) vw I W j vo G ∧ wo.heap.size ≤ wk.heap.size) (fun _ n _ => 12 - (intOf n).toNat)
      case atStart => exact ⟨0, Nat.zero_le _, rfl, by rw [Nat.add_zero, ← HM.out]; exact HO0.out, lies_self HO0.out, HG.out, Nat.le_refl _⟩
      case round =>
        obtain ⟨lv, hlv⟩ : ∃ lv, lv = u5 := ⟨_, rfl⟩
        subst hlv
        obtain ⟨t, ht, rfl, hown, hlies, hgs, hsz⟩ := hrel
        obtain ⟨al, cl', rfl⟩ := own_lenG hown
        obtain ⟨n1, hn1⟩ : ∃ n1, n1 = L0.length + t := ⟨_, rfl⟩
        have HN : Hid (n1 = L0.length + t) := hn1
        have hn1b : n1 ≤ 912 := by omega
        rw [← hn1] at hown hlies ⊢
        have HOW : Hid (wr.ownsRow B 23 4 (.slice al n1 cl') n1 ((mks j 0 n1).flatMap Ins.cs)) := hown
        have HLI : Hid (Lies (.slice al n1 cl') (.slice x0 L0.length y0) wo.heap.size) := hlies
        have HGS : Hid (GrowSt w wr B bk (.slice (some ⟨g0, 0, none⟩) I.length ci) vw I W j vo G) := hgs
        have HSZ : Hid (wo.heap.size ≤ wr.heap.size) := hsz
        clear hn1 hown hlies hgs hsz hk' hc0
        by_cases hlt2 : t < 12
        · go_wp2_with fail
          refine (mark_one j n1 _ HJ.out (by omega)).mono ?_
          rintro e w1 ⟨vm, rfl, hom, hB1⟩
          obtain ⟨gm, cm, rfl, _, _, _, _⟩ := own_cell4 hom (by decide)
          have hnews := own_news hom
          have HO1 : Hid (w1.ownsRow B 23 4 (.slice al n1 cl') n1 ((mks j 0 n1).flatMap Ins.cs)) := (Ty.of_below (K := []) (B := 0) hB1).own HOW.out (by simp)
          have HG1 : Hid (GrowSt w w1 B bk (.slice (some ⟨g0, 0, none⟩) I.length ci) vw I W j vo G) := HGS.out.below hB1 HBw.out
          have HS1 : Hid (wo.heap.size ≤ w1.heap.size) := Nat.le_trans HSZ.out hB1.size
          have HB : Hid (B ≤ w1.heap.size) := Nat.le_trans HBw.out HG1.out.lo.size
          have HNW : Hid (∀ j' u, ((mks j n1 1).flatMap Ins.cs)[j']? = some u → w1.cell? ((⟨gm, 0, none⟩ : Addr).add j') = some u) := hnews
          clear hom hnews hB1 HOW HGS HSZ
          go_wp2_with (at_builtin; refine wpList_append_keepG _ rfl _ _ 43 rfl B 23 i0 (.agg #[.int .i64 0, .int .i64 0, .int .i64 0, .int .i64 0]) 4 32 Try.underlying43 hi hz0 hz1 hz2 rfl (by decide) _ _ _ rfl HO1.out ⟨gm, 0, none⟩ 1 cm ((mks j n1 1).flatMap Ins.cs) rfl rfl HNW.out (flI_one _) (by decide) (by unfold maxLen; omega) (by omega) HB.out ?_)
          · intro g cap w2 hnew hkeep hgrow hat
            have hk2 : w2.ownsRow B 23 4 (.slice al n1 cl') (L0.length + t) (L0.flatMap Ins.cs ++ (mks j L0.length t).flatMap Ins.cs) := by
              rw [← split_pref HM.out, ← HN.out]; exact hkeep
            have G2 := grow_step HG.out HG1.out HBw.out HP.out HLI.out HO1.out hgrow hk2
            have LI2 : Lies (.slice (some ⟨g, 0, none⟩) (n1 + 1) cap) (.slice x0 L0.length y0) wo.heap.size := lies_next HLI.out HS1.out (hat.imp (fun ⟨a1, b1⟩ => ⟨n1, by rw [a1, b1]⟩) id)
            have OW2 : w2.ownsRow B 23 4 (.slice (some ⟨g, 0, none⟩) (n1 + 1) cap) (n1 + 1) ((mks j 0 (n1 + 1)).flatMap Ins.cs) := by
              have e : (mks j 0 (n1 + 1)).flatMap Ins.cs = (mks j 0 n1).flatMap Ins.cs ++ (mks j n1 1).flatMap Ins.cs := by
                rw [mks_add, List.flatMap_append, Nat.zero_add]
              rw [e]; exact hnew
            have HX : Hid (GrowSt w w2 B bk (.slice (some ⟨g0, 0, none⟩) I.length ci) vw I W j vo G ∧ Lies (.slice (some ⟨g, 0, none⟩) (n1 + 1) cap) (.slice x0 L0.length y0) wo.heap.size ∧ w2.ownsRow B 23 4 (.slice (some ⟨g, 0, none⟩) (n1 + 1) cap) (n1 + 1) ((mks j 0 (n1 + 1)).flatMap Ins.cs) ∧ wo.heap.size ≤ w2.heap.size) := ⟨G2, LI2, OW2, Nat.le_trans HS1.out hgrow.size⟩
            clear hnew hkeep hgrow hat hk2 G2 LI2 OW2
            have hnn : n1 + 1 = L0.length + (t + 1) := by have := HN.out; omega
            have HNN : Hid (n1 + 1 = L0.length + (t + 1)) := hnn
            clear hnn
            go_wp2_with fail
            go_roundw
            case rel => exact ⟨t + 1, by omega, by go_num, by rw [← HNN.out]; exact HX.out.2.2.1, HX.out.2.1, HX.out.1, HX.out.2.2.2⟩
            case measure => simp [intOf]; omega
        · go_wp2_with fail
          refine (mark_many j n1 _ HJ.out (by omega)).mono ?_
          rintro e w1 ⟨vm, rfl, hom, hB1⟩
          obtain ⟨gm, cm, rfl, _, _, _, _⟩ := own_cell4 hom (by decide)
          have hnews := own_news hom
          have HO1 : Hid (w1.ownsRow B 23 4 (.slice al n1 cl') n1 ((mks j 0 n1).flatMap Ins.cs)) := (Ty.of_below (K := []) (B := 0) hB1).own HOW.out (by simp)
          have HG1 : Hid (GrowSt w w1 B bk (.slice (some ⟨g0, 0, none⟩) I.length ci) vw I W j vo G) := HGS.out.below hB1 HBw.out
          have HS1 : Hid (wo.heap.size ≤ w1.heap.size) := Nat.le_trans HSZ.out hB1.size
          have HB : Hid (B ≤ w1.heap.size) := Nat.le_trans HBw.out HG1.out.lo.size
          have HNW : Hid (∀ j' u, ((mks j n1 60).flatMap Ins.cs)[j']? = some u → w1.cell? ((⟨gm, 0, none⟩ : Addr).add j') = some u) := hnews
          have HNL : Hid (((mks j n1 60).flatMap Ins.cs).length = 60 * 4) := by unfold Hid; have := flI_len (mks j n1 60); rwa [mks_len] at this
          clear hom hnews hB1 HOW HGS HSZ
          obtain ⟨nl, hnl⟩ : ∃ nl, nl = (mks j n1 60).flatMap Ins.cs := ⟨_, rfl⟩
          rw [← hnl] at HNW HNL
          have HNE : Hid (nl = (mks j n1 60).flatMap Ins.cs) := hnl
          have HN1 : Hid (∀ u ∈ nl, u.oneCell' = true) := by unfold Hid; rw [hnl]; exact flI_one _
          clear hnl
          go_wp2_with (at_builtin; refine wpList_append_keepG _ rfl _ _ 43 rfl B 23 i0 (.agg #[.int .i64 0, .int .i64 0, .int .i64 0, .int .i64 0]) 4 32 Try.underlying43 hi hz0 hz1 hz2 rfl (by decide) _ _ _ rfl HO1.out ⟨gm, 0, none⟩ 60 cm nl rfl HNL.out HNW.out HN1.out (by decide) (by unfold maxLen; omega) (by omega) HB.out ?_)
          · intro g cap w2 hnew hkeep hgrow hat
            have hk2 : w2.ownsRow B 23 4 (.slice al n1 cl') (L0.length + t) (L0.flatMap Ins.cs ++ (mks j L0.length t).flatMap Ins.cs) := by
              rw [← split_pref HM.out, ← HN.out]; exact hkeep
            have G2 := grow_step HG.out HG1.out HBw.out HP.out HLI.out HO1.out hgrow hk2
            have LI2 : Lies (.slice (some ⟨g, 0, none⟩) (n1 + 60) cap) (.slice x0 L0.length y0) wo.heap.size := lies_next HLI.out HS1.out (hat.imp (fun ⟨a1, b1⟩ => ⟨n1, by rw [a1, b1]⟩) id)
            have OW2 : OwnInts w2 B (.slice (some ⟨g, 0, none⟩) (n1 + 60) cap, mks j 0 (n1 + 60)) := by
              show w2.ownsRow B 23 4 _ (mks j 0 (n1 + 60)).length ((mks j 0 (n1 + 60)).flatMap Ins.cs)
              have e : (mks j 0 (n1 + 60)).flatMap Ins.cs = (mks j 0 n1).flatMap Ins.cs ++ nl := by
                rw [HNE.out, mks_add, List.flatMap_append, Nat.zero_add]
              rw [mks_len, e]; exact hnew
            have HG2 : Hid (GrowSt w w2 B bk (.slice (some ⟨g0, 0, none⟩) I.length ci) vw I W j vo G) := G2
            have HL2 : Hid (Lies (.slice (some ⟨g, 0, none⟩) (n1 + 60) cap) (.slice x0 L0.length y0) wo.heap.size) := LI2
            have HO2 : Hid (OwnInts w2 B (.slice (some ⟨g, 0, none⟩) (n1 + 60) cap, mks j 0 (n1 + 60))) := OW2
            clear hnew hkeep hgrow hat hk2 G2 LI2 OW2 HNW HNL HNE HN1 HO1 HG1 HS1 HB
            have hout := HG2.out.out
            obtain ⟨ao, co, eo⟩ := own_lenG hout
            subst eo
            have HOO : Hid (w2.ownsRow w.heap.size 43 1 (.slice ao G.length co) G.length (G.map Prod.fst)) := hout
            have hGl : G.length = j := HG2.out.len
            have HNO := new_one w2 (.slice (some ⟨g, 0, none⟩) (n1 + 60) cap) 43
            have HH : Hid ((∀ j' u, [Value.slice (some ⟨g, 0, none⟩) (n1 + 60) cap][j']? = some u → (w2.alloc (.cells #[.slice (some ⟨g, 0, none⟩) (n1 + 60) cap] 43)).cell? ((⟨w2.heap.size, 0, none⟩ : Addr).add j') = some u) ∧ G.length + 1 ≤ maxLen ∧ (G.length + 1) * 24 ≤ 140737488355328 ∧ w.heap.size ≤ (w2.alloc (.cells #[.slice (some ⟨g, 0, none⟩) (n1 + 60) cap] 43)).heap.size) :=
              ⟨HNO, by unfold maxLen; omega, by omega, by have := HG2.out.lo.size; simp; omega⟩
            have HGL : Hid (G.length = j) := hGl
            clear hout HNO hGl
            go_wp2_with (at_builtin; refine wpList_append_keep _ rfl _ _ 31 rfl w.heap.size 43 i1 (.slice none 0 0) 24 Try.underlying31 hi1 hy0 hy1 hy2 rfl _ _ _ rfl (HOO.out.alloc _) ⟨w2.heap.size, 0, none⟩ 1 1 [.slice (some ⟨g, 0, none⟩) (n1 + 60) cap] rfl rfl HH.out.1 (one_of rfl) (by decide) HH.out.2.1 HH.out.2.2.1 HH.out.2.2.2 ?_)
            · intro g5 cap5 w5 hnew5 _ hgrow5 _
              have hA : Below w2.heap.size w2 (w2.alloc (.cells #[.slice (some ⟨g, 0, none⟩) (n1 + 60) cap] 43)) := (Below.refl _ _).alloc (Nat.le_refl _) _
              have G5 := grow_out H0.out HG.out (HG2.out.below hA HBw.out) HBw.out HP.out HL2.out (HO2.out.below hA) (by rw [mks_len]) (by rw [mks_len]; omega) hgrow5 hnew5
              have HG5 : Hid (GrowSt w w5 B bk (.slice (some ⟨g0, 0, none⟩) I.length ci) vw I W (j + 1) (.slice (some ⟨g5, 0, none⟩) (G.length + 1) cap5) (G ++ [(.slice (some ⟨g, 0, none⟩) (n1 + 60) cap, mks j 0 (n1 + 60))])) := G5
              clear hA G5 hnew5 hgrow5 HH HOO HO2 HL2 HG2
              go_wp2_with fail
              go_roundw
              case rel => exact ⟨j + 1, by omega, by go_num, _, HG5.out⟩
              case measure => simp [intOf]; omega
    · have e : j = I.length := by omega
      subst e
      go_wp2
      go_ret
      exact ⟨_, G, rfl, HG.out⟩

end Go.Proofs.Ytglalihheppgpaa

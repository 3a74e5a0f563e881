/- ArenaPlays in parts: the switch's case 2 (Take). -/
import Derived.Test.YtjpeppflldmffaaDoorApK
namespace Go.Proofs.YtjpeppflldmffaaDoor
open Go.RowKit

theorem clrF_next (W : Nat → Int) (o j : Nat) : upW (clrF W o j) (o + j) 0 = clrF W o (j + 1) := by
  funext x
  unfold upW clrF
  by_cases e : x = o + j
  · rw [if_pos e, if_pos (by omega)]
  · rw [if_neg e]
    by_cases h : o ≤ x ∧ x < o + j
    · rw [if_pos h, if_pos (by omega)]
    · rw [if_neg h, if_neg (by omega)]

section
variable {w w6 : World} {X : Arg} {I : Ids} {i ob : Nat} {nn vv : Int} {nr : Bool} {P : Nat → Option PSt} {W : Nat → Int} (a : Act) (hE : Env X I i ob a)
include hE
set_option maxRecDepth 100000 in
set_option maxHeartbeats 8000000 in
theorem sw_take (h126 : a.tmps.toList[126]? = some (.int .i64 2)) (h : RP w w6 I P W P W ob 2 nn vv nr) : code4.wp Tryd.prog (SwPost w X I i ob 2 nn vv nr) a w6 := by
  have H : Hid (RP w w6 I P W P W ob 2 nn vv nr) := h
  obtain ⟨v, ha, hv⟩ := hE.open
  rw [hv 126 _ h126] at ha
  clear hv h126 hE
  subst ha
  have hn8 := h.ro.n8
  clear h
  unfold SwPost
  conv => arg 2; whnf
  go_upto_block 9 with (fail)
  refine Code.wp_mono ?_ (search (P := P) (W := W) _ ⟨by kernel_rfl, rfl, rfl, rfl, rfl, rfl, rfl, rfl, rfl, rfl, rfl, rfl⟩ rfl rfl H.out)
  rintro e a' w7 ⟨rfl, hE, wv, h20, hcase⟩
  obtain ⟨v', ha', hv'⟩ := hE.open
  rw [hv' 20 _ h20] at ha'
  clear hv' h20 hE H
  obtain ⟨z, hz⟩ : ∃ z, z = szN nn := ⟨_, rfl⟩
  have HZ : Hid (szN nn = z) := hz.symm
  clear hz
  rcases hcase with ⟨rfl, hno, hr⟩ | ⟨k, s, p, hno, hfit, rfl, hr⟩
  · as_aux_lemma =>
    have HR : Hid (RP w w7 I P W P W ob 2 nn vv nr) := hr
    have HN : Hid (NoFit P nn I.n) := hno
    have ho1 := hr.o1
    clear hr hno
    subst ha'
    go_wp2_with fail
    refine (atake_none _ _ HR.out.ro.ar HN.out).mono ?_
    rintro e w8 ⟨rfl, q, rfl⟩
    have H8 : Hid (RP w (w7.drewN q) I P W P W ob 2 nn vv nr) := HR.out.drewN q
    clear HR HN ho1
    go_wp2_with fail
    go_loopw [25] (fun xv wk => xv = .int .i64 0 ∧ RP w wk I P W P W ob 2 nn vv nr) (fun _ _ => 0)
    case atStart => exact ⟨rfl, H8.out⟩
    case round =>
      obtain ⟨rfl, hr⟩ := hrel
      have HR : Hid (RP w wr I P W P W ob 2 nn vv nr) := hr
      have ho1 := hr.o1
      clear hr H8
      by_cases hz : 0 < z
      · as_aux_lemma =>
        go_wp2_with fail
        refine (refSize_any' HZ.out _).mono ?_
        rintro e w9 ⟨rfl, hB⟩
        have H9 : Hid (RP w w9 I P W P W ob 2 nn vv nr) := HR.out.below hB
        clear hB
        go_wp2_with fail
        exact ⟨rfl, ⟨by kernel_rfl, rfl, rfl, rfl, rfl, rfl, rfl, rfl, rfl, rfl, rfl, rfl⟩, rfl, _, _, H9.out⟩
      · as_aux_lemma =>
        go_wp2_with fail
        refine (refSize_any' HZ.out _).mono ?_
        rintro e w9 ⟨rfl, hB⟩
        have H9 : Hid (RP w w9 I P W P W ob 2 nn vv nr) := HR.out.below hB
        clear hB
        go_wp2_with fail
        exact ⟨rfl, ⟨by kernel_rfl, rfl, rfl, rfl, rfl, rfl, rfl, rfl, rfl, rfl, rfl, rfl⟩, rfl, _, _, H9.out⟩
  · as_aux_lemma =>
    have HR : Hid (RP w w7 I P W (tk P k s p) W ob 2 nn vv nr) := hr
    have HF : Hid (NoFit P nn k ∧ Fit P nn k s p) := ⟨hno, hfit⟩
    have ho1 := hr.o1
    have hnum := hr.ro.ar.num hfit.hp
    have hk := hr.ro.ar.klt hfit.hp
    have hs := hfit.hz
    have hm1 := slot_le hnum.m hs
    have hz : z = (p.sz : Int) := by rw [← HZ.out, ← hfit.hc]; exact hnum.hs
    have HZ2 : Hid (szN nn = (p.sz : Int)) := by show szN nn = _; rw [HZ.out]; exact hz
    have hz16 := hnum.s16
    obtain ⟨o, ho⟩ : ∃ o, o = 32 * k + s * p.sz := ⟨_, rfl⟩
    have HO : Hid (o = 32 * k + s * p.sz) := ho
    have hoN : o + p.sz ≤ 32 * I.n := by rw [ho]; omega
    have had : ((adr k s p.sz : Nat) : Int) = 1048576 + (o : Int) := by unfold adr; rw [ho]; omega
    have HAd : Hid (((adr k s p.sz : Nat) : Int) = 1048576 + (o : Int)) := had
    obtain ⟨y, hy⟩ : ∃ y : Int, y = 1048576 + (o : Int) := ⟨_, rfl⟩
    rw [had, ← hy] at ha'
    have hy0 : 0 < y := by omega
    clear hr hno hfit hnum hs hm1 hz ho had HZ z
    subst ha'
    have HY : Hid (y = 1048576 + (o : Int)) := hy
    clear hy
    go_wp2_with fail
    refine (atake_some _ _ HR.out.ro.ar HF.out.1 HF.out.2 HR.out.ro.tb).mono ?_
    rintro e w8 ⟨rfl, ha, w2, hb1, hb2⟩
    rw [HAd.out, ← HY.out]
    have H8 : Hid (RP w w8 I (tk P k s p) (clrF W o p.sz) (tk P k s p) W ob 2 nn vv nr) := by
      rw [HO.out]
      exact HR.out.arena ha ((Fix.of_row hb1 (HR.out.ro.ar.pg k p HF.out.2.hp).hd (HR.out.ro.ar.b3 k p HF.out.2.hp) (by simp)).trans (Fix.of_but hb2 (by simp)))
    clear ha hb1 hb2 HR HF ho1 HO HAd
    generalize tk P k s p = Q at *
    generalize p.sz = zz at *
    obtain ⟨W', hW'⟩ : ∃ W', W' = clrF W o zz := ⟨_, rfl⟩
    have HW : Hid (W' = clrF W o zz) := hW'
    rw [← hW'] at H8
    clear hW'
    go_wp2_with fail
    go_loopw [25] (fun xv wk => ∃ j : Nat, j ≤ zz ∧ xv = .int .i64 (j : Int) ∧ RP w wk I Q W' Q (clrF W o j) ob 2 nn vv nr) (fun xv _ => zz - (intOf xv).toNat)
    case atStart => exact ⟨0, Nat.zero_le _, rfl, by rw [clrF_zero]; exact H8.out⟩
    case round =>
      obtain ⟨j, hj, rfl, hr⟩ := hrel
      have HR : Hid (RP w wr I Q W' Q (clrF W o j) ob 2 nn vv nr) := hr
      have ho1 := hr.o1
      clear hr H8
      by_cases hlt : j < zz
      · as_aux_lemma =>
        have hltI : (j : Int) < (zz : Int) := by omega
        go_wp2_with fail
        refine (refSize_any' HZ2.out _).mono ?_
        rintro e w9 ⟨rfl, hB⟩
        have H9 : Hid (RP w w9 I Q W' Q (clrF W o j) ob 2 nn vv nr) := HR.out.below hB
        clear hB HR ho1
        obtain ⟨ub, hm⟩ := H9.out.ro.md
        have hc2 := hm.c2
        have hx2 : o + j < 32 * I.n := by omega
        have hcx : w9.cell? ⟨I.v, o + j, none⟩ = some (.int .i64 (clrF W o j (o + j))) := hm.wd.cell hx2
        have hfx := hm.wd.frozen (o + j)
        have HS : Hid (RP w (w9.setCell ⟨I.v, o + j, none⟩ (.int .i64 0)) I Q W' Q (clrF W o (j + 1)) ob 2 nn vv nr) := by
          rw [← clrF_next]
          exact H9.out.model (hm.setV (o + j) 0 H9.out.ro.d3) (Fix.of_but ((But.refl _ _).setCell (o + j) _) (by simp))
        clear hm H9
        generalize clrF W o j (o + j) = v0 at *
        have hx2I : ((o + j : Nat) : Int) < 32 * (I.n : Int) := by omega
        obtain ⟨x, hx⟩ : ∃ x, x = o + j := ⟨_, rfl⟩
        have hxI : y - 1048576 + (j : Int) = (x : Int) := by have := HY.out; omega
        have hyb : y ≤ 1050000 := by have := HY.out; omega
        have hyb2 : 1048576 ≤ y := by have := HY.out; omega
        rw [← hx] at hcx hfx HS hx2 hx2I
        generalize 32 * I.n = M at *
        clear hx HY
        go_wp2_with fail
        go_roundw
        case rel => exact ⟨j + 1, by omega, by go_num, HS.out⟩
        case measure => simp [intOf]; omega
      · as_aux_lemma =>
        have e : j = zz := by omega
        have HV : Hid (clrF W o j = W') := by rw [e]; exact HW.out.symm
        have hge : (zz : Int) ≤ (j : Int) := by omega
        clear e hlt
        go_wp2_with fail
        refine (refSize_any' HZ2.out _).mono ?_
        rintro e w9 ⟨rfl, hB⟩
        have H9 : Hid (RP w w9 I Q W' Q W' ob 2 nn vv nr) := by
          have := HR.out.below hB
          rwa [HV.out] at this
        clear hB
        go_wp2_with fail
        exact ⟨rfl, ⟨by kernel_rfl, rfl, rfl, rfl, rfl, rfl, rfl, rfl, rfl, rfl, rfl, rfl⟩, rfl, _, _, H9.out⟩
end

end Go.Proofs.YtjpeppflldmffaaDoor

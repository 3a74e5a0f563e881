/- ArenaPlays in parts: the switch's case 3 (Free). -/
import Derived.Test.YtjpeppflldmffaaDoorApE
namespace Go.Proofs.YtjpeppflldmffaaDoor
open Go.RowKit

section
variable {w w6 : World} {X : Arg} {I : Ids} {i ob : Nat} {nn vv : Int} {nr : Bool} {P : Nat → Option PSt} {W : Nat → Int} (a : Act) (hE : Env X I i ob a) (hb : I64 nn)
include hE hb
set_option maxRecDepth 100000 in
set_option maxHeartbeats 4000000 in
theorem sw_free (h126 : a.tmps.toList[126]? = some (.int .i64 3)) (h : RP w w6 I P W P W ob 3 nn vv nr) : code4.wp Tryd.prog (SwPost w X I i ob 3 nn vv nr) a w6 := by
  have H : Hid (RP w w6 I P W P W ob 3 nn vv nr) := h
  have HB : Hid (I64 nn) := hb
  obtain ⟨v, ha, hv⟩ := hE.open
  rw [hv 126 _ h126] at ha
  clear hv h126 hE
  subst ha
  obtain ⟨ub, hmd⟩ := h.ro.md
  have HM : Hid (MdAt w6 w.heap.size I.m I.c I.u I.v I.n P W ub) := hmd
  clear h hb hmd
  have ho0 := H.out.o0
  have ho1 := H.out.o1
  unfold SwPost
  conv => arg 2; whnf
  rcases ins_or P nn with ⟨k, s, y, p, hi⟩ | ho
  · have HI : Hid (InS P nn k s y p) := hi
    have HE : Hid (nn = ((adr k s p.sz : Nat) : Int) + (y : Int)) := by
      have := hi.he
      show nn = _
      omega
    clear hi
    by_cases hy : y = 0
    · as_aux_lemma =>
      subst hy
      go_wp2_with fail
      refine (ms_in _ _ HM.out HB.out HI.out).mono ?_
      rintro e w7 ⟨rfl, hB7⟩
      have H7 : Hid (RP w w7 I P W P W ob 3 nn vv nr) := H.out.below hB7
      clear hB7 ho0 ho1 HM
      generalize ((adr k s p.sz : Nat) : Int) = t at *
      have he : t = nn := by have := HE.out; omega
      clear HE
      subst he
      have ho1 := H7.out.o1
      go_wp2_with fail
      refine (afree_in _ _ H7.out.ro.ar HB.out HI.out).mono ?_
      rintro e w8 ⟨rfl, ha, hBu⟩
      have H8 : Hid (RP w w8 I (upP P k (some ⟨p.blk, p.c, up p.U s false, up p.M s false⟩)) W P W ob 3 t vv nr) :=
        H7.out.arena ha (Fix.of_row hBu (H7.out.ro.ar.pg k p HI.out.hp).hd (H7.out.ro.ar.b3 k p HI.out.hp) (by simp))
      clear ha hBu ho1
      have ho1 := H8.out.o1
      obtain ⟨ub8, hm8⟩ := H8.out.ro.md
      have hc1 := hm8.c1
      have hk := hm8.klt HI.out.hp
      have hkI : (k : Int) < (I.n : Int) := by omega
      have hs := HI.out.hs
      have hsI : (s : Int) < (p.n : Int) := by omega
      have hus : w8.cell? ⟨I.u, k, none⟩ = some (.slice (some ⟨ub8 k, 0, none⟩) p.n p.n) := by
        have := hm8.us.cell hk
        rw [HI.out.hp] at this
        exact this
      have hcx : w8.cell? ⟨ub8 k, s, none⟩ = some (.bool (p.U s)) := (hm8.ur k p HI.out.hp).cell hs
      have hfx := (hm8.ur k p HI.out.hp).frozen s
      have hn8 := H8.out.ro.n8
      have hn32 := (hm8.num HI.out.hp).n32
      have HS : Hid (RP w (w8.setCell ⟨ub8 k, s, none⟩ (.bool false)) I (upP P k (some ⟨p.blk, p.c, up p.U s false, up p.M s false⟩)) W (upP P k (some ⟨p.blk, p.c, up p.U s false, up p.M s false⟩)) W ob 3 t vv nr) :=
        H8.out.model (hm8.setU HI.out.hp s false (up p.M s false)) (Fix.of_row ((But.refl _ _).setCell s _) (hm8.ur k p HI.out.hp) (hm8.b4 k p HI.out.hp) (by simp))
      clear hm8 HI HB H H7
      generalize p.U s = u0 at *
      generalize p.n = pn at *
      generalize ub8 k = ubk at *
      go_wp2_with fail
      exact ⟨rfl, ⟨by kernel_rfl, rfl, rfl, rfl, rfl, rfl, rfl, rfl, rfl, rfl, rfl, rfl⟩, rfl, _, _, HS.out⟩
    · as_aux_lemma =>
      go_wp2_with fail
      refine (ms_in _ _ HM.out HB.out HI.out).mono ?_
      rintro e w7 ⟨rfl, hB7⟩
      have H7 : Hid (RP w w7 I P W P W ob 3 nn vv nr) := H.out.below hB7
      clear hB7 ho0 ho1 HM
      generalize ((adr k s p.sz : Nat) : Int) = t at *
      have hne : ¬ t = nn := by have := HE.out; omega
      have hneb : (t == nn) = false := by simpa using hne
      have HY : Hid (¬ y = 0) := hy
      clear HE hne hy
      have ho1 := H7.out.o1
      go_wp2_with fail
      refine (afree_mid _ _ H7.out.ro.ar HB.out HI.out HY.out).mono ?_
      rintro e w8 ⟨rfl, q, rfl⟩
      go_wp2_with fail
      exact ⟨rfl, ⟨by kernel_rfl, rfl, rfl, rfl, rfl, rfl, rfl, rfl, rfl, rfl, rfl, rfl⟩, rfl, _, _, H7.out.drewN q⟩
  · as_aux_lemma =>
    have HI : Hid (OutS P nn) := ho
    clear ho
    go_wp2_with fail
    refine (ms_out _ _ HM.out HB.out HI.out).mono ?_
    rintro e w7 ⟨rfl, hB7⟩
    have H7 : Hid (RP w w7 I P W P W ob 3 nn vv nr) := H.out.below hB7
    clear hB7 ho0 ho1
    have ho1 := H7.out.o1
    go_wp2_with fail
    refine (afree_out _ _ H7.out.ro.ar HB.out HI.out).mono ?_
    rintro e w8 ⟨rfl, q, rfl⟩
    go_wp2_with fail
    exact ⟨rfl, ⟨by kernel_rfl, rfl, rfl, rfl, rfl, rfl, rfl, rfl, rfl, rfl, rfl, rfl⟩, rfl, _, _, H7.out.drewN q⟩
end

end Go.Proofs.YtjpeppflldmffaaDoor

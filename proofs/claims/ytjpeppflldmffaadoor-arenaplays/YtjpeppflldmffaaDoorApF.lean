/- ArenaPlays in parts: the switch's cases 4 (Store) and 3 (Free). -/
import Derived.Test.YtjpeppflldmffaaDoorApE
namespace Go.Proofs.YtjpeppflldmffaaDoor
open Go.RowKit

theorem mem3 {I : Ids} : I.v ∈ [I.c, I.u, I.v] := by simp
theorem mem2 {I : Ids} : I.w ∈ [I.p, I.w] := by simp
theorem mem1 {I : Ids} : I.p ∈ [I.p, I.w] := by simp

section
variable {w w6 : World} {X : Arg} {I : Ids} {i ob : Nat} {nn vv : Int} {nr : Bool} {P : Nat → Option PSt} {W : Nat → Int} (a : Act) (hE : Env X I i ob a) (hb : I64 nn)
include hE hb
set_option maxRecDepth 100000 in
set_option maxHeartbeats 4000000 in
theorem sw_store (h126 : a.tmps.toList[126]? = some (.int .i64 4)) (h : RP w w6 I P W P W ob 4 nn vv nr) : code4.wp Tryd.prog (SwPost w X I i ob 4 nn vv nr) a w6 := by
  have H : Hid (RP w w6 I P W P W ob 4 nn vv nr) := h
  have HB : Hid (I64 nn) := hb
  obtain ⟨v, ha, hv⟩ := hE.open
  rw [hv 126 _ h126] at ha
  clear hv h126 hE
  subst ha
  obtain ⟨ub, hmd⟩ := h.ro.md
  have HM : Hid (MdAt w6 w.heap.size I.m I.c I.u I.v I.n P W ub) := hmd
  clear h hb hmd
  have ho0 := H.out.o0
  have ho1 := H.out.o1
  unfold SwPost
  conv => arg 2; whnf
  rcases ins_or P nn with ⟨k, s, y, p, hi⟩ | ho
  · as_aux_lemma =>
    have HI : Hid (InS P nn k s y p) := hi
    obtain ⟨x, hx, hx2, hx3⟩ := ins_place nn _ H.out.ro.ar hi
    have HX : Hid (x = 32 * k + s * p.sz + y) := hx
    have HX3 : Hid (nn = 1048576 + (x : Int)) := hx3
    clear hi hx hx3
    go_wp2_with fail
    refine (ms_in _ _ HM.out HB.out HI.out).mono ?_
    rintro e w7 ⟨rfl, hB7⟩
    have H7 : Hid (RP w w7 I P W P W ob 4 nn vv nr) := H.out.below hB7
    clear hB7 ho0 ho1
    have ho1 := H7.out.o1
    have ho2 := H7.out.o2
    go_wp2_with fail
    refine (store_in _ _ H7.out.ro.ar HB.out _ HI.out).mono ?_
    rintro e w8 ⟨rfl, ha, hBu⟩
    have H8 : Hid (RP w w8 I P (upW W x vv) P W ob 4 nn vv nr) := by
      rw [HX.out]
      exact H7.out.arena ha (Fix.of_but hBu mem2)
    clear ha hBu ho1 ho2
    have ho1 := H8.out.o1
    have ho2 := H8.out.o2
    obtain ⟨ub8, hm8⟩ := H8.out.ro.md
    have hc2 := hm8.c2
    have hcx : w8.cell? ⟨I.v, x, none⟩ = some (.int .i64 (W x)) := hm8.wd.cell hx2
    have hfx := hm8.wd.frozen x
    have HS : Hid (∀ q, RP w ((w8.drewN q).setCell ⟨I.v, x, none⟩ (.int .i64 vv)) I P (upW W x vv) P (upW W x vv) ob 4 nn vv nr) := fun q =>
      (H8.out.drewN q).model ((hm8.drewN q).setV x vv H8.out.ro.d3) (Fix.of_but ((But.refl _ _).setCell x _) mem3)
    have hN := H8.out.ro.n8
    clear hm8 HM HI HB H H7
    have hx2I : (x : Int) < 32 * (I.n : Int) := by omega
    generalize 32 * I.n = M at *
    generalize W x = v0 at *
    have hx3 := HX3.out
    clear HX3 HX
    subst hx3
    go_wp2_with fail
    go_region
    all_goals
      go_wp2
      exact ⟨rfl, ⟨by kernel_rfl, rfl, rfl, rfl, rfl, rfl, rfl, rfl, rfl, rfl, rfl, rfl⟩, rfl, _, _, HS.out _⟩
  · as_aux_lemma =>
    have HI : Hid (OutS P nn) := ho
    clear ho
    go_wp2_with fail
    refine (ms_out _ _ HM.out HB.out HI.out).mono ?_
    rintro e w7 ⟨rfl, hB7⟩
    have H7 : Hid (RP w w7 I P W P W ob 4 nn vv nr) := H.out.below hB7
    clear hB7 ho0 ho1
    have ho1 := H7.out.o1
    have ho2 := H7.out.o2
    go_wp2_with fail
    refine (store_out _ _ H7.out.ro.ar HB.out _ HI.out).mono ?_
    rintro e w8 ⟨rfl, q, rfl⟩
    go_wp2_with fail
    exact ⟨rfl, ⟨by kernel_rfl, rfl, rfl, rfl, rfl, rfl, rfl, rfl, rfl, rfl, rfl, rfl⟩, rfl, _, _, H7.out.drewN q⟩
end

end Go.Proofs.YtjpeppflldmffaaDoor

/- ArenaPlays in parts: three addresses are asked for. -/
import Derived.Test.YtjpeppflldmffaaDoorApE
namespace Go.Proofs.YtjpeppflldmffaaDoor
open Go.RowKit

noncomputable def code19 : Code := (Tryd.f3.body.bind (findBlock 19)).getD .skip

/-- The three addresses in memory. -/
structure Tri (w : World) (b : Nat) (f : Nat → Int) : Prop where
  ce : ∀ j, j < 3 → w.cell? ⟨b, j, none⟩ = some (.int .i64 (f j))
  lt : b < w.heap.size
theorem Tri.below {w w' : World} {b : Nat} {f : Nat → Int} (h : Tri w b f) (hB : Below w.heap.size w w') : Tri w' b f := ⟨fun j hj => (hB.cell (p := ⟨b, j, none⟩) h.lt).trans (h.ce j hj), Nat.lt_of_lt_of_le h.lt hB.size⟩
theorem Tri.drewN {w : World} {b : Nat} {f : Nat → Int} (h : Tri w b f) (q : Nat) : Tri (w.drewN q) b f := ⟨h.ce, h.lt⟩

def ThPost (w : World) (X : Arg) (I : Ids) (i ob : Nat) (kd nn vv : Int) (nr : Bool) (P : Nat → Option PSt) (W : Nat → Int) : Exit → Act → World → Prop :=
  EndsN fun a' w' => Env X I i ob a' ∧ RP w w' I P W P W ob kd nn vv nr

section
variable {w w7 : World} {X : Arg} {I : Ids} {i ob : Nat} {kd nn vv : Int} {nr : Bool} {P : Nat → Option PSt} {W : Nat → Int} (a : Act) (hE : Env X I i ob a)
include hE
set_option maxRecDepth 100000 in
set_option maxHeartbeats 8000000 in
theorem three_ask {b3 : Nat} {f : Nat → Int} (h509 : a.tmps.toList[509]? = some (.slice (some ⟨b3, 0, none⟩) 3 3)) (h510 : a.tmps.toList[510]? = some (.int .i64 3)) (h511 : a.tmps.toList[511]? = some (.int .i64 0))
    (h : RP w w7 I P W P W ob kd nn vv nr) (ht : Tri w7 b3 f) (hf : ∀ j, j < 3 → I64 (f j)) : code19.wp Tryd.prog (ThPost w X I i ob kd nn vv nr P W) a w7 := by
  have H : Hid (RP w w7 I P W P W ob kd nn vv nr ∧ Tri w7 b3 f) := ⟨h, ht⟩
  have HF : Hid (∀ j, j < 3 → I64 (f j)) := hf
  obtain ⟨v, ha, hv⟩ := hE.open
  rw [hv 509 _ h509, hv 510 _ h510, hv 511 _ h511] at ha
  clear hv h509 h510 h511 hE
  subst ha
  have hn8 := h.ro.n8
  clear h ht hf
  unfold ThPost
  conv => arg 2; whnf
  go_wp2_with fail
  go_loopw [511] (fun c wk => ∃ j : Nat, j ≤ 3 ∧ c = .int .i64 (j : Int) ∧ RP w wk I P W P W ob kd nn vv nr ∧ Tri wk b3 f) (fun c _ => 3 - (intOf c).toNat)
  case atStart => exact ⟨0, by omega, rfl, H.out⟩
  case round =>
    obtain ⟨j, hj, rfl, hr⟩ := hrel
    have HR : Hid (RP w wr I P W P W ob kd nn vv nr ∧ Tri wr b3 f) := hr
    clear hr H
    by_cases hlt : j < 3
    · have hce := HR.out.2.ce j hlt
      have hltI : (j : Int) < 3 := by omega
      have HI64 : Hid (I64 (f j)) := HF.out j hlt
      obtain ⟨x, hx⟩ : ∃ x, x = f j := ⟨_, rfl⟩
      rw [← hx] at hce HI64
      clear hx
      obtain ⟨ub, hmd⟩ := HR.out.1.ro.md
      have HM : Hid (MdAt wr w.heap.size I.m I.c I.u I.v I.n P W ub) := hmd
      clear hmd
      rcases ins_or P x with ⟨k, s, y, p, hin⟩ | ho
      · as_aux_lemma =>
        have HI : Hid (InS P x k s y p) := hin
        obtain ⟨pl, hpl, hpl2, hpl3⟩ := ins_place x _ HR.out.1.ro.ar hin
        have HX : Hid (32 * k + s * p.sz + y = pl) := hpl.symm
        have HX3 : Hid (x = 1048576 + (pl : Int)) := hpl3
        have hk := HM.out.klt hin.hp
        have HNum : Hid (PNum p p.sz p.n) := HM.out.num hin.hp
        clear hin hpl hpl3
        go_wp2_with fail
        refine (ms_in _ _ HM.out HI64.out HI.out).mono ?_
        rintro e w8 ⟨rfl, hB8⟩
        have H8 : Hid (RP w w8 I P W P W ob kd nn vv nr ∧ Tri w8 b3 f) := ⟨HR.out.1.below hB8, HR.out.2.below hB8⟩
        clear hB8 HR HM hce
        go_wp2_with fail
        refine (find_in _ _ H8.out.1.ro.ar HI64.out HI.out).mono ?_
        rintro e w9 ⟨rfl, q, rfl⟩
        have H9 : Hid (RP w (w8.drewN q) I P W P W ob kd nn vv nr ∧ Tri (w8.drewN q) b3 f) := ⟨H8.out.1.drewN q, H8.out.2.drewN q⟩
        clear H8
        go_wp2_with fail
        refine (load_in _ _ H9.out.1.ro.ar HI64.out HI.out).mono ?_
        rintro e w10 ⟨rfl, q2, hw10⟩
        have H10 : Hid (RP w w10 I P W P W ob kd nn vv nr ∧ Tri w10 b3 f) := by rw [hw10]; exact ⟨H9.out.1.drewN q2, H9.out.2.drewN q2⟩
        clear H9 hw10
        rw [HX.out]
        generalize ((adr k s p.sz : Nat) : Int) = ya at *
        obtain ⟨ub, hmd⟩ := H10.out.1.ro.md
        have HM : Hid (MdAt w10 w.heap.size I.m I.c I.u I.v I.n P W ub) := hmd
        clear hmd
        go_upto_region 90 with (fail)
        let J : World → Prop := fun w' => (RP w w' I P W P W ob kd nn vv nr ∧ Tri w' b3 f) ∧ MdAt w' w.heap.size I.m I.c I.u I.v I.n P W ub
        have hJ : J w10.drew := ⟨⟨H10.out.1.drewN 1, H10.out.2.drewN 1⟩, HM.out.drewN 1⟩
        haveI : Nonempty (InW J) := ⟨⟨_, hJ⟩⟩
        have c1 : ∀ z : InW J, z.w.cell? ⟨I.m, 2, none⟩ = some (.slice (some ⟨I.v, 0, none⟩) (32 * I.n) (32 * I.n)) := fun z => z.h.2.c2
        have c2 : ∀ z : InW J, z.w.cell? ⟨I.v, pl, none⟩ = some (.int .i64 (W pl)) := fun z => z.h.2.wd.cell hpl2
        have c3 : ∀ z : InW J, z.w.cell? ⟨I.m, 0, none⟩ = some (.slice (some ⟨I.c, 0, none⟩) I.n I.n) := fun z => z.h.2.c0
        have c4 : ∀ z : InW J, z.w.cell? ⟨I.c, k, none⟩ = some (.int .i64 p.c) := fun z => by
          have := z.h.2.cl.cell hk
          rw [HI.out.hp] at this
          exact this
        have HA : Hid (∀ z : InW J, Calls Tryd.prog 21 #[.pointer (some ⟨I.a, 0, none⟩), .int .i64 x] z.w fun e w' => e = .returned (.int .i64 ((p.sz : Nat) : Int)) ∧ J w') := fun z =>
          (asize_in _ _ z.h.1.1.ro.ar HI64.out HI.out).mono fun e w' ⟨he, q, hw⟩ => ⟨he, by rw [hw]; exact ⟨⟨z.h.1.1.drewN q, z.h.1.2.drewN q⟩, z.h.2.drewN q⟩⟩
        have HS : Hid (∀ z : InW J, Calls Tryd.prog 8 #[.int .i64 p.c] z.w fun e w' => e = .returned (.int .i64 ((p.sz : Nat) : Int)) ∧ J w') := fun z =>
          (refSize_any' HNum.out.hs _).mono fun e w' ⟨he, hB⟩ => ⟨he, ⟨z.h.1.1.below hB, z.h.1.2.below hB⟩, z.h.2.fix (Fix.of_below (B := 0) (X := []) (K := []) hB) (by simp) (by simp) (by simp) (by simp) (by simp) (by simp) (by simp) (by simp) (by simp)⟩
        have HJ : Hid (∀ z : InW J, RP w z.w I P W P W ob kd nn vv nr ∧ Tri z.w b3 f) := fun z => z.h.1
        have hxs : x - 1048576 = (pl : Int) := by have := HX3.out; omega
        have hxw : IntKind.i64.wrap (x - 1048576) = (pl : Int) := by rw [IntKind.wrap_i64]; omega
        have hplI : (pl : Int) < 32 * (I.n : Int) := by omega
        have hkI : (k : Int) < (I.n : Int) := by omega
        have hM : 32 * I.n ≤ 256 := by omega
        clear_value J
        clear HM H10 HX HX3 HNum HI HI64
        generalize hMM : 32 * I.n = M at *
        have hplM : (pl : Int) < (M : Int) := by omega
        clear hMM
        generalize W pl = wx at *
        generalize p.sz = zz at *
        generalize p.c = pc at *
        refine wp_region_in (by kernel_rfl) (by kernel_rfl) hJ ?_
        repeat (go_big_quiet_step (first
          | (go_at_call 21; exact callIn (HA.out _))
          | (go_at_call 8; exact callIn (HS.out _))))
        refine wpQuiet_nil ?_
        rintro _ ⟨z, rfl⟩
        clear HA HS c1 c2 c3 c4 hJ
        go_wp2_with fail
        go_roundw
        case rel => exact ⟨j + 1, by omega, by go_num, HJ.out z⟩
        case measure => simp [intOf]; omega
      · as_aux_lemma =>
        have HI : Hid (OutS P x) := ho
        clear ho
        go_wp2_with fail
        refine (ms_out _ _ HM.out HI64.out HI.out).mono ?_
        rintro e w8 ⟨rfl, hB8⟩
        have H8 : Hid (RP w w8 I P W P W ob kd nn vv nr ∧ Tri w8 b3 f) := ⟨HR.out.1.below hB8, HR.out.2.below hB8⟩
        clear hB8 HR HM hce
        go_wp2_with fail
        refine (find_out _ _ H8.out.1.ro.ar HI64.out HI.out).mono ?_
        rintro e w9 ⟨rfl, q, rfl⟩
        have H9 : Hid (RP w (w8.drewN q) I P W P W ob kd nn vv nr ∧ Tri (w8.drewN q) b3 f) := ⟨H8.out.1.drewN q, H8.out.2.drewN q⟩
        clear H8
        go_wp2_with fail
        refine (load_out _ _ H9.out.1.ro.ar HI64.out HI.out).mono ?_
        rintro e w10 ⟨rfl, q2, hw10⟩
        have H10 : Hid (RP w w10 I P W P W ob kd nn vv nr ∧ Tri w10 b3 f) := by rw [hw10]; exact ⟨H9.out.1.drewN q2, H9.out.2.drewN q2⟩
        clear H9 hw10
        go_upto_region 90 with (fail)
        let J : World → Prop := fun w' => RP w w' I P W P W ob kd nn vv nr ∧ Tri w' b3 f
        have hJ : J w10.drew := ⟨H10.out.1.drewN 1, H10.out.2.drewN 1⟩
        haveI : Nonempty (InW J) := ⟨⟨_, hJ⟩⟩
        have HA : Hid (∀ z : InW J, Calls Tryd.prog 21 #[.pointer (some ⟨I.a, 0, none⟩), .int .i64 x] z.w fun e w' => e = .returned (.int .i64 0) ∧ J w') := fun z =>
          (asize_out _ _ z.h.1.ro.ar HI64.out HI.out).mono fun e w' ⟨he, q, hw⟩ => ⟨he, by rw [hw]; exact ⟨z.h.1.drewN q, z.h.2.drewN q⟩⟩
        have HJ : Hid (∀ z : InW J, RP w z.w I P W P W ob kd nn vv nr ∧ Tri z.w b3 f) := fun z => z.h
        clear_value J
        clear H10 HI HI64
        refine wp_region_in (by kernel_rfl) (by kernel_rfl) hJ ?_
        repeat (go_big_quiet_step (first
          | (go_at_call 21; exact callIn (HA.out _))))
        refine wpQuiet_nil ?_
        rintro _ ⟨z, rfl⟩
        clear HA hJ
        go_wp2_with fail
        go_roundw
        case rel => exact ⟨j + 1, by omega, by go_num, HJ.out z⟩
        case measure => simp [intOf]; omega
    · as_aux_lemma =>
      have hge : (3 : Int) ≤ (j : Int) := by omega
      clear hlt
      go_wp2_with fail
      exact ⟨rfl, ⟨by kernel_rfl, rfl, rfl, rfl, rfl, rfl, rfl, rfl, rfl, rfl, rfl, rfl⟩, HR.out.1⟩
end

end Go.Proofs.YtjpeppflldmffaaDoor

/- ArenaPlays in parts: the end of a round: a page is asked for. -/
import Derived.Test.YtjpeppflldmffaaDoorApO
namespace Go.Proofs.YtjpeppflldmffaaDoor
open Go.RowKit

/-- What stands behind the block n. -/
def endsBlock (n : Nat) : Code → Bool
  | .block k _ => k == n
  | .seq _ b => endsBlock n b
  | _ => false
def afterBlock (n : Nat) : Code → Option Code
  | .seq a b => if endsBlock n a then some b else match afterBlock n a with
    | some c => some c
    | none => afterBlock n b
  | .block _ c => afterBlock n c
  | .loop c => afterBlock n c
  | .scope c => afterBlock n c
  | .cond _ a b => match afterBlock n a with
    | some c => some c
    | none => afterBlock n b
  | _ => none
noncomputable def codeT : Code := (Tryd.f3.body.bind (afterBlock 19)).getD .skip

section
variable {w w7 : World} {X : Arg} {I : Ids} {i ob : Nat} {kd nn vv : Int} {nr : Bool} {P : Nat → Option PSt} {W : Nat → Int} (a : Act) (hE : Env X I i ob a)
include hE
set_option maxRecDepth 100000 in
set_option maxHeartbeats 8000000 in
theorem tail_none (h : RP w w7 I P W P W ob kd nn vv nr) (ho : atI P X.pg = none) : codeT.wp Tryd.prog (ThPost w X I i ob kd nn vv nr P W) a w7 := by
  have H : Hid (RP w w7 I P W P W ob kd nn vv nr) := h
  have HO : Hid (atI P X.pg = none) := ho
  obtain ⟨v, ha, hv⟩ := hE.open
  clear hv
  dsimp only at ha
  clear hE
  subst ha
  have hn8 := h.ro.n8
  obtain ⟨ub, hmd⟩ := h.ro.md
  have HM : Hid (MdAt w7 w.heap.size I.m I.c I.u I.v I.n P W ub) := hmd
  clear h ho hmd
  unfold ThPost
  conv => arg 2; whnf
  go_upto_region 93 with (fail)
  go_cut [53] from 596 to 612 (fun b wk => b = .bool false ∧ wk = w7)
  case first => as_aux_lemma =>
    by_cases h0 : 0 ≤ X.pg
    · by_cases h1 : X.pg < (I.n : Int)
      · as_aux_lemma =>
        obtain ⟨k, hkk⟩ := Int.eq_ofNat_of_zero_le h0
        have hk : k < I.n := by omega
        have hcl : w7.cell? ⟨I.c, k, none⟩ = some (.int .i64 (-1)) := by
          have h1 := HM.out.cl.cell hk
          have h2 := HO.out
          rw [hkk, atI_nat] at h2
          rw [h2] at h1
          exact h1
        have hc0 := HM.out.c0
        have hkI : (k : Int) < (I.n : Int) := by omega
        clear h0 h1
        go_wp2
        go_meet
        case rel => exact ⟨rfl, rfl⟩
      · as_aux_lemma =>
        go_wp2
        go_meet
        case rel => exact ⟨rfl, rfl⟩
    · as_aux_lemma =>
      go_wp2
      go_meet
      case rel => exact ⟨rfl, rfl⟩
  case rest => as_aux_lemma =>
    obtain ⟨rfl, hw⟩ := hcut
    replace hw := hw.symm
    subst hw
    go_wp2_with fail
    refine (page_none _ _ H.out.ro.ar HO.out).mono ?_
    rintro e w9 ⟨rfl, hw9⟩
    have H9 : Hid (RP w w9 I P W P W ob kd nn vv nr) := by rw [hw9]; exact H.out
    clear hw9 H HM
    go_upto_region 98 with (fail)
    let J : World → Prop := fun w' => RP w w' I P W P W ob kd nn vv nr
    have hJ : J w9.drew := H9.out.drewN 1
    haveI : Nonempty (InW J) := ⟨⟨_, hJ⟩⟩
    have HA : Hid (∀ z : InW J, Calls Tryd.prog 24 #[.pointer (some ⟨I.a, 0, none⟩), .int .i64 X.pg, .int .i64 X.at'] z.w fun e w' => e = .returned (.int .i64 0) ∧ w' = z.w) := fun z => base_none _ _ _ (show RP w z.w I P W P W ob kd nn vv nr from z.h).ro.ar HO.out
    have HJ : Hid (∀ z : InW J, RP w z.w I P W P W ob kd nn vv nr) := fun z => z.h
    clear_value J
    clear H9 HO
    refine wp_region_in (by kernel_rfl) (by kernel_rfl) hJ ?_
    repeat (go_big_quiet_step (first
      | (go_at_call 24; exact callSame (HA.out _))))
    refine wpQuiet_nil ?_
    rintro _ ⟨z, rfl⟩
    clear HA hJ
    go_wp2_with fail
    exact ⟨rfl, ⟨by kernel_rfl, rfl, rfl, rfl, rfl, rfl, rfl, rfl, rfl, rfl, rfl, rfl⟩, HJ.out z⟩

set_option maxRecDepth 100000 in
set_option maxHeartbeats 8000000 in
theorem tail_in (h : RP w w7 I P W P W ob kd nn vv nr) {k s : Nat} {p : PSt} (hpg : X.pg = (k : Int)) (hp : P k = some p) (hat : X.at' = (s : Int)) (hs : s < p.n) : codeT.wp Tryd.prog (ThPost w X I i ob kd nn vv nr P W) a w7 := by
  have H : Hid (RP w w7 I P W P W ob kd nn vv nr) := h
  have HP : Hid (P k = some p) := hp
  obtain ⟨v, ha, hv⟩ := hE.open
  clear hv
  dsimp only at ha
  rw [hpg, hat] at ha
  have HPG : Hid (X.pg = (k : Int)) := hpg
  have HAT : Hid (X.at' = (s : Int)) := hat
  have HSs : Hid (s < p.n) := hs
  have hsI : (s : Int) < (p.n : Int) := by omega
  clear hat
  clear hE hpg
  have hn8 := h.ro.n8
  obtain ⟨ub, hmd⟩ := h.ro.md
  have HM : Hid (MdAt w7 w.heap.size I.m I.c I.u I.v I.n P W ub) := hmd
  have hk := hmd.klt hp
  have hkI : (k : Int) < (I.n : Int) := by omega
  have HNum : Hid (PNum p p.sz p.n) := hmd.num hp
  have hn32 := (hmd.num hp).n32
  have hz16 := (hmd.num hp).s16
  have hcc := (hmd.ok k p hp).1
  have hcl : w7.cell? ⟨I.c, k, none⟩ = some (.int .i64 p.c) := by
    have := HM.out.cl.cell hk
    rw [hp] at this
    exact this
  have hc0 := hmd.c0
  have hc1 := hmd.c1
  have hus : w7.cell? ⟨I.u, k, none⟩ = some (.slice (some ⟨ub k, 0, none⟩) p.n p.n) := by
    have := HM.out.us.cell hk
    rw [hp] at this
    exact this
  clear h hmd hp
  unfold ThPost
  conv => arg 2; whnf
  subst ha
  go_upto_region 93 with (fail)
  go_cut [53] from 596 to 612 (fun b wk => b = .bool true ∧ wk = w7)
  case first => as_aux_lemma =>
    go_wp2
    go_meet
    case rel => exact ⟨rfl, rfl⟩
  case rest => as_aux_lemma =>
    obtain ⟨rfl, hw⟩ := hcut
    replace hw := hw.symm
    subst hw
    have hm1 := slot_le HNum.out.m HSs.out
    obtain ⟨t, ht⟩ : ∃ t, t = s * p.sz := ⟨_, rfl⟩
    have hI : (s : Int) * (p.sz : Int) = (t : Int) := by rw [ht]; simp
    obtain ⟨yb, hyb⟩ : ∃ yb : Int, yb = ((adr k s p.sz : Nat) : Int) := ⟨_, rfl⟩
    have HYB : Hid (yb = ((adr k s p.sz : Nat) : Int)) := hyb
    have HAd : Hid (yb = 1048576 + 32 * (k : Int) + (t : Int)) := by show yb = _; rw [hyb]; unfold adr; rw [← ht]; omega
    rw [← ht] at hm1
    have ht32 : t ≤ 32 := by omega
    clear ht hm1 hyb
    go_upto_region 96 with (fail)
    go_cut [54] from 630 to 643 (fun b wk => b = .int .i64 yb ∧ Below w7.heap.size w7 wk)
    case first => as_aux_lemma =>
      go_wp2_with fail
      refine (refSize_any' HNum.out.hs _).mono ?_
      rintro e w10 ⟨rfl, hB⟩
      have HB : Hid (Below w7.heap.size w7 w10) := hB
      clear hB
      go_wp2_with fail
      go_meet
      case rel => exact ⟨by rw [HAd.out]; exact congrArg (Value.int .i64) (by omega), HB.out⟩
    case rest => as_aux_lemma =>
      obtain ⟨rfl, hB⟩ := hcut
      have H10 : Hid (RP w wc I P W P W ob kd nn vv nr ∧ MdAt wc w.heap.size I.m I.c I.u I.v I.n P W ub) := ⟨H.out.below hB, HM.out.fix (Fix.of_below (B := 0) (X := []) (K := []) hB) (by simp) (by simp) (by simp) (by simp) (by simp) (by simp) (by simp) (by simp) (by simp)⟩
      obtain ⟨w10, hw10⟩ : ∃ w10, w10 = wc := ⟨_, rfl⟩
      subst hw10
      clear hB H HM hcl hc0 hc1 hus hI
      go_wp2_with fail
      refine (page_some _ _ H10.out.1.ro.ar HP.out).mono ?_
      rintro e w11 ⟨rfl, hw11⟩
      have H11 : Hid (RP w w11 I P W P W ob kd nn vv nr ∧ MdAt w11 w.heap.size I.m I.c I.u I.v I.n P W ub) := by rw [hw11]; exact H10.out
      clear hw11 H10
      go_upto_region 98 with (fail)
      let J : World → Prop := fun w' => RP w w' I P W P W ob kd nn vv nr ∧ MdAt w' w.heap.size I.m I.c I.u I.v I.n P W ub
      have hJ : J w11.drew := ⟨H11.out.1.drewN 1, H11.out.2.drewN 1⟩
      haveI : Nonempty (InW J) := ⟨⟨_, hJ⟩⟩
      have c1 : ∀ z : InW J, z.w.cell? ⟨I.m, 0, none⟩ = some (.slice (some ⟨I.c, 0, none⟩) I.n I.n) := fun z => z.h.2.c0
      have c2 : ∀ z : InW J, z.w.cell? ⟨I.c, k, none⟩ = some (.int .i64 p.c) := fun z => by
        have := z.h.2.cl.cell hk
        rw [HP.out] at this
        exact this
      have HC : Hid (∀ z : InW J, Calls Tryd.prog 23 #[.pointer (some ⟨p.blk, 0, none⟩)] z.w fun e w' => e = .returned (.int .i64 p.c) ∧ w' = z.w) := fun z => class_any _ (z.h.1.ro.ar.pg k p HP.out)
      have HA : Hid (∀ z : InW J, Calls Tryd.prog 24 #[.pointer (some ⟨I.a, 0, none⟩), .int .i64 (k : Int), .int .i64 (s : Int)] z.w fun e w' => e = .returned (.int .i64 yb) ∧ w' = z.w) := fun z => by rw [HYB.out]; exact base_some k s z.w z.h.1.ro.ar HP.out HSs.out
      have HJ : Hid (∀ z : InW J, RP w z.w I P W P W ob kd nn vv nr) := fun z => z.h.1
      have HPG2 : Hid (Value.int .i64 (k : Int) = Value.int .i64 X.pg) := by show Value.int .i64 (k : Int) = _; rw [HPG.out]
      have HAT2 : Hid (Value.int .i64 (s : Int) = Value.int .i64 X.at') := by show Value.int .i64 (s : Int) = _; rw [HAT.out]
      clear_value J
      clear H11 HP HNum
      generalize p.c = pc at *
      generalize p.blk = pb at *
      refine wp_region_in (by kernel_rfl) (by kernel_rfl) hJ ?_
      repeat (go_big_quiet_step (first
        | (go_at_call 23; exact callSame (HC.out _))
        | (go_at_call 24; exact callSame (HA.out _))))
      refine wpQuiet_nil ?_
      rintro _ ⟨z, rfl⟩
      clear HA HC hJ c1 c2
      go_wp2_with fail
      exact ⟨rfl, ⟨by kernel_rfl, rfl, rfl, rfl, rfl, congrArg some HPG2.out, congrArg some HAT2.out, rfl, rfl, rfl, rfl, rfl⟩, HJ.out z⟩

set_option maxRecDepth 100000 in
set_option maxHeartbeats 8000000 in
theorem tail_over (h : RP w w7 I P W P W ob kd nn vv nr) {k : Nat} {p : PSt} (hpg : X.pg = (k : Int)) (hp : P k = some p) (hat : X.at' < 0 ∨ (p.n : Int) ≤ X.at') : codeT.wp Tryd.prog (ThPost w X I i ob kd nn vv nr P W) a w7 := by
  have H : Hid (RP w w7 I P W P W ob kd nn vv nr) := h
  have HP : Hid (P k = some p) := hp
  obtain ⟨v, ha, hv⟩ := hE.open
  clear hv
  dsimp only at ha
  rw [hpg] at ha
  have HPG : Hid (X.pg = (k : Int)) := hpg
  have HAT : Hid (X.at' < 0 ∨ (p.n : Int) ≤ X.at') := hat
  clear hat
  clear hE hpg
  have hn8 := h.ro.n8
  obtain ⟨ub, hmd⟩ := h.ro.md
  have HM : Hid (MdAt w7 w.heap.size I.m I.c I.u I.v I.n P W ub) := hmd
  have hk := hmd.klt hp
  have hkI : (k : Int) < (I.n : Int) := by omega
  have HNum : Hid (PNum p p.sz p.n) := hmd.num hp
  have hn32 := (hmd.num hp).n32
  have hz16 := (hmd.num hp).s16
  have hcc := (hmd.ok k p hp).1
  have hcl : w7.cell? ⟨I.c, k, none⟩ = some (.int .i64 p.c) := by
    have := HM.out.cl.cell hk
    rw [hp] at this
    exact this
  have hc0 := hmd.c0
  have hc1 := hmd.c1
  have hus : w7.cell? ⟨I.u, k, none⟩ = some (.slice (some ⟨ub k, 0, none⟩) p.n p.n) := by
    have := HM.out.us.cell hk
    rw [hp] at this
    exact this
  clear h hmd hp
  unfold ThPost
  conv => arg 2; whnf
  subst ha
  go_upto_region 93 with (fail)
  go_cut [53] from 596 to 612 (fun b wk => b = .bool true ∧ wk = w7)
  case first => as_aux_lemma =>
    go_wp2
    go_meet
    case rel => exact ⟨rfl, rfl⟩
  case rest => as_aux_lemma =>
    obtain ⟨rfl, hw⟩ := hcut
    replace hw := hw.symm
    subst hw
    go_upto_region 95 with (fail)
    go_cut [629] from 613 to 628 (fun b wk => b = .bool false ∧ wk = w7)
    case first => as_aux_lemma =>
      by_cases h0 : X.at' < 0
      · as_aux_lemma =>
        have hd1 : decide (0 ≤ X.at') = false := by simp; omega
        go_wp2
        go_meet
        case rel => exact ⟨rfl, rfl⟩
      · as_aux_lemma =>
        have hd1 : decide (0 ≤ X.at') = true := by simp; omega
        have hd2 : decide (X.at' < (p.n : Int)) = false := by have := HAT.out; simp; omega
        clear h0
        go_wp2
        go_meet
        case rel => exact ⟨rfl, rfl⟩
    case rest => as_aux_lemma =>
      obtain ⟨rfl, hw⟩ := hcut
      replace hw := hw.symm
      subst hw
      have H10 : Hid (RP w w7 I P W P W ob kd nn vv nr ∧ MdAt w7 w.heap.size I.m I.c I.u I.v I.n P W ub) := ⟨H.out, HM.out⟩
      obtain ⟨w10, hw10⟩ : ∃ w10, w10 = w7 := ⟨_, rfl⟩
      rw [← hw10] at H10 ⊢
      clear H HM hcl hc0 hc1 hus hw10
      go_wp2_with fail
      refine (page_some _ _ H10.out.1.ro.ar HP.out).mono ?_
      rintro e w11 ⟨rfl, hw11⟩
      have H11 : Hid (RP w w11 I P W P W ob kd nn vv nr ∧ MdAt w11 w.heap.size I.m I.c I.u I.v I.n P W ub) := by rw [hw11]; exact H10.out
      clear hw11 H10
      go_upto_region 98 with (fail)
      let J : World → Prop := fun w' => RP w w' I P W P W ob kd nn vv nr ∧ MdAt w' w.heap.size I.m I.c I.u I.v I.n P W ub
      have hJ : J w11.drew := ⟨H11.out.1.drewN 1, H11.out.2.drewN 1⟩
      haveI : Nonempty (InW J) := ⟨⟨_, hJ⟩⟩
      have c1 : ∀ z : InW J, z.w.cell? ⟨I.m, 0, none⟩ = some (.slice (some ⟨I.c, 0, none⟩) I.n I.n) := fun z => z.h.2.c0
      have c2 : ∀ z : InW J, z.w.cell? ⟨I.c, k, none⟩ = some (.int .i64 p.c) := fun z => by
        have := z.h.2.cl.cell hk
        rw [HP.out] at this
        exact this
      have HC : Hid (∀ z : InW J, Calls Tryd.prog 23 #[.pointer (some ⟨p.blk, 0, none⟩)] z.w fun e w' => e = .returned (.int .i64 p.c) ∧ w' = z.w) := fun z => class_any _ (z.h.1.ro.ar.pg k p HP.out)
      have HA : Hid (∀ z : InW J, Calls Tryd.prog 24 #[.pointer (some ⟨I.a, 0, none⟩), .int .i64 (k : Int), .int .i64 X.at'] z.w fun e w' => e = .returned (.int .i64 0) ∧ w' = z.w) := fun z => base_over k X.at' z.w z.h.1.ro.ar HP.out HAT.out
      have HJ : Hid (∀ z : InW J, RP w z.w I P W P W ob kd nn vv nr) := fun z => z.h.1
      have HPG2 : Hid (Value.int .i64 (k : Int) = Value.int .i64 X.pg) := by show Value.int .i64 (k : Int) = _; rw [HPG.out]
      clear_value J
      clear H11 HP HNum
      generalize p.c = pc at *
      generalize p.blk = pb at *
      refine wp_region_in (by kernel_rfl) (by kernel_rfl) hJ ?_
      repeat (go_big_quiet_step (first
        | (go_at_call 23; exact callSame (HC.out _))
        | (go_at_call 24; exact callSame (HA.out _))))
      refine wpQuiet_nil ?_
      rintro _ ⟨z, rfl⟩
      clear HA HC hJ c1 c2
      go_wp2_with fail
      exact ⟨rfl, ⟨by kernel_rfl, rfl, rfl, rfl, rfl, congrArg some HPG2.out, rfl, rfl, rfl, rfl, rfl, rfl⟩, HJ.out z⟩
end

end Go.Proofs.YtjpeppflldmffaaDoor

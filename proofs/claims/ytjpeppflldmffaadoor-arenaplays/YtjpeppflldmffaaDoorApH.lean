/- ArenaPlays in parts: the switch's last case (Drop). -/
import Derived.Test.YtjpeppflldmffaaDoorApE
import Derived.Deep.RegionHeld3
namespace Go.Proofs.YtjpeppflldmffaaDoor
open Go.RowKit

theorem cnt_some (f : Nat → Bool) {x : Nat} : ∀ n, x < n → f x = true → cnt f n ≠ 0
  | 0, h, _ => by omega
  | n + 1, h, hf => by
    by_cases e : x = n
    · subst e; simp [cnt, hf]
    · have := cnt_some f n (by omega) hf
      simp only [cnt]
      omega

section
variable {w w6 : World} {X : Arg} {I : Ids} {i ob : Nat} {kd nn vv : Int} {nr : Bool} {P : Nat → Option PSt} {W : Nat → Int} (a : Act) (hE : Env X I i ob a)
include hE
set_option maxRecDepth 100000 in
set_option maxHeartbeats 8000000 in
theorem sw_drop (h126 : a.tmps.toList[126]? = some (.int .i64 kd)) (h : RP w w6 I P W P W ob kd nn vv nr) (hk1 : (kd == 1) = false) (hk2 : (kd == 2) = false) (hk3 : (kd == 3) = false) (hk4 : (kd == 4) = false) : code4.wp Tryd.prog (SwPost w X I i ob kd nn vv nr) a w6 := by
  have H : Hid (RP w w6 I P W P W ob kd nn vv nr) := h
  obtain ⟨v, ha, hv⟩ := hE.open
  rw [hv 126 _ h126] at ha
  clear hv h126 hE
  subst ha
  obtain ⟨ub, hmd⟩ := h.ro.md
  have HM : Hid (MdAt w6 w.heap.size I.m I.c I.u I.v I.n P W ub) := hmd
  have hc0 := hmd.c0
  clear h hmd
  have ho1 := H.out.o1
  have hn8 := H.out.ro.n8
  unfold SwPost
  conv => arg 2; whnf
  rcases atI_cases P nn with ho | ⟨k, p, rfl, hp⟩
  · as_aux_lemma =>
    have HO : Hid (atI P nn = none) := ho
    clear ho
    go_upto_region 21 with (fail)
    go_cut [34] from 127 to 146 (fun mv wk => mv = .bool false ∧ ∃ q, wk = w6.drewN q)
    case first => as_aux_lemma =>
      by_cases h0 : 0 ≤ nn
      · by_cases h1 : nn < (I.n : Int)
        · as_aux_lemma =>
          obtain ⟨k, hkk⟩ := Int.eq_ofNat_of_zero_le h0
          have hk : k < I.n := by omega
          have hcl : w6.cell? ⟨I.c, k, none⟩ = some (.int .i64 (-1)) := by
            have h1 := HM.out.cl.cell hk
            have h2 := HO.out
            rw [hkk, atI_nat] at h2
            rw [h2] at h1
            exact h1
          subst hkk
          have hd1 : decide (0 ≤ (k : Int)) = true := by simp
          have hd2 : decide ((k : Int) < (I.n : Int)) = true := by simp; omega
          go_quiet (fail)
          go_wp2
          go_meet
          case rel => exact ⟨rfl, _, rfl⟩
        · as_aux_lemma =>
          have hd1 : decide (0 ≤ nn) = true := by simpa using h0
          have hd2 : decide (nn < (I.n : Int)) = false := by simpa using h1
          go_quiet (fail)
          go_wp2
          go_meet
          case rel => exact ⟨rfl, _, rfl⟩
      · as_aux_lemma =>
        have hd1 : decide (0 ≤ nn) = false := by simpa using h0
        go_quiet (fail)
        go_wp2
        go_meet
        case rel => exact ⟨rfl, _, rfl⟩
    case rest => as_aux_lemma =>
      obtain ⟨rfl, q, hw7⟩ := hcut
      have H7 : Hid (RP w wc I P W P W ob kd nn vv nr) := by rw [hw7]; exact H.out.drewN q
      obtain ⟨w7, hw8⟩ : ∃ w7, w7 = wc := ⟨_, rfl⟩
      subst hw8
      clear hw7 H HM ho1 hc0
      have ho1 := H7.out.o1
      go_wp2_with fail
      go_loopw [34, 35] (fun mv s wr => mv = .bool false ∧ s = .int .i64 0 ∧ RP w wr I P W P W ob kd nn vv nr) (fun _ _ _ => 0)
      case atStart => exact ⟨rfl, rfl, H7.out⟩
      case round =>
        obtain ⟨rfl, rfl, hr⟩ := hrel
        have HR : Hid (RP w wr I P W P W ob kd nn vv nr) := hr
        clear hr H7 ho1
        have HR2 : Hid (∀ q, RP w (wr.drewN q) I P W P W ob kd nn vv nr) := fun q => HR.out.drewN q
        have ho1 := HR.out.o1
        go_upto_region 23 with (fail)
        go_quiet (fail)
        go_wp2_with fail
        refine (drop_none _ (HR2.out _).ro.ar _ HO.out).mono ?_
        rintro e w8 ⟨rfl, q, rfl⟩
        go_wp2_with fail
        exact ⟨rfl, ⟨by kernel_rfl, rfl, rfl, rfl, rfl, rfl, rfl, rfl, rfl, rfl, rfl, rfl⟩, rfl, _, _, HR2.out _⟩
  · as_aux_lemma =>
    have HP : Hid (P k = some p) := hp
    have hk := HM.out.klt hp
    have hkI : (k : Int) < (I.n : Int) := by omega
    have hnum := HM.out.num hp
    have hn32 := hnum.n32
    have hcc := (HM.out.ok k p hp).1
    clear hp hnum
    go_upto_region 21 with (fail)
    go_cut [34] from 127 to 146 (fun mv wk => mv = .bool true ∧ ∃ q, wk = w6.drewN q)
    case first => as_aux_lemma =>
      have hcl : w6.cell? ⟨I.c, k, none⟩ = some (.int .i64 p.c) := by
        have h1 := HM.out.cl.cell hk
        rw [HP.out] at h1
        exact h1
      have hd1 : decide (0 ≤ (k : Int)) = true := by simp
      have hd2 : decide ((k : Int) < (I.n : Int)) = true := by simp; omega
      have hd3 : decide (0 ≤ p.c) = true := by simpa using hcc
      go_quiet (fail)
      go_wp2
      go_meet
      case rel => exact ⟨rfl, _, rfl⟩
    case rest => as_aux_lemma =>
      obtain ⟨rfl, q, hw7⟩ := hcut
      have H7 : Hid (RP w wc I P W P W ob kd (k : Int) vv nr ∧ MdAt wc w.heap.size I.m I.c I.u I.v I.n P W ub) := by rw [hw7]; exact ⟨H.out.drewN q, HM.out.drewN q⟩
      obtain ⟨w7, hw8⟩ : ∃ w7, w7 = wc := ⟨_, rfl⟩
      subst hw8
      clear hw7 H HM ho1 hc0 hcc
      go_wp2_with fail
      go_loopw [34, 35] (fun mv s wr => ∃ t : Nat, t ≤ p.n ∧ mv = .bool true ∧ s = .int .i64 (t : Int) ∧ (∀ x, x < t → p.U x = false) ∧ RP w wr I P W P W ob kd (k : Int) vv nr ∧ MdAt wr w.heap.size I.m I.c I.u I.v I.n P W ub) (fun _ s _ => p.n - (intOf s).toNat)
      case atStart => exact ⟨0, Nat.zero_le _, rfl, rfl, fun x hx => absurd hx (Nat.not_lt_zero _), H7.out⟩
      case round =>
        obtain ⟨t, ht, rfl, rfl, hno, hr⟩ := hrel
        have HN : Hid (∀ x, x < t → p.U x = false) := hno
        have HR : Hid (RP w wr I P W P W ob kd (k : Int) vv nr ∧ MdAt wr w.heap.size I.m I.c I.u I.v I.n P W ub) := hr
        clear hr H7 hno
        have HR2 : Hid (∀ q, RP w (wr.drewN q) I P W P W ob kd (k : Int) vv nr ∧ MdAt (wr.drewN q) w.heap.size I.m I.c I.u I.v I.n P W ub) := fun q => ⟨HR.out.1.drewN q, HR.out.2.drewN q⟩
        have ho1 := HR.out.1.o1
        have hc0 := HR.out.2.c0
        have hc1 := HR.out.2.c1
        have hus : wr.cell? ⟨I.u, k, none⟩ = some (.slice (some ⟨ub k, 0, none⟩) p.n p.n) := by
          have := HR.out.2.us.cell hk
          rw [HP.out] at this
          exact this
        by_cases hlt : t < p.n
        ·
          have hltI : (t : Int) < (p.n : Int) := by omega
          have hd1 : decide ((t : Int) < (p.n : Int)) = true := by simp; omega
          go_upto_region 23 with (fail)
          go_cut [160] from 147 to 159 (fun c wk => c = .bool true ∧ ∃ q, wk = wr.drewN q)
          case first => as_aux_lemma =>
            go_quiet (fail)
            go_wp2
            go_meet
            case rel => exact ⟨rfl, _, rfl⟩
          case rest =>
            obtain ⟨rfl, q, hw8⟩ := hcut
            have H8 : Hid (RP w wc I P W P W ob kd (k : Int) vv nr ∧ MdAt wc w.heap.size I.m I.c I.u I.v I.n P W ub) := by rw [hw8]; exact HR2.out q
            obtain ⟨w8, hw9⟩ : ∃ w8, w8 = wc := ⟨_, rfl⟩
            subst hw9
            clear hw8 HR2 HR ho1 hc0 hc1 hus
            have HR2 : Hid (∀ q, RP w (w8.drewN q) I P W P W ob kd (k : Int) vv nr ∧ MdAt (w8.drewN q) w.heap.size I.m I.c I.u I.v I.n P W ub) := fun q => ⟨H8.out.1.drewN q, H8.out.2.drewN q⟩
            have ho1 := H8.out.1.o1
            have hc1 := H8.out.2.c1
            have hus : w8.cell? ⟨I.u, k, none⟩ = some (.slice (some ⟨ub k, 0, none⟩) p.n p.n) := by
              have := H8.out.2.us.cell hk
              rw [HP.out] at this
              exact this
            have hcx : w8.cell? ⟨ub k, t, none⟩ = some (.bool (p.U t)) := (H8.out.2.ur k p HP.out).cell hlt
            cases hU : p.U t
            · as_aux_lemma =>
              have HN2 : Hid (∀ x, x < t + 1 → p.U x = false) := fun x hx => by
                by_cases e : x = t
                · rw [e]; exact hU
                · exact HN.out x (by omega)
              rw [hU] at hcx
              clear hU HN
              go_upto_region 25 with (fail)
              go_quiet (fail)
              go_wp2_with fail
              go_roundw
              case rel => exact ⟨t + 1, by omega, rfl, by go_num, HN2.out, HR2.out _⟩
              case measure => simp [intOf]; omega
            · as_aux_lemma =>
              have HC : Hid (cnt p.U p.n ≠ 0) := cnt_some p.U p.n hlt hU
              rw [hU] at hcx
              clear hU HN
              go_upto_region 25 with (fail)
              go_quiet (fail)
              go_wp2_with fail
              refine (drop_used _ (HR2.out _).1.ro.ar HP.out HC.out).mono ?_
              rintro e w9 ⟨rfl, q2, rfl⟩
              go_wp2_with fail
              exact ⟨rfl, ⟨by kernel_rfl, rfl, rfl, rfl, rfl, rfl, rfl, rfl, rfl, rfl, rfl, rfl⟩, rfl, _, _, (HR2.out _).1⟩
        · as_aux_lemma =>
          have hd1 : decide ((t : Int) < (p.n : Int)) = false := by simp; omega
          have HC : Hid (cnt p.U p.n = 0) := cnt_none p.U p.n (fun x hx => HN.out x (by omega))
          clear HN
          go_upto_region 23 with (fail)
          go_quiet (fail)
          go_wp2_with fail
          refine (drop_yes _ (HR2.out _).1.ro.ar HP.out HC.out).mono ?_
          rintro e w9 ⟨rfl, ha, hBu⟩
          have H9 : Hid (RP w w9 I (upP P k none) W P W ob kd (k : Int) vv nr) := (HR2.out _).1.arena ha (Fix.of_but hBu (by simp))
          clear ha hBu HR HR2 ho1 hc0 hc1 hus hlt hd1 HC
          have ho1 := H9.out.o1
          obtain ⟨ub9, hm9⟩ := H9.out.ro.md
          have hc0 := hm9.c0
          have hc1 := hm9.c1
          have hcl := hm9.cl.cell hk
          have hcu := hm9.us.cell hk
          have hf1 := hm9.cl.frozen k
          have hf2 := hm9.us.frozen k
          have hl1 := hm9.cl.lt
          have hl2 := hm9.us.lt
          have hne : I.c ≠ I.u := row_ne hm9.cl hm9.us (by decide)
          have hne2 : I.m ≠ I.c := row_ne hm9.hd hm9.cl (by decide)
          have hne3 : ob ≠ I.c := row_ne H9.out.op.hd hm9.cl (by decide)
          have hne4 : I.m ≠ I.u := row_ne hm9.hd hm9.us (by decide)
          have hne5 : ob ≠ I.u := row_ne H9.out.op.hd hm9.us (by decide)
          have hne' : I.u ≠ I.c := fun e => hne e.symm
          have hne2' : I.c ≠ I.m := fun e => hne2 e.symm
          have hne3' : I.c ≠ ob := fun e => hne3 e.symm
          have hne4' : I.u ≠ I.m := fun e => hne4 e.symm
          have hne5' : I.u ≠ ob := fun e => hne5 e.symm
          have HS : Hid (∀ q, RP w (((w9.drewN q).setCell ⟨I.c, k, none⟩ (.int .i64 (-1))).setCell ⟨I.u, k, none⟩ (.slice none 0 0)) I (upP P k none) W (upP P k none) W ob kd (k : Int) vv nr) := fun q =>
            (H9.out.drewN q).model ((hm9.drewN q).cut k (fun e => H9.out.ro.d3 e.symm)) ((Fix.of_but ((But.refl I.c _).setCell k _) (by simp)).trans (Fix.of_but ((But.refl I.u _).setCell k _) (by simp)))
          clear hm9
          generalize usO (P k) (ub9 k) = uv at *
          generalize clsO (P k) = cv at *
          go_upto_region 29 with (fail)
          go_region_held3 (fun w' => w'.cell? ⟨I.m, 0, none⟩ = some (.slice (some ⟨I.c, 0, none⟩) I.n I.n) ∧ w'.cell? ⟨I.m, 1, none⟩ = some (.slice (some ⟨I.u, 0, none⟩) I.n I.n) ∧ w'.cell? ⟨ob, 1, none⟩ = some (.int .i64 (k : Int))) (go_keep) (fail)
          all_goals
            go_wp2
            exact ⟨rfl, ⟨by kernel_rfl, rfl, rfl, rfl, rfl, rfl, rfl, rfl, rfl, rfl, rfl, rfl⟩, rfl, _, _, HS.out _⟩
end

end Go.Proofs.YtjpeppflldmffaaDoor

/- ArenaPlays in parts: the model's search for a slot, within a page. -/
import Derived.Test.YtjpeppflldmffaaDoorApE
namespace Go.Proofs.YtjpeppflldmffaaDoor
open Go.RowKit

noncomputable def code11 : Code := (Tryd.f3.body.bind (findBlock 11)).getD .skip
noncomputable def code9 : Code := (Tryd.f3.body.bind (findBlock 9)).getD .skip

/-- The page with the slot z used. -/
def tk (P : Nat → Option PSt) (k z : Nat) (p : PSt) : Nat → Option PSt := upP P k (some ⟨p.blk, p.c, up p.U z true, p.M⟩)

/-- What the search within one page comes to. -/
def InPost (w : World) (X : Arg) (I : Ids) (i ob : Nat) (nn vv : Int) (nr : Bool) (P : Nat → Option PSt) (W : Nat → Int) (k : Nat) (p : PSt) : Exit → Act → World → Prop :=
  EndsN fun a' w' => Env X I i ob a' ∧ a'.tmps.toList[21]? = some (.int .i64 (k : Int)) ∧
    ((a'.tmps.toList[20]? = some (.int .i64 0) ∧ (∀ x, x < p.n → p.U x = true) ∧ RP w w' I P W P W ob 2 nn vv nr) ∨
      ∃ z, Fit P nn k z p ∧ a'.tmps.toList[20]? = some (.int .i64 ((adr k z p.sz : Nat) : Int)) ∧ RP w w' I P W (tk P k z p) W ob 2 nn vv nr)

theorem tk_n (p : PSt) (U M : Nat → Bool) : (⟨p.blk, p.c, U, M⟩ : PSt).n = p.n := rfl

section
variable {w w6 : World} {X : Arg} {I : Ids} {i ob : Nat} {nn vv : Int} {nr : Bool} {P : Nat → Option PSt} {W : Nat → Int} (a : Act) (hE : Env X I i ob a)
include hE
set_option maxRecDepth 100000 in
set_option maxHeartbeats 8000000 in
theorem in_page {k : Nat} {p : PSt} (h20 : a.tmps.toList[20]? = some (.int .i64 0)) (h21 : a.tmps.toList[21]? = some (.int .i64 (k : Int))) (h22 : a.tmps.toList[22]? = some (.int .i64 0))
    (h : RP w w6 I P W P W ob 2 nn vv nr) (hp : P k = some p) (hc : p.c = nn) : code11.wp Tryd.prog (InPost w X I i ob nn vv nr P W k p) a w6 := by
  have H : Hid (RP w w6 I P W P W ob 2 nn vv nr) := h
  have HP : Hid (P k = some p) := hp
  have HC : Hid (p.c = nn) := hc
  obtain ⟨v, ha, hv⟩ := hE.open
  rw [hv 20 _ h20, hv 21 _ h21, hv 22 _ h22] at ha
  clear hv h20 h21 h22 hE
  subst ha
  obtain ⟨ub0, hm0⟩ := h.ro.md
  have hk : k < I.n := hm0.klt hp
  have hkI : (k : Int) < (I.n : Int) := by omega
  have hn8 := h.ro.n8
  have HNum : Hid (PNum p p.sz p.n) := hm0.num hp
  have hn32 := (hm0.num hp).n32
  clear h hp hc hm0 ub0
  unfold InPost
  conv => arg 2; whnf
  go_wp2_with fail
  go_loopw [20, 22] (fun wv sv wk => ∃ s : Nat, s ≤ p.n ∧ sv = .int .i64 (s : Int) ∧ ((wv = .int .i64 0 ∧ (∀ x, x < s → p.U x = true) ∧ RP w wk I P W P W ob 2 nn vv nr) ∨
      ∃ z, Fit P nn k z p ∧ wv = .int .i64 ((adr k z p.sz : Nat) : Int) ∧ RP w wk I P W (tk P k z p) W ob 2 nn vv nr)) (fun _ sv _ => p.n - (intOf sv).toNat)
  case atStart => exact ⟨0, Nat.zero_le _, rfl, Or.inl ⟨rfl, fun x hx => absurd hx (Nat.not_lt_zero _), H.out⟩⟩
  case round =>
    obtain ⟨s, hs, rfl, hcase⟩ := hrel
    clear H
    rcases hcase with ⟨rfl, hall, hr⟩ | ⟨z, hfit, rfl, hr⟩
    · have HR : Hid (RP w wr I P W P W ob 2 nn vv nr) := hr
      have HA : Hid (∀ x, x < s → p.U x = true) := hall
      obtain ⟨ub, hm⟩ := hr.ro.md
      have HM : Hid (MdAt wr w.heap.size I.m I.c I.u I.v I.n P W ub) := hm
      clear hr hall hm
      have HR2 : Hid (∀ q, RP w (wr.drewN q) I P W P W ob 2 nn vv nr ∧ MdAt (wr.drewN q) w.heap.size I.m I.c I.u I.v I.n P W ub) := fun q => ⟨HR.out.drewN q, HM.out.drewN q⟩
      have ho1 := HR.out.o1
      have hc0 := HM.out.c0
      have hc1 := HM.out.c1
      have hus : wr.cell? ⟨I.u, k, none⟩ = some (.slice (some ⟨ub k, 0, none⟩) p.n p.n) := by
        have := HM.out.us.cell hk
        rw [HP.out] at this
        exact this
      have hcl : wr.cell? ⟨I.c, k, none⟩ = some (.int .i64 nn) := by
        have := HM.out.cl.cell hk
        rw [HP.out] at this
        rw [← HC.out]
        exact this
      by_cases hlt : s < p.n
      · have hd1 : decide ((s : Int) < (p.n : Int)) = true := by simp; omega
        have hltI : (s : Int) < (p.n : Int) := by omega
        have HUr : Hid (wr.rowIs (ub k) 4 p.n (fun s => .bool (p.U s))) := HM.out.ur k p HP.out
        have hcx : wr.cell? ⟨ub k, s, none⟩ = some (.bool (p.U s)) := HUr.out.cell hlt
        have hfx := HUr.out.frozen s
        have hlx := HUr.out.lt
        cases hU : p.U s
        · as_aux_lemma =>
          have HF : Hid (Fit P nn k s p) := ⟨HP.out, HC.out, hlt, hU, HA.out⟩
          rw [hU] at hcx
          have hsz : Hid (szN nn = (p.sz : Int)) := by show szN nn = _; rw [← HC.out]; exact HNum.out.hs
          have hm1 := slot_le HNum.out.m hlt
          have hz16 : p.sz ≤ 16 := HNum.out.s16
          obtain ⟨t, ht⟩ : ∃ t, t = s * p.sz := ⟨_, rfl⟩
          have hI : (s : Int) * (p.sz : Int) = (t : Int) := by rw [ht]; simp
          have hAd : Hid (((adr k s p.sz : Nat) : Int) = 1048576 + 32 * (k : Int) + (t : Int)) := by show ((adr k s p.sz : Nat) : Int) = _; unfold adr; rw [← ht]; omega
          rw [← ht] at hm1
          have ht32 : t ≤ 32 := by omega
          have HS : Hid (∀ q, RP w ((wr.drewN q).setCell ⟨ub k, s, none⟩ (.bool true)) I P W (tk P k s p) W ob 2 nn vv nr) := fun q =>
            (HR2.out q).1.model ((HR2.out q).2.setU HP.out s true p.M) (Fix.of_row ((But.refl _ _).setCell s _) ((HR2.out q).2.ur k p HP.out) ((HR2.out q).2.b4 k p HP.out) (by simp))
          have hneo : ob ≠ ub k := row_ne HR.out.op.hd HUr.out (by decide)
          have hneo' : ub k ≠ ob := fun e => hneo e.symm
          clear hU ht HA HR2 HM HR HUr HNum hm1
          generalize ub k = ubk at *
          go_upto_region 45 with (fail)
          go_quiet (fail)
          go_upto_region 49 with (fail)
          go_wp2_with fail
          refine (refSize_any' hsz.out _).mono ?_
          rintro e w8 ⟨rfl, hB⟩
          have H8 : Hid (RP w w8 I P W (tk P k s p) W ob 2 nn vv nr) := (HS.out _).below hB
          clear hB HS
          go_wp2_with fail
          go_roundw
          case rel => exact ⟨s + 1, by omega, by go_num, Or.inr ⟨s, HF.out, by rw [hAd.out]; exact congrArg (Value.int .i64) (by omega), H8.out⟩⟩
          case measure => simp [intOf]; omega
        · as_aux_lemma =>
          have HA2 : Hid (∀ x, x < s + 1 → p.U x = true) := fun x hx => by
            by_cases e : x = s
            · rw [e]; exact hU
            · exact HA.out x (by omega)
          rw [hU] at hcx
          clear hU HA HM HR HUr HNum
          generalize ub k = ubk at *
          go_upto_region 45 with (fail)
          go_quiet (fail)
          go_wp2_with fail
          go_roundw
          case rel => exact ⟨s + 1, by omega, by go_num, Or.inl ⟨rfl, HA2.out, (HR2.out _).1⟩⟩
          case measure => simp [intOf]; omega
      · as_aux_lemma =>
        have hd1 : decide ((s : Int) < (p.n : Int)) = false := by simp; omega
        have HA2 : Hid (∀ x, x < p.n → p.U x = true) := fun x hx => HA.out x (by omega)
        clear HA HM HR HNum
        generalize ub k = ubk at *
        go_upto_region 45 with (fail)
        go_quiet (fail)
        go_wp2_with fail
        exact ⟨rfl, ⟨by kernel_rfl, rfl, rfl, rfl, rfl, rfl, rfl, rfl, rfl, rfl, rfl, rfl⟩, rfl, Or.inl ⟨rfl, HA2.out, (HR2.out _).1⟩⟩
    · have HR : Hid (RP w wr I P W (tk P k z p) W ob 2 nn vv nr) := hr
      have HF : Hid (Fit P nn k z p) := hfit
      obtain ⟨ub, hm⟩ := hr.ro.md
      have hT : tk P k z p k = some ⟨p.blk, p.c, up p.U z true, p.M⟩ := upP_same _ _ _
      have ho1 := HR.out.o1
      have hc0 := hm.c0
      have hc1 := hm.c1
      have hus : wr.cell? ⟨I.u, k, none⟩ = some (.slice (some ⟨ub k, 0, none⟩) p.n p.n) := by
        have := hm.us.cell hk
        rw [hT] at this
        exact this
      have hcl : wr.cell? ⟨I.c, k, none⟩ = some (.int .i64 nn) := by
        have := hm.cl.cell hk
        rw [hT] at this
        rw [← HC.out]
        exact this
      have HR2 : Hid (∀ q, RP w (wr.drewN q) I P W (tk P k z p) W ob 2 nn vv nr) := fun q => HR.out.drewN q
      have hy0 : (((adr k z p.sz : Nat) : Int) == 0) = false := by
        have : ((adr k z p.sz : Nat) : Int) ≠ 0 := by unfold adr; omega
        simpa using this
      clear hr hfit hm hT HR HNum
      generalize ub k = ubk at *
      obtain ⟨y, hy⟩ : ∃ y : Int, y = ((adr k z p.sz : Nat) : Int) := ⟨_, rfl⟩
      have HY : Hid (y = ((adr k z p.sz : Nat) : Int)) := hy
      rw [← hy] at hy0 ⊢
      clear hy
      by_cases hlt : s < p.n
      · as_aux_lemma =>
        have hd1 : decide ((s : Int) < (p.n : Int)) = true := by simp; omega
        go_upto_region 45 with (fail)
        go_quiet (fail)
        go_wp2_with fail
        exact ⟨rfl, ⟨by kernel_rfl, rfl, rfl, rfl, rfl, rfl, rfl, rfl, rfl, rfl, rfl, rfl⟩, rfl, Or.inr ⟨z, HF.out, by rw [← HY.out]; rfl, HR2.out _⟩⟩
      · as_aux_lemma =>
        have hd1 : decide ((s : Int) < (p.n : Int)) = false := by simp; omega
        go_upto_region 45 with (fail)
        go_quiet (fail)
        go_wp2_with fail
        exact ⟨rfl, ⟨by kernel_rfl, rfl, rfl, rfl, rfl, rfl, rfl, rfl, rfl, rfl, rfl, rfl⟩, rfl, Or.inr ⟨z, HF.out, by rw [← HY.out]; rfl, HR2.out _⟩⟩
end

end Go.Proofs.YtjpeppflldmffaaDoor

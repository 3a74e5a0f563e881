/- ArenaPlays in parts: the model's search for a slot, page by page. -/
import Derived.Test.YtjpeppflldmffaaDoorApJ
namespace Go.Proofs.YtjpeppflldmffaaDoor
open Go.RowKit

/-- What was found so far: nothing in the first t pages, or a slot. -/
def Fnd (w : World) (I : Ids) (ob : Nat) (nn vv : Int) (nr : Bool) (P : Nat → Option PSt) (W : Nat → Int) (t : Nat) (wv : Value) (w' : World) : Prop :=
  (wv = .int .i64 0 ∧ NoFit P nn t ∧ RP w w' I P W P W ob 2 nn vv nr) ∨
    ∃ k z p, NoFit P nn k ∧ Fit P nn k z p ∧ wv = .int .i64 ((adr k z p.sz : Nat) : Int) ∧ RP w w' I P W (tk P k z p) W ob 2 nn vv nr
/-- What the search comes to. -/
def SrPost (w : World) (X : Arg) (I : Ids) (i ob : Nat) (nn vv : Int) (nr : Bool) (P : Nat → Option PSt) (W : Nat → Int) : Exit → Act → World → Prop :=
  EndsN fun a' w' => Env X I i ob a' ∧ ∃ wv, a'.tmps.toList[20]? = some wv ∧ Fnd w I ob nn vv nr P W I.n wv w'
def SrInv (w : World) (X : Arg) (I : Ids) (i ob : Nat) (nn vv : Int) (nr : Bool) (P : Nat → Option PSt) (W : Nat → Int) (a : Act) (w' : World) : Prop :=
  Env X I i ob a ∧ ∃ (t : Nat) (wv : Value), t ≤ I.n ∧ a.tmps.toList[21]? = some (.int .i64 (t : Int)) ∧ a.tmps.toList[20]? = some wv ∧ Fnd w I ob nn vv nr P W t wv w'
def SrMu (n : Nat) (a : Act) (_ : World) : Nat := n - (intOf ((a.tmps.toList[21]?).getD undef)).toNat

theorem nofit_next {P : Nat → Option PSt} {c : Int} {t : Nat} (h : NoFit P c t) (hn : ∀ p, P t = some p → p.c = c → ∀ x, x < p.n → p.U x = true) : NoFit P c (t + 1) := by
  intro k hk p hp hc x hx
  by_cases e : k = t
  · subst e; exact hn p hp hc x hx
  · exact h k (by omega) p hp hc x hx
theorem mu_lt {n t : Nat} (h : t < n) : n - (intOf (Value.int .i64 ((t : Int) + 1))).toNat < n - (intOf (Value.int .i64 (t : Int))).toNat := by simp [intOf]; omega

section
variable {w w6 : World} {X : Arg} {I : Ids} {i ob : Nat} {nn vv : Int} {nr : Bool} {P : Nat → Option PSt} {W : Nat → Int} (a : Act) (hE : Env X I i ob a)
include hE
set_option maxRecDepth 100000 in
set_option maxHeartbeats 8000000 in
theorem search (h20 : a.tmps.toList[20]? = some (.int .i64 0)) (h21 : a.tmps.toList[21]? = some (.int .i64 0)) (h : RP w w6 I P W P W ob 2 nn vv nr) : code9.wp Tryd.prog (SrPost w X I i ob nn vv nr P W) a w6 := by
  conv => arg 2; whnf
  refine wp_block ?_
  refine wp_loop (SrInv w X I i ob nn vv nr P W) (SrMu I.n) ⟨hE, 0, _, Nat.zero_le _, h21, h20, Or.inl ⟨rfl, fun k hk => absurd hk (Nat.not_lt_zero _), h⟩⟩ ?_
  clear h hE h20 h21
  intro a wr hI
  obtain ⟨hE, t, wv, ht, h21, h20, hfnd⟩ := hI
  obtain ⟨v, ha, hv⟩ := hE.open
  rw [hv 20 _ h20, hv 21 _ h21] at ha
  have HMu : Hid (SrMu I.n a wr = I.n - (intOf (Value.int .i64 (t : Int))).toNat) := by show SrMu I.n a wr = _; unfold SrMu; rw [h21]; rfl
  have HMu2 : Hid (∀ a' w', t < I.n → a'.tmps.toList[21]? = some (.int .i64 ((t : Int) + 1)) → SrMu I.n a' w' < SrMu I.n a wr) := by
    intro a' w' h1 h2
    rw [HMu.out]
    unfold SrMu
    rw [h2]
    exact mu_lt h1
  clear hv h20 h21 hE HMu
  rcases hfnd with ⟨rfl, hno, hr⟩ | ⟨k, z, p, hno, hfit, rfl, hr⟩
  · have HR : Hid (RP w wr I P W P W ob 2 nn vv nr) := hr
    have HN : Hid (NoFit P nn t) := hno
    have hn8 := hr.ro.n8
    clear hr hno
    by_cases hlt : t < I.n
    · have hltI : (t : Int) < (I.n : Int) := by omega
      have HLt : Hid (t < I.n) := hlt
      obtain ⟨ub, hm⟩ := HR.out.ro.md
      have HM : Hid (MdAt wr w.heap.size I.m I.c I.u I.v I.n P W ub) := hm
      clear hm
      cases hp : P t with
      | none => as_aux_lemma =>
        have HN2 : Hid (NoFit P nn (t + 1)) := nofit_next HN.out (fun p e => by rw [hp] at e; cases e)
        have HP : Hid (P t = none) := hp
        clear hp HN HM
        subst ha
        go_wp2_with fail
        go_loopw [20, 22] (fun wv sv wk => wv = .int .i64 0 ∧ sv = .int .i64 0 ∧ RP w wk I P W P W ob 2 nn vv nr) (fun _ _ _ => 0)
        case atStart => exact ⟨rfl, rfl, HR.out⟩
        case round =>
          rename_i wr0
          obtain ⟨rfl, rfl, hr⟩ := hrel
          have HR3 : Hid (RP w wr I P W P W ob 2 nn vv nr) := hr
          have HR2 : Hid (∀ q, RP w (wr.drewN q) I P W P W ob 2 nn vv nr) := fun q => HR3.out.drewN q
          obtain ⟨ub, hm⟩ := hr.ro.md
          have hc1 := hm.c1
          have hus : wr.cell? ⟨I.u, t, none⟩ = some (.slice none 0 0) := by
            have := hm.us.cell HLt.out
            rw [HP.out] at this
            exact this
          clear hr hm HR HR3
          go_upto_region 45 with (fail)
          go_quiet (fail)
          go_wp2_with fail
          exact ⟨⟨⟨by kernel_rfl, rfl, rfl, rfl, rfl, rfl, rfl, rfl, rfl, rfl, rfl, rfl⟩, t + 1, _, HLt.out, congrArg (fun x => some (Value.int .i64 x)) (by omega), rfl, Or.inl ⟨rfl, HN2.out, HR2.out _⟩⟩, HMu2.out _ _ HLt.out rfl⟩
      | some p =>
        by_cases hc : p.c = nn
        · as_aux_lemma =>
          have HP : Hid (P t = some p) := hp
          have HC : Hid (p.c = nn) := hc
          clear hp hc HM
          subst ha
          go_upto_block 11 with (fail)
          refine Code.wp_mono ?_ (in_page (P := P) (W := W) _ ⟨by kernel_rfl, rfl, rfl, rfl, rfl, rfl, rfl, rfl, rfl, rfl, rfl, rfl⟩ rfl rfl rfl HR.out HP.out HC.out)
          rintro e a' w7 ⟨rfl, hE, h21, hcase⟩
          obtain ⟨v', ha', hv'⟩ := hE.open
          rw [hv' 21 _ h21] at ha'
          rcases hcase with ⟨h20, hall, hr⟩ | ⟨z, hfit, h20, hr⟩
          · rw [hv' 20 _ h20] at ha'
            have HN2 : Hid (NoFit P nn (t + 1)) := nofit_next HN.out (fun p' e _ => by rw [HP.out] at e; cases e; exact hall)
            have H7 : Hid (RP w w7 I P W P W ob 2 nn vv nr) := hr
            clear hv' h20 h21 hE hr hall HR HN
            subst ha'
            go_wp2_with fail
            exact ⟨⟨⟨by kernel_rfl, rfl, rfl, rfl, rfl, rfl, rfl, rfl, rfl, rfl, rfl, rfl⟩, t + 1, _, HLt.out, congrArg (fun x => some (Value.int .i64 x)) (by omega), rfl, Or.inl ⟨rfl, HN2.out, H7.out⟩⟩, HMu2.out _ _ HLt.out rfl⟩
          · rw [hv' 20 _ h20] at ha'
            have H7 : Hid (RP w w7 I P W (tk P t z p) W ob 2 nn vv nr) := hr
            have HF : Hid (Fit P nn t z p) := hfit
            clear hv' h20 h21 hE hr hfit HR
            subst ha'
            go_wp2_with fail
            exact ⟨⟨⟨by kernel_rfl, rfl, rfl, rfl, rfl, rfl, rfl, rfl, rfl, rfl, rfl, rfl⟩, t + 1, _, HLt.out, congrArg (fun x => some (Value.int .i64 x)) (by omega), rfl, Or.inr ⟨t, z, p, HN.out, HF.out, rfl, H7.out⟩⟩, HMu2.out _ _ HLt.out rfl⟩
        · as_aux_lemma =>
          have HN2 : Hid (NoFit P nn (t + 1)) := nofit_next HN.out (fun p' e h2 => by rw [hp] at e; cases e; exact absurd h2 hc)
          have HP : Hid (P t = some p) := hp
          have hn2 := (HM.out.num hp).n2
          have hneb : (p.c == nn) = false := by simpa using hc
          have hd1 : decide ((0 : Int) < (p.n : Int)) = true := by simp; omega
          have hd2 : decide (0 < p.n) = true := by simp; omega
          clear hp hc HN HM
          subst ha
          go_wp2_with fail
          go_loopw [20, 22] (fun wv sv wk => wv = .int .i64 0 ∧ sv = .int .i64 0 ∧ RP w wk I P W P W ob 2 nn vv nr) (fun _ _ _ => 0)
          case atStart => exact ⟨rfl, rfl, HR.out⟩
          case round =>
            rename_i wr0
            obtain ⟨rfl, rfl, hr⟩ := hrel
            have HR3 : Hid (RP w wr I P W P W ob 2 nn vv nr) := hr
            have HR2 : Hid (∀ q, RP w (wr.drewN q) I P W P W ob 2 nn vv nr) := fun q => HR3.out.drewN q
            obtain ⟨ub, hm⟩ := hr.ro.md
            have ho1 := hr.o1
            have hc0 := hm.c0
            have hc1 := hm.c1
            have hus : wr.cell? ⟨I.u, t, none⟩ = some (.slice (some ⟨ub t, 0, none⟩) p.n p.n) := by
              have := hm.us.cell HLt.out
              rw [HP.out] at this
              exact this
            have hcl : wr.cell? ⟨I.c, t, none⟩ = some (.int .i64 p.c) := by
              have := hm.cl.cell HLt.out
              rw [HP.out] at this
              exact this
            clear hr hm HR HR3
            go_upto_region 45 with (fail)
            go_quiet (fail)
            go_wp2_with fail
            exact ⟨⟨⟨by kernel_rfl, rfl, rfl, rfl, rfl, rfl, rfl, rfl, rfl, rfl, rfl, rfl⟩, t + 1, _, HLt.out, congrArg (fun x => some (Value.int .i64 x)) (by omega), rfl, Or.inl ⟨rfl, HN2.out, HR2.out _⟩⟩, HMu2.out _ _ HLt.out rfl⟩
    · as_aux_lemma =>
      have e : t = I.n := by omega
      have HN2 : Hid (NoFit P nn I.n) := by rw [← e]; exact HN.out
      have hge : (I.n : Int) ≤ (t : Int) := by omega
      clear e HN hlt
      subst ha
      go_wp2_with fail
      exact ⟨rfl, ⟨by kernel_rfl, rfl, rfl, rfl, rfl, rfl, rfl, rfl, rfl, rfl, rfl, rfl⟩, _, rfl, Or.inl ⟨rfl, HN2.out, HR.out⟩⟩
  · have HR : Hid (RP w wr I P W (tk P k z p) W ob 2 nn vv nr) := hr
    have HF : Hid (NoFit P nn k ∧ Fit P nn k z p) := ⟨hno, hfit⟩
    have hy0 : (((adr k z p.sz : Nat) : Int) == 0) = false := by
      have : ((adr k z p.sz : Nat) : Int) ≠ 0 := by unfold adr; omega
      simpa using this
    clear hr hno hfit
    obtain ⟨y, hy⟩ : ∃ y : Int, y = ((adr k z p.sz : Nat) : Int) := ⟨_, rfl⟩
    have HY : Hid (y = ((adr k z p.sz : Nat) : Int)) := hy
    rw [← hy] at hy0 ha
    clear hy
    by_cases hlt : t < I.n
    · as_aux_lemma =>
      have hltI : (t : Int) < (I.n : Int) := by omega
      subst ha
      go_wp2_with fail
      exact ⟨rfl, ⟨by kernel_rfl, rfl, rfl, rfl, rfl, rfl, rfl, rfl, rfl, rfl, rfl, rfl⟩, _, rfl, Or.inr ⟨k, z, p, HF.out.1, HF.out.2, by rw [← HY.out], HR.out⟩⟩
    · as_aux_lemma =>
      have hltI : (I.n : Int) ≤ (t : Int) := by omega
      clear hlt
      subst ha
      go_wp2_with fail
      exact ⟨rfl, ⟨by kernel_rfl, rfl, rfl, rfl, rfl, rfl, rfl, rfl, rfl, rfl, rfl, rfl⟩, _, rfl, Or.inr ⟨k, z, p, HF.out.1, HF.out.2, by rw [← HY.out], HR.out⟩⟩
end

end Go.Proofs.YtjpeppflldmffaaDoor

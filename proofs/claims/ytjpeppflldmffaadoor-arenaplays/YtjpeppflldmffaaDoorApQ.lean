/- ArenaPlays in parts: a round. -/
import Derived.Test.YtjpeppflldmffaaDoorApF
import Derived.Test.YtjpeppflldmffaaDoorApG
import Derived.Test.YtjpeppflldmffaaDoorApH
import Derived.Test.YtjpeppflldmffaaDoorApI
import Derived.Test.YtjpeppflldmffaaDoorApL
import Derived.Test.YtjpeppflldmffaaDoorApM
import Derived.Test.YtjpeppflldmffaaDoorApP
namespace Go.Proofs.YtjpeppflldmffaaDoor
open Go.RowKit

/-- The switch. -/
theorem switch {w w6 : World} {X : Arg} {I : Ids} {i ob : Nat} {kd nn vv : Int} {nr : Bool} {P : Nat → Option PSt} {W : Nat → Int} (a : Act) (hE : Env X I i ob a) (hb : I64 nn) (h126 : a.tmps.toList[126]? = some (.int .i64 kd)) (h : RP w w6 I P W P W ob kd nn vv nr) :
    code4.wp Tryd.prog (SwPost w X I i ob kd nn vv nr) a w6 := by
  by_cases h1 : kd = 1
  · subst h1; exact sw_grow a hE h126 h
  · by_cases h2 : kd = 2
    · subst h2; exact sw_take a hE h126 h
    · by_cases h3 : kd = 3
      · subst h3; exact sw_free a hE hb h126 h
      · by_cases h4 : kd = 4
        · subst h4; exact sw_store a hE hb h126 h
        · exact sw_drop a hE h126 h (by simpa using h1) (by simpa using h2) (by simpa using h3) (by simpa using h4)

theorem tail_any {w w7 : World} {X : Arg} {I : Ids} {i ob : Nat} {kd nn vv : Int} {nr : Bool} {P : Nat → Option PSt} {W : Nat → Int} (a : Act) (hE : Env X I i ob a) (h : RP w w7 I P W P W ob kd nn vv nr) : codeT.wp Tryd.prog (ThPost w X I i ob kd nn vv nr P W) a w7 := by
  rcases atI_cases P X.pg with ho | ⟨k, p, hpg, hp⟩
  · exact tail_none a hE h ho
  · by_cases h0 : X.at' < 0 ∨ (p.n : Int) ≤ X.at'
    · exact tail_over a hE h hpg hp h0
    · obtain ⟨s, hs⟩ := Int.eq_ofNat_of_zero_le (a := X.at') (by omega)
      exact tail_in a hE h hpg hp hs (by omega)

theorem tri_new (w : World) (x0 x1 x2 : Int) : Tri (w.alloc (.cells #[.int .i64 x0, .int .i64 x1, .int .i64 x2] 3)) w.heap.size (fun j => if j = 0 then x0 else if j = 1 then x1 else x2) := by
  have r := World.rowIs_alloc w #[.int .i64 x0, .int .i64 x1, .int .i64 x2] 3 (fun j => .int .i64 (if j = 0 then x0 else if j = 1 then x1 else x2)) (fun i hi => by
    have : i = 0 ∨ i = 1 ∨ i = 2 := by simp at hi; omega
    rcases this with rfl | rfl | rfl <;> rfl)
  exact ⟨fun j hj => r.cell (i := j) (by simpa using hj), by simp⟩
theorem op_new (w : World) (kd nn vv : Int) (nr : Bool) : OpAt (w.alloc (.cells #[.int .i64 kd, .int .i64 nn, .int .i64 vv, .bool nr] 40)) w.heap.size kd nn vv nr :=
  ⟨World.rowIs_alloc w #[.int .i64 kd, .int .i64 nn, .int .i64 vv, .bool nr] 40 (opC kd nn vv nr) (fun i hi => by
    have : i = 0 ∨ i = 1 ∨ i = 2 ∨ i = 3 := by simp at hi; omega
    rcases this with rfl | rfl | rfl | rfl <;> rfl)⟩
theorem lp_mu {m t : Nat} (h : t < m) : m - (intOf (Value.int .i64 ((t : Int) + 1))).toNat < m - (intOf (Value.int .i64 (t : Int))).toNat := by simp [intOf]; omega

section
variable {w : World} {X : Arg} {I : Ids} {ops : List Op4} (hm : X.m = ops.length) (hm80 : X.m ≤ 80) (hO : ops = [] ∨ ∃ bl off, X.la = some ⟨bl, off, none⟩ ∧ bl < w.heap.size ∧ Ops4 w bl off ops) (had : I64 X.ad)
include hm hm80 hO had
set_option maxRecDepth 100000 in
set_option maxHeartbeats 8000000 in
theorem loop2 {w5 : World} {P : Nat → Option PSt} {W : Nat → Int} (a : Act) (hE : EnvL X I 0 a) (h : RO w w5 I P W P W) : code2.wp Tryd.prog (LpPost w X I) a w5 := by
  conv => arg 2; whnf
  refine wp_block ?_
  refine wp_loop (LpInv w X I) (LpMu X.m) ⟨0, Nat.zero_le _, hE, P, W, h⟩ ?_
  clear h hE
  intro a wr hI
  obtain ⟨i, hi, hE, P, W, hr⟩ := hI
  have HP : Hid (RO w wr I P W P W) := hr
  have HMu : Hid (LpMu X.m a wr = X.m - (intOf (Value.int .i64 (i : Int))).toNat) := by show LpMu X.m a wr = _; unfold LpMu; rw [hE.s15]; rfl
  have HMu2 : Hid (∀ a' w', i < X.m → a'.tmps.toList[15]? = some (.int .i64 ((i : Int) + 1)) → LpMu X.m a' w' < LpMu X.m a wr) := by
    intro a' w' h1 h2
    rw [HMu.out]
    unfold LpMu
    rw [h2]
    exact lp_mu h1
  obtain ⟨v, ha⟩ := hE.open
  clear hE hr HMu
  have HAD : Hid (I64 X.ad) := had
  by_cases hlt : i < X.m
  · as_aux_lemma =>
    have HLt : Hid (i < X.m) := hlt
    have hlt' : i < ops.length := by rw [← hm]; exact hlt
    have hp : ops[i]? = some ops[i] := List.getElem?_eq_getElem hlt'
    obtain ⟨bl, off, hla, hbl, hO⟩ : ∃ bl off, X.la = some ⟨bl, off, none⟩ ∧ bl < w.heap.size ∧ Ops4 w bl off ops := by
      rcases hO with rfl | hO
      · simp at hlt'
      · exact hO
    rw [hla] at ha
    have HLA : Hid (X.la = some ⟨bl, off, none⟩) := hla
    obtain ⟨hk1, hk2, hk3, hk4, hk5⟩ := hO i _ hp
    generalize ops[i] = o at *
    obtain ⟨kd, n0, vv, nr⟩ := o
    have hc1 : wr.cell? ⟨bl, off + i * 4, none⟩ = some (.int .i64 kd) := (HP.out.lo.cell (p := ⟨bl, off + i * 4, none⟩) hbl).trans hk1
    have hc2 : wr.cell? ⟨bl, off + i * 4 + 1, none⟩ = some (.int .i64 n0) := (HP.out.lo.cell (p := ⟨bl, off + i * 4 + 1, none⟩) hbl).trans hk2
    have hc3 : wr.cell? ⟨bl, off + i * 4 + 2, none⟩ = some (.int .i64 vv) := (HP.out.lo.cell (p := ⟨bl, off + i * 4 + 2, none⟩) hbl).trans hk3
    have hc4 : wr.cell? ⟨bl, off + i * 4 + 3, none⟩ = some (.bool nr) := (HP.out.lo.cell (p := ⟨bl, off + i * 4 + 3, none⟩) hbl).trans hk4
    have HN0 : Hid (I64 n0) := hk5
    have hltI : (i : Int) < (X.m : Int) := by omega
    have HS : Hid (∀ nn, RP w (wr.alloc (.cells #[.int .i64 kd, .int .i64 nn, .int .i64 vv, .bool nr] 40)) I P W P W wr.heap.size kd nn vv nr) := fun nn =>
      ⟨HP.out.below ((Below.refl _ _).alloc (Nat.le_refl _) _), op_new wr kd nn vv nr, HP.out.hB⟩
    clear hk1 hk2 hk3 hk4 hk5 hp hlt' hO hm hbl had HP hlt hi hla
    subst ha
    go_upto_if 117 with (fail)
    go_cut [] from 118 to 124 (fun wk => ∃ nn, I64 nn ∧ RP w wk I P W P W wr.heap.size kd nn vv nr)
    case first => as_aux_lemma =>
      cases nr
      · as_aux_lemma =>
        go_wp2_with fail
        go_meet
        case rel => exact ⟨n0, HN0.out, HS.out n0⟩
      · as_aux_lemma =>
        obtain ⟨r, r2, e1, b1, b2, b3, e2, e3, b4, b5⟩ := rem_twice n0 400 (by omega) (by omega)
        go_wp2_with fail
        go_meet
        case rel => exact ⟨1048576 + r2, ⟨by omega, by omega⟩, HS.out _⟩
    case rest => as_aux_lemma =>
      obtain ⟨nn, hnn, hr6⟩ := hcut
      obtain ⟨w6, hw6⟩ : ∃ w6, w6 = wc := ⟨_, rfl⟩
      subst hw6
      have HNN : Hid (I64 nn) := hnn
      obtain ⟨ob, hob⟩ : ∃ ob, ob = wr.heap.size := ⟨_, rfl⟩
      rw [← hob] at hr6 ⊢
      have H6 : Hid (RP w w6 I P W P W ob kd nn vv nr) := hr6
      have ho0 := hr6.o0
      clear hnn hr6 hc1 hc2 hc3 hc4 HN0 HS hob
      go_upto_block 4 with (fail)
      refine Code.wp_mono ?_ (switch (X := X) (P := P) (W := W) _ ⟨by kernel_rfl, rfl, rfl, (by rw [HLA.out]; first | done | rfl), rfl, rfl, rfl, rfl, rfl, rfl, rfl, rfl⟩ HNN.out rfl H6.out)
      rintro e a' w7 ⟨rfl, hE, h17, P7, W7, hr7⟩
      have H7 : Hid (RP w w7 I P7 W7 P7 W7 ob kd nn vv nr) := hr7
      obtain ⟨v7, ha7, hv7⟩ := hE.open
      rw [hv7 17 _ h17] at ha7
      clear hv7 h17 hE hr7 H6 ho0
      subst ha7
      go_upto_block 15 with (fail)
      refine Code.wp_mono ?_ (listing (P := P7) (W := W7) _ ⟨by kernel_rfl, rfl, rfl, rfl, rfl, rfl, rfl, rfl, rfl, rfl, rfl, rfl⟩ rfl rfl rfl rfl H7.out)
      rintro e a8 w8 ⟨rfl, hE, h17, h37, al, h36, hown, hB⟩
      obtain ⟨aa, ca, rfl⟩ := own_len hown
      have H8 : Hid (RP w w8 I P7 W7 P7 W7 ob kd nn vv nr) := H7.out.below hB
      have HA8 : Hid (OwnL w8 w7.heap.size (.slice aa (allL P7 I.n).length ca) (allL P7 I.n)) := hown
      obtain ⟨v8, ha8, hv8⟩ := hE.open
      rw [hv8 17 _ h17, hv8 36 _ h36, hv8 37 _ h37] at ha8
      clear hv8 h17 h36 h37 hE hown hB H7
      subst ha8
      have hLn : (allL P7 I.n).length ≤ 256 := by
        have h1 := allL_len P7 (fun k p e => (H8.out.ro.ar.num e).n32) I.n
        have h2 := H8.out.ro.n8
        omega
      go_wp2_with fail
      refine (aall_any _ H8.out.ro.ar).mono ?_
      rintro e w9 ⟨va, rfl, howna, hBa⟩
      obtain ⟨av, cv, rfl⟩ := own_len howna
      have HK9 : Hid (KeepOk w9 I.B I.k (.slice av (allL P7 I.n).length cv) (allL P7 I.n)) := H8.out.ro.bo.keep (K := []) (B' := 0) (Ty.of_below hBa) (by simp) (by simp) (by simp) H8.out.ro.hB (by omega) howna
      have H9 : Hid (RP w w9 I P7 W7 P7 W7 ob kd nn vv nr) := H8.out.below hBa
      have HO9 : Hid (OwnL w9 w8.heap.size (.slice av (allL P7 I.n).length cv) (allL P7 I.n) ∧ OwnL w9 w7.heap.size (.slice aa (allL P7 I.n).length ca) (allL P7 I.n)) := ⟨howna, HA8.out.below hBa⟩
      clear howna hBa HA8 H8
      generalize allL P7 I.n = L at *
      have HLn : Hid (L.length ≤ 256) := hLn
      clear hLn
      go_wp2_with fail
      refine (keep_any _ _ _ HK9.out H9.out.ro.hB).mono ?_
      rintro e w10 ⟨rfl, hb10, ht10⟩
      have H10 : Hid (RP w w10 I P7 W7 P7 W7 ob kd nn vv nr) := H9.out.book ht10 hb10
      have HSS : Hid (SrcAt w10 (.slice av L.length cv) L ∧ SrcAt w10 (.slice aa L.length ca) L) := ⟨src_of_own (ht10.own HO9.out.1 (by decide)), src_of_own (ht10.own HO9.out.2 (by decide))⟩
      have HEL : Hid (L.length ≤ maxLen) := by have := HLn.out; show L.length ≤ maxLen; unfold maxLen; omega
      clear hb10 ht10 H9 HO9 HK9
      have ho1 := H10.out.o1
      go_wp2_with fail
      refine (room_any _ H10.out.ro.ar).mono ?_
      rintro e w11 ⟨rfl, q0, rfl⟩
      generalize cnt (noneB P7) I.n = cN at *
      go_wp2_with fail
      refine (same_any L _ _ _ HEL.out (HSS.out.1.drewN _) (HSS.out.2.drewN _)).mono ?_
      rintro e w11 ⟨rfl, q1, rfl⟩
      obtain ⟨r, r2, e1, b1, b2, b3, e2, e3, b4, b5⟩ := rem_twice X.at' 300 (by omega) (by omega)
      have HF3 : Hid (∀ j, j < 3 → I64 ((fun j => if j = 0 then X.ad else if j = 1 then nn else 1048576 + r2) j)) := fun j _ => by
        show I64 (if j = 0 then X.ad else if j = 1 then nn else 1048576 + r2)
        by_cases h0 : j = 0
        · rw [if_pos h0]; exact HAD.out
        · rw [if_neg h0]
          by_cases h1 : j = 1
          · rw [if_pos h1]; exact HNN.out
          · rw [if_neg h1]; exact ⟨by omega, by omega⟩
      clear HSS HEL HLn
      go_upto_block 19 with (fail)
      refine Code.wp_mono ?_ (three_ask (P := P7) (W := W7) (kd := kd) (nn := nn) (vv := vv) (nr := nr) (f := fun j => if j = 0 then X.ad else if j = 1 then nn else 1048576 + r2) _ ⟨by kernel_rfl, rfl, rfl, rfl, rfl, rfl, rfl, rfl, rfl, rfl, rfl, rfl⟩ rfl rfl rfl ((H10.out.drewN _).below ((Below.refl _ _).alloc (Nat.le_refl _) _)) (tri_new _ _ _ _) HF3.out)
      rintro e a12 w12 ⟨rfl, hE, hr12⟩
      clear H10 HF3 ho1 e1 b1 b2 b3 e2 e3 b4 b5
      apply_assumption
      refine Code.wp_mono ?_ (tail_any (P := P7) (W := W7) _ hE hr12)
      clear hE hr12
      rintro e a13 w13 ⟨rfl, hE, hr13⟩
      have H13 : Hid (RP w w13 I P7 W7 P7 W7 ob kd nn vv nr) := hr13
      obtain ⟨v13, ha13, hv13⟩ := hE.open
      clear hv13
      dsimp only at ha13
      clear hE hr13
      subst ha13
      go_wp2_with fail
      exact ⟨⟨i + 1, HLt.out, ⟨by kernel_rfl, rfl, rfl, rfl, rfl, rfl, rfl, rfl, rfl, rfl, congrArg (fun x => some (Value.int .i64 x)) (by omega)⟩, _, _, H13.out.ro⟩, HMu2.out _ _ HLt.out rfl⟩
  · as_aux_lemma =>
    have hge : (X.m : Int) ≤ (i : Int) := by omega
    clear hlt hO hm had
    subst ha
    go_wp2_with fail
    exact ⟨rfl, ⟨i, by kernel_rfl, rfl, rfl, rfl, rfl, rfl, rfl, rfl, rfl, rfl, rfl⟩, _, _, HP.out⟩
end

end Go.Proofs.YtjpeppflldmffaaDoor

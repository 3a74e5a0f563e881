/- The Heap of a law, as it goes on; the walk of alive. -/
import Derived.Test.YtfkimmbnmcgjiaaDoorHpN
import Derived.Test.YtfkimmbnmcgjiaaDoorHpH
import Derived.Test.YtfkimmbnmcgjiaaDoorHpK
namespace Go.Proofs.YtfkimmbnmcgjiaaDoor
open Go.RowKit

/-- A Heap that was made behind w, and what was there. -/
structure HS (w wr : World) (B : Nat) (b : Hb) (n : Nat) (nf : List Int) (s : Hs) : Prop where
  hp : HpAt wr B b n nf s
  lo : Below w.heap.size w wr
  hB : w.heap.size ≤ B
  bs : B ≤ wr.heap.size
  t0 : Tab w
section
variable {w wr w' : World} {B : Nat} {b : Hb} {n : Nat} {nf : List Int} {s s' : Hs}
theorem HS.tb (h : HS w wr B b n nf s) : Tab wr := h.t0.below h.lo h.t0.size
theorem HS.drewN (h : HS w wr B b n nf s) (q : Nat) : HS w (wr.drewN q) B b n nf s := ⟨h.hp.drewN q, below_drewN h.lo q, h.hB, h.bs, h.t0⟩
theorem HS.below (h : HS w wr B b n nf s) (hb : Below wr.heap.size wr w') : HS w w' B b n nf s := ⟨h.hp.below hb, h.lo.trans (hb.mono h.lo.size), h.hB, Nat.le_trans h.bs hb.size, h.t0⟩
theorem HS.to (h : HS w wr B b n nf s) (hp : HpAt w' B b n nf s') (hf : Hf B b wr w') : HS w w' B b n nf s' := by
  have h1 := h.hp.bB
  have h2 := h.hp.mB
  have h3 := h.hp.ar.b1
  have h4 := h.hp.ar.b2
  have h5 := h.hB
  refine ⟨hp, h.lo.trans (hf.below (fun x hx => ?_) h.hB h.lo.size), h.hB, Nat.le_trans h.bs hf.size, h.t0⟩
  simp at hx
  omega
end

theorem took_P (s : Hs) (j m : Nat) (bl : Bool) (k z : Nat) (p : PSt) : (s.took j m bl k z p).P k = some ⟨p.blk, p.c, up p.U z true, p.M⟩ := upP_same _ _ _
theorem took_P2 (s : Hs) (j m : Nat) (bl : Bool) {k k' : Nat} (z : Nat) (p : PSt) (h : k' ≠ k) : (s.took j m bl k z p).P k' = s.P k' := upP_other _ _ h
theorem took_O (s : Hs) (j m : Nat) (bl : Bool) (k z : Nat) (p : PSt) : (s.took j m bl k z p).O k z = some ⟨j, s.ser + 1, if bl then 2 else 0⟩ := upO_same _ _ _ _
theorem took_O2 (s : Hs) (j m : Nat) (bl : Bool) {k z k' x : Nat} (p : PSt) (h : ¬ (k' = k ∧ x = z)) : (s.took j m bl k z p).O k' x = s.O k' x := upO_other _ _ h

theorem sw_P (s : Hs) (k : Nat) (p : PSt) (x : Nat) : (s.sw k p x).P k = some ⟨p.blk, p.c, swS s k x p.U, swS s k x p.M⟩ := upP_same _ _ _

abbrev f0 : Nat → Bool := fun _ => false
def aL : List Int := [1, 16]
theorem fit_aL : FitA [aL] := by intro L hL n hn; simp at hL; subst hL; simp [aL] at hn; rcases hn with rfl | rfl <;> decide
theorem chk_aL : chkN [aL] = 0 := by decide +kernel
theorem sh_aL (w : World) : ShV ((w.alloc (.cells #[.int .i64 1, .int .i64 16] 3)).alloc (.cells #[.slice (some ⟨w.heap.size, 0, none⟩) 2 2] 35)) (.slice (some ⟨w.heap.size + 1, 0, none⟩) 1 1) [aL] := by
  refine Or.inr ⟨w.heap.size + 1, 0, 1, rfl, by simp, fun j hj => ⟨some ⟨w.heap.size, 0, none⟩, 2, ?_⟩⟩
  match j, hj with
  | 0, _ =>
    refine ⟨by simp [aL], SrcAt.alloc (Or.inr ⟨w.heap.size, 0, 2, rfl, by simp, fun j hj => ?_⟩) _⟩
    match j, hj with
    | 0, _ => simp [aL]
    | 1, _ => simp [aL]
theorem up2 (x : Nat) : up (up f0 0 true) 1 true x = decide (x < 2) := by
  by_cases h0 : x = 0
  · subst h0; rfl
  · by_cases h1 : x = 1
    · subst h1; rfl
    · simp [up, h0, h1]; omega

section
variable {w : World} {B : Nat} {b : Hb} {n : Nat} {nf : List Int} {s : Hs}
/-- alive's page: of two objects the first one is White. -/
theorem al_white (h : HpAt w B b n nf s) {pb : Nat} (hp : s.P 0 = some ⟨pb, 1, up (up f0 0 true) 1 true, f0⟩) {o1 o2 : Ob} (h1 : s.O 0 0 = some o1) (h2 : s.O 0 1 = some o2) (c1 : o1.co = 0) (c2 : o2.co ≠ 0) : whiteB s 0 = fun x => decide (x = 0) := by
  funext x
  by_cases e0 : x = 0
  · subst e0; simp [whiteB, h1, c1]
  · by_cases e1 : x = 1
    · subst e1; simp [whiteB, h2, c2]
    · have : s.O 0 x = none := h.free_slot hp (by show up (up f0 0 true) 1 true x = false; rw [up2]; simp; omega)
      simp [whiteB, this, e0]
theorem al_left (hw : whiteB s 0 = fun x => decide (x = 0)) : swS s 0 16 (up (up f0 0 true) 1 true) = fun x => decide (x = 1) := by
  funext x
  unfold swS
  rw [hw, up2]
  by_cases e0 : x = 0
  · subst e0; rfl
  · by_cases e1 : x = 1
    · subst e1; rfl
    · simp [e0, e1]; omega
theorem al_nobeg {P : Nat → Option PSt} {pb : Nat} {M : Nat → Bool} (hp : P 0 = some ⟨pb, 1, fun x => decide (x = 1), M⟩) : NoBeg P 1048576 := by
  intro k x p hi
  have h1 := hi.hp
  have hk : k = 0 ∧ x * p.sz = 0 := by
    have := hi.he
    unfold adr at this
    generalize x * p.sz = y at *
    omega
  obtain ⟨rfl, h2⟩ := hk
  rw [hp] at h1
  cases h1
  have hx : x = 0 := by
    have e : PSt.sz ⟨pb, 1, fun x => decide (x = 1), M⟩ = 2 := rfl
    rw [e] at h2
    omega
  have := hi.hu
  subst hx
  cases this
end

set_option maxRecDepth 100000 in
set_option maxHeartbeats 4000000 in
theorem halive_any (w : World) (hT : Tab w) :
    Calls Tryd.prog 6 #[] w fun e w' => e = .returned (.bool true) ∧ Below w.heap.size w w' := by
  have HT : Hid (Tab w) := hT
  clear hT
  go_enter Tryd.func6, Tryd.ntmps6
  go_wp2_with fail
  refine (hnew_any 2 2 [aL] _ _ (by decide) fit_aL chk_aL (sh_aL w)).mono ?_
  rintro e w1 ⟨b, rfl, hp, hB⟩
  obtain ⟨B, H1⟩ : ∃ B, Hid (HS w w1 B b 2 [2] Hs.none) := ⟨_, hp, (((Below.refl _ w).alloc (Nat.le_refl _) _).alloc (by simp) _).trans (hB.mono (by simp; omega)), by simp; omega, hB.size, HT.out⟩
  clear hp hB HT
  go_wp2_with fail
  refine (alloc_full H1.out.hp 0 false (by decide) (fun k hk p e => by cases e)).mono ?_
  rintro e w2 ⟨rfl, q, rfl⟩
  have H2 : Hid (HS w (w1.drewN q) B b 2 [2] Hs.none) := H1.out.drewN q
  generalize w1.drewN q = w2 at *
  clear H1
  go_wp2_with fail
  refine (fresh_some H2.out.hp (by decide) (by decide) (k := 0) (by decide) rfl (fun j hj => by omega) H2.out.bs).mono ?_
  rintro e w3 ⟨rfl, pb, hp, hf⟩
  obtain ⟨s3, F3, H3⟩ : ∃ s3 : Hs, Hid (s3.P 0 = some ⟨pb, 1, f0, f0⟩ ∧ s3.ser = 0 ∧ s3.giv = 0) ∧ Hid (HS w w3 B b 2 [2] s3) := ⟨⟨upP Hs.none.P 0 (some ⟨pb, 1, f0, f0⟩), Hs.none.W, Hs.none.O, 0, 0⟩, ⟨show upP Hs.none.P 0 (some ⟨pb, 1, f0, f0⟩) 0 = _ from upP_same _ _ _, rfl, rfl⟩, H2.out.to hp hf⟩
  clear hp hf H2
  go_wp2_with fail
  refine (alloc_some H3.out.hp 0 false (by decide) (m := 2) rfl (k := 0) (z := 0) (p := ⟨pb, 1, f0, f0⟩) (fun k hk => by omega) ⟨F3.out.1, by show (1 : Int) = ofN 2; decide, by show 0 < (slN 1).toNat; decide, rfl, fun y hy => by omega⟩ H3.out.tb (by rw [F3.out.2.1]; decide)).mono ?_
  rintro e w4 ⟨rfl, hp, hf⟩
  rw [show adr 0 0 (PSt.sz ⟨pb, 1, f0, f0⟩) = 1048576 from rfl]
  obtain ⟨s4, F4, H4⟩ : ∃ s4 : Hs, Hid (s4.P 0 = some ⟨pb, 1, up f0 0 true, f0⟩ ∧ s4.ser = 1 ∧ s4.giv = 2 ∧ s4.O 0 0 = some ⟨0, 1, 0⟩) ∧ Hid (HS w w4 B b 2 [2] s4) :=
    ⟨s3.took 0 2 false 0 0 ⟨pb, 1, f0, f0⟩, ⟨show upP s3.P 0 (some ⟨pb, 1, up f0 0 true, f0⟩) 0 = _ from upP_same _ _ _, by show s3.ser + 1 = 1; rw [F3.out.2.1], by show s3.giv + 2 = 2; rw [F3.out.2.2], by rw [took_O, F3.out.2.1]; rfl⟩, H3.out.to hp hf⟩
  clear hp hf H3 F3
  go_wp2_with fail
  refine (alloc_some H4.out.hp 0 false (by decide) (m := 2) rfl (k := 0) (z := 1) (p := ⟨pb, 1, up f0 0 true, f0⟩) (fun k hk => by omega) ⟨F4.out.1, by show (1 : Int) = ofN 2; decide, by show 1 < (slN 1).toNat; decide, rfl, up_first⟩ H4.out.tb (by rw [F4.out.2.1]; decide)).mono ?_
  rintro e w5 ⟨rfl, hp, hf⟩
  rw [show adr 0 1 (PSt.sz ⟨pb, 1, up f0 0 true, f0⟩) = 1048578 from rfl]
  obtain ⟨s5, F5, H5⟩ : ∃ s5 : Hs, Hid (s5.P 0 = some ⟨pb, 1, up (up f0 0 true) 1 true, f0⟩ ∧ s5.giv = 4 ∧ s5.O 0 0 = some ⟨0, 1, 0⟩ ∧ s5.O 0 1 = some ⟨0, 2, 0⟩) ∧ Hid (HS w w5 B b 2 [2] s5) :=
    ⟨s4.took 0 2 false 0 1 ⟨pb, 1, up f0 0 true, f0⟩, ⟨show upP s4.P 0 (some ⟨pb, 1, up (up f0 0 true) 1 true, f0⟩) 0 = _ from upP_same _ _ _, by show s4.giv + 2 = 4; rw [F4.out.2.2.1], by rw [took_O2 _ _ _ _ _ (by decide)]; exact F4.out.2.2.2, by rw [took_O, F4.out.2.1]; rfl⟩, H4.out.to hp hf⟩
  clear hp hf H4 F4
  have HI5 : Hid (InS s5.P 1048578 0 1 0 ⟨pb, 1, up (up f0 0 true) 1 true, f0⟩) := ⟨F5.out.1, by show 1 < (slN 1).toNat; decide, rfl, by show 0 < (szN 1).toNat; decide, rfl⟩
  go_wp2_with fail
  refine (shade_yes H5.out.hp (by decide) HI5.out F5.out.2.2.2 rfl).mono ?_
  rintro e w6 ⟨rfl, hp, hf⟩
  obtain ⟨s6, F6, H6⟩ : ∃ s6 : Hs, Hid (s6.P 0 = some ⟨pb, 1, up (up f0 0 true) 1 true, f0⟩ ∧ s6.giv = 4 ∧ s6.O 0 0 = some ⟨0, 1, 0⟩ ∧ s6.O 0 1 = some ⟨0, 2, 1⟩) ∧ Hid (HS w w6 B b 2 [2] s6) :=
    ⟨⟨s5.P, s5.W, upO s5.O 0 1 (some ⟨0, 2, 1⟩), s5.ser, s5.giv⟩, ⟨F5.out.1, F5.out.2.1, (upO_other s5.O (k := 0) (s := 1) (k' := 0) (s' := 0) (some ⟨0, 2, 1⟩) (by decide)).trans F5.out.2.2.1, upO_same s5.O 0 1 (some ⟨0, 2, 1⟩)⟩, H5.out.to hp hf⟩
  clear hp hf H5 F5 HI5
  have HW6 : Hid (whiteB s6 0 = fun x => decide (x = 0)) := al_white H6.out.hp F6.out.1 F6.out.2.2.1 F6.out.2.2.2 rfl (by decide)
  go_wp2_with fail
  refine (sweep_core H6.out.hp (k := 0) F6.out.1).mono ?_
  rintro e w7 ⟨rfl, hp, hf⟩
  rw [show cnt (whiteB s6 0) (PSt.n ⟨pb, 1, up (up f0 0 true) 1 true, f0⟩) = 1 by rw [HW6.out]; rfl]
  have HS6 : Hid (swS s6 0 16 (up (up f0 0 true) 1 true) = fun x => decide (x = 1)) := al_left HW6.out
  obtain ⟨s7, M7, F7, H7⟩ : ∃ (s7 : Hs) (M7 : Nat → Bool), Hid (s7.P 0 = some ⟨pb, 1, fun x => decide (x = 1), M7⟩ ∧ s7.giv = 4 ∧ s7.O 0 1 = some ⟨0, 2, 0⟩) ∧ Hid (HS w w7 B b 2 [2] s7) := by
    refine ⟨s6.sw 0 ⟨pb, 1, up (up f0 0 true) 1 true, f0⟩ 16, swS s6 0 16 f0, ⟨?_, F6.out.2.1, ?_⟩, H6.out.to ?_ hf⟩
    · rw [sw_P]
      show some (PSt.mk pb 1 (swS s6 0 16 (up (up f0 0 true) 1 true)) _) = _
      rw [HS6.out]
    · show swO s6 0 16 0 1 = _
      unfold swO
      rw [if_pos (by decide), F6.out.2.2.2]
      rfl
    · have e : s6.swept 0 ⟨pb, 1, up (up f0 0 true) 1 true, f0⟩ = s6.sw 0 ⟨pb, 1, up (up f0 0 true) 1 true, f0⟩ 16 := by
        unfold Hs.swept
        rw [if_neg]
        · rfl
        · show ¬ cnt (swS s6 0 16 (up (up f0 0 true) 1 true)) 16 = 0
          rw [HS6.out]
          decide
      rw [← e]
      exact hp
  clear hp hf H6 F6 HW6 HS6
  have HI7 : Hid (InS s7.P 1048578 0 1 0 ⟨pb, 1, fun x => decide (x = 1), M7⟩) := ⟨F7.out.1, by show 1 < (slN 1).toNat; decide, rfl, by show 0 < (szN 1).toNat; decide, rfl⟩
  go_wp2_with fail
  refine (object_yes H7.out.hp (by decide) HI7.out F7.out.2.2 (j := 0) (m := 2) rfl (by decide) rfl).mono ?_
  rintro e w8 ⟨g, rfl, hg, hr, hB⟩
  have H8 : Hid (HS w w8 B b 2 [2] s7) := H7.out.below hB
  clear hg hr hB H7
  unfold objV
  rw [show (!decide ((⟨0, 2, 0⟩ : Ob).co = 0)) = false from rfl]
  go_upto_region 12 with (fail)
  have H9 : Hid (HS w (w8.alloc (.cells #[.int .i64 1048578, .int .i64 0, .int .i64 2, .slice (some ⟨g, 0, none⟩) 2 2, .bool false] 44)) B b 2 [2] s7) := H8.out.below ((Below.refl _ _).alloc (Nat.le_refl _) _)
  have HC : Hid ((w8.alloc (.cells #[.int .i64 1048578, .int .i64 0, .int .i64 2, .slice (some ⟨g, 0, none⟩) 2 2, .bool false] 44)).cell? ⟨w8.heap.size, 2, none⟩ = some (.int .i64 2) ∧ (w8.alloc (.cells #[.int .i64 1048578, .int .i64 0, .int .i64 2, .slice (some ⟨g, 0, none⟩) 2 2, .bool false] 44)).cell? ⟨w8.heap.size, 3, none⟩ = some (.slice (some ⟨g, 0, none⟩) 2 2)) := by
    constructor <;> simp
  generalize w8.alloc (.cells #[.int .i64 1048578, .int .i64 0, .int .i64 2, .slice (some ⟨g, 0, none⟩) 2 2, .bool false] 44) = w9 at *
  generalize w8.heap.size = g8 at *
  clear H8
  go_wp2_with fail
  refine (object_no H9.out.hp (by decide) (al_nobeg F7.out.1)).mono ?_
  rintro e w10 ⟨rfl, hB⟩
  have hg8 : g8 < w9.heap.size := World.block_lt_of_cell? _ _ HC.out.1
  have H10 : Hid (HS w (w10.alloc (.cells #[.int .i64 0, .int .i64 0, .int .i64 0, .slice none 0 0, .bool false] 44)) B b 2 [2] s7) := (H9.out.below hB).below ((Below.refl _ _).alloc (Nat.le_refl _) _)
  have hB2 : Below w9.heap.size w9 (w10.alloc (.cells #[.int .i64 0, .int .i64 0, .int .i64 0, .slice none 0 0, .bool false] 44)) := hB.alloc hB.size _
  have c2 := (hB2.cell (p := ⟨g8, 2, none⟩) hg8).trans HC.out.1
  have c3 := (hB2.cell (p := ⟨g8, 3, none⟩) hg8).trans HC.out.2
  clear hB hB2 H9 HC hg8
  unfold objV
  go_upto_region 13 with (fail)
  generalize w10.alloc (.cells #[.int .i64 0, .int .i64 0, .int .i64 0, .slice none 0 0, .bool false] 44) = w11 at *
  go_wp2_with fail
  refine (color_yes H10.out.hp (by decide) HI7.out F7.out.2.2).mono ?_
  rintro e w12 ⟨rfl, hB⟩
  have H12 : Hid (HS w w12 B b 2 [2] s7) := H10.out.below hB
  clear hB H10
  go_wp2_with fail
  refine (given_any H12.out.hp).mono ?_
  rintro e w13 ⟨rfl, rfl⟩
  rw [F7.out.2.1]
  go_wp2_with fail
  go_ret
  exact ⟨rfl, H12.out.lo⟩

end Go.Proofs.YtfkimmbnmcgjiaaDoor

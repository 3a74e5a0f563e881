/- The walks of Store, Free, Drop, Room, New. -/
import Derived.Test.YtfkimmbnmcgjiaaDoorArC
namespace Go.Proofs.YtfkimmbnmcgjiaaDoor
open Go.RowKit

/-- One of the pages is another one now; one of the words. -/
def upP (P : Nat → Option PSt) (k : Nat) (v : Option PSt) (x : Nat) : Option PSt := if x = k then v else P x
def upW (W : Nat → Int) (k : Nat) (v : Int) (x : Nat) : Int := if x = k then v else W x
theorem upP_same (P : Nat → Option PSt) (k : Nat) (v : Option PSt) : upP P k v k = v := by simp [upP]
theorem upP_other (P : Nat → Option PSt) {k x : Nat} (v : Option PSt) (h : x ≠ k) : upP P k v x = P x := by simp [upP, h]

section
variable {w w' : World} {B ba bp bw n : Nat} {P : Nat → Option PSt} {W : Nat → Int} (h : ArAt w B ba bp bw n P W)
include h
/-- A word is set. -/
theorem ArAt.setW (x : Nat) (v : Int) : ArAt (w.setCell ⟨bw, x, none⟩ (.int .i64 v)) B ba bp bw n P (upW W x v) := by
  have g : But bw w (w.setCell ⟨bw, x, none⟩ (.int .i64 v)) := (But.refl _ _).setCell x _
  have hf : Fix 0 [bw] [] w (w.setCell ⟨bw, x, none⟩ (.int .i64 v)) := Fix.of_but g (by simp)
  have t := Ty.of_but (B := 0) g h.wo (Nat.zero_le _)
  exact ⟨t.row h.hd (by decide), t.row h.pr (by decide), (h.wo.set x _).congr fun i _ => by unfold upW; by_cases e : i = x <;> simp [e], fun k p e => (h.pg k p e).ty t (by decide), h.ap, h.out, h.n64, h.b0, h.b1, h.b2, h.b3⟩
/-- One page is written: what is used of it, what is marked. -/
theorem ArAt.setP {k : Nat} {p : PSt} {U' M' : Nat → Bool} (hp : P k = some p) (g : But p.blk w w') (hq : PgAt w' p.blk p.c p.n U' M') : ArAt w' B ba bp bw n (upP P k (some ⟨p.blk, p.c, U', M'⟩)) W := by
  have t := Ty.of_but (B := 0) g (h.pg k p hp).hd (Nat.zero_le _)
  have hk := h.klt hp
  refine ⟨t.row h.hd (by decide), (t.row h.pr (by decide)).congr fun i _ => ?_, t.row h.wo (by decide), fun j q e => ?_, fun j j' q q' e e' hj => ?_, fun j hj => ?_, h.n64, h.b0, h.b1, h.b2, fun j q e => ?_⟩
  · by_cases e : i = k
    · subst e; rw [upP_same, hp]; rfl
    · rw [upP_other P _ e]
  · by_cases ej : j = k
    · subst ej; rw [upP_same] at e; cases e; exact hq
    · rw [upP_other P _ ej] at e
      exact (h.pg j q e).row (g.row (h.pg j q e).hd (h.ap j k q p e hp ej))
  · by_cases ej : j = k
    · subst ej
      rw [upP_same] at e; cases e
      rw [upP_other P _ (fun x => hj x.symm)] at e'
      exact h.ap j j' p q' hp e' hj
    · rw [upP_other P _ ej] at e
      by_cases ej' : j' = k
      · subst ej'; rw [upP_same] at e'; cases e'
        exact h.ap j j' q p e hp hj
      · rw [upP_other P _ ej'] at e'
        exact h.ap j j' q q' e e' hj
  · rw [upP_other P _ (by omega)]; exact h.out j hj
  · by_cases ej : j = k
    · subst ej; rw [upP_same] at e; cases e; exact h.b3 j p hp
    · rw [upP_other P _ ej] at e; exact h.b3 j q e
/-- One page has no class any more. -/
theorem ArAt.cutP (k : Nat) : ArAt (w.setCell ⟨bp, k, none⟩ (.pointer none)) B ba bp bw n (upP P k none) W := by
  have g : But bp w (w.setCell ⟨bp, k, none⟩ (.pointer none)) := (But.refl _ _).setCell k _
  have t := Ty.of_but (B := 0) g h.pr (Nat.zero_le _)
  have old : ∀ j q, upP P k none j = some q → P j = some q := fun j q e => by
    by_cases ej : j = k
    · subst ej; rw [upP_same] at e; cases e
    · rw [upP_other P _ ej] at e; exact e
  refine ⟨t.row h.hd (by decide), (h.pr.set k _).congr fun i _ => ?_, t.row h.wo (by decide), fun j q e => (h.pg j q (old j q e)).ty t (by decide), fun j j' q q' e e' hj => h.ap j j' q q' (old _ _ e) (old _ _ e') hj, fun j hj => ?_, h.n64, h.b0, h.b1, h.b2, fun j q e => h.b3 j q (old _ _ e)⟩
  · by_cases e : i = k
    · subst e; simp [upP, ptrOf]
    · simp [upP, e]
  · by_cases ej : j = k
    · subst ej; rw [upP_same]
    · rw [upP_other P _ ej]; exact h.out j hj
/-- One page of no class is a new Page. -/
theorem ArAt.newP {k b : Nat} {c : Int} {U M : Nat → Bool} (hk : k < n) (hp : P k = none) (hq : PgAt w b c (slN c).toNat U M) (hb : ∀ j q, P j = some q → q.blk ≠ b) (hB : B ≤ b) : ArAt (w.setCell ⟨bp, k, none⟩ (.pointer (some ⟨b, 0, none⟩))) B ba bp bw n (upP P k (some ⟨b, c, U, M⟩)) W := by
  have g : But bp w (w.setCell ⟨bp, k, none⟩ (.pointer (some ⟨b, 0, none⟩))) := (But.refl _ _).setCell k _
  have t := Ty.of_but (B := 0) g h.pr (Nat.zero_le _)
  refine ⟨t.row h.hd (by decide), (h.pr.set k _).congr fun i _ => ?_, t.row h.wo (by decide), fun j q e => ?_, fun j j' q q' e e' hj => ?_, fun j hj => ?_, h.n64, h.b0, h.b1, h.b2, fun j q e => ?_⟩
  · by_cases e : i = k
    · subst e; simp [upP, ptrOf]
    · simp [upP, e]
  · by_cases ej : j = k
    · subst ej; rw [upP_same] at e; cases e; exact hq.ty t (by decide)
    · rw [upP_other P _ ej] at e; exact (h.pg j q e).ty t (by decide)
  · by_cases ej : j = k
    · subst ej
      rw [upP_same] at e; cases e
      rw [upP_other P _ (fun x => hj x.symm)] at e'
      exact fun x => hb j' q' e' x.symm
    · rw [upP_other P _ ej] at e
      by_cases ej' : j' = k
      · subst ej'; rw [upP_same] at e'; cases e'
        exact hb j q e
      · rw [upP_other P _ ej'] at e'
        exact h.ap j j' q q' e e' hj
  · rw [upP_other P _ (by omega)]; exact h.out j hj
  · by_cases ej : j = k
    · subst ej; rw [upP_same] at e; cases e; exact hB
    · rw [upP_other P _ ej] at e; exact h.b3 j q e
end

section
variable (ad : Int) (w : World) {B ba bp bw n : Nat} {P : Nat → Option PSt} {W : Nat → Int} (h : ArAt w B ba bp bw n P W) (hb : I64 ad)
include h hb
set_option maxHeartbeats 400000 in
theorem store_in {k s y : Nat} {p : PSt} (v : Int) (hi : InS P ad k s y p) :
    Calls Tryd.prog 40 #[.pointer (some ⟨ba, 0, none⟩), .int .i64 ad, .int .i64 v] w fun e w' => e = .returned (.bool true) ∧ ArAt w' B ba bp bw n P (upW W (32 * k + s * p.sz + y) v) ∧ But bw w w' := by
  obtain ⟨x, hx, hx2, hx3⟩ := ins_place ad w h hi
  rw [← hx]
  have H : Hid (ArAt w B ba bp bw n P W) := h
  have HI : Hid (InS P ad k s y p) := hi
  have h1 := h.c1
  have h2 := h.cw hx2
  have h3 := h.wo.frozen x
  have h4 := h.wo.lt
  have hN := h.n64
  have HS : Hid (∀ q, ArAt ((w.drewN q).setCell ⟨bw, x, none⟩ (.int .i64 v)) B ba bp bw n P (upW W x v) ∧ But bw w ((w.drewN q).setCell ⟨bw, x, none⟩ (.int .i64 v))) := fun q => ⟨(h.drewN q).setW x v, ((But.refl _ _).drewN q).setCell x _⟩
  clear h hi hx
  subst hx3
  have hx2I : (x : Int) < 32 * (n : Int) := by omega
  generalize 32 * n = m at *
  generalize W x = v0 at *
  go_enter Tryd.func40, Tryd.ntmps40
  go_wp2_with fail
  refine (loc_in _ _ H.out hb HI.out).mono ?_
  rintro e w' ⟨rfl, q, rfl⟩
  go_wp2_with fail
  go_ret
  exact ⟨rfl, HS.out q⟩
set_option maxHeartbeats 400000 in
theorem store_out (v : Int) (ho : OutS P ad) :
    Calls Tryd.prog 40 #[.pointer (some ⟨ba, 0, none⟩), .int .i64 ad, .int .i64 v] w fun e w' => e = .returned (.bool false) ∧ ∃ q, w' = w.drewN q := by
  go_enter Tryd.func40, Tryd.ntmps40
  go_wp2_with fail
  refine (loc_out ad _ h hb ho).mono ?_
  rintro e w' ⟨rfl, q, rfl⟩
  go_wp2_with fail
  go_ret
  exact ⟨rfl, q, rfl⟩
set_option maxHeartbeats 400000 in
theorem afree_in {k s : Nat} {p : PSt} (hi : InS P ad k s 0 p) :
    Calls Tryd.prog 32 #[.pointer (some ⟨ba, 0, none⟩), .int .i64 ad] w fun e w' => e = .returned (.bool true) ∧ ArAt w' B ba bp bw n (upP P k (some ⟨p.blk, p.c, up p.U s false, up p.M s false⟩)) W ∧ But p.blk w w' := by
  have H : Hid (ArAt w B ba bp bw n P W) := h
  have HI : Hid (InS P ad k s 0 p) := hi
  have he := hi.he
  rw [Nat.add_zero] at he
  clear h hi
  generalize ha : adr k s p.sz = a0 at *
  have HA : Hid (adr k s p.sz = a0) := ha
  clear ha
  subst he
  go_enter Tryd.func32, Tryd.ntmps32
  go_wp2_with fail
  refine (loc_in _ _ H.out hb HI.out).mono ?_
  rintro e w' ⟨rfl, q, rfl⟩
  go_wp2_with fail
  refine (base_some k s _ (H.out.drewN _) HI.out.hp HI.out.hs).mono ?_
  rintro e w' ⟨rfl, rfl⟩
  rw [HA.out]
  go_wp2_with fail
  refine (page_some _ _ (H.out.drewN _) HI.out.hp).mono ?_
  rintro e w' ⟨rfl, rfl⟩
  go_wp2_with fail
  refine (free_yes s _ ((H.out.drewN _).pg _ _ HI.out.hp) HI.out.hs HI.out.hu).mono ?_
  rintro e w' ⟨rfl, hq, hg⟩
  have HF : Hid (ArAt w' B ba bp bw n (upP P k (some ⟨p.blk, p.c, up p.U s false, up p.M s false⟩)) W ∧ But p.blk w w') := ⟨(H.out.drewN q).setP HI.out.hp hg hq, (((But.refl _ _).drewN q).trans hg)⟩
  clear hq hg
  go_wp2_with fail
  go_ret
  exact ⟨rfl, HF.out⟩
set_option maxHeartbeats 400000 in
theorem afree_mid {k s y : Nat} {p : PSt} (hi : InS P ad k s y p) (hy : y ≠ 0) :
    Calls Tryd.prog 32 #[.pointer (some ⟨ba, 0, none⟩), .int .i64 ad] w fun e w' => e = .returned (.bool false) ∧ ∃ q, w' = w.drewN q := by
  have H : Hid (ArAt w B ba bp bw n P W) := h
  have HI : Hid (InS P ad k s y p) := hi
  have he := hi.he
  clear h hi
  generalize ha : adr k s p.sz = a0 at *
  have HA : Hid (adr k s p.sz = a0) := ha
  clear ha
  have hne : ((a0 : Int) == ad) = false := by rw [beq_eq_false_iff_ne]; omega
  have HE : Hid (ad = ((a0 + y : Nat) : Int)) := he
  clear he
  go_enter Tryd.func32, Tryd.ntmps32
  go_wp2_with fail
  refine (loc_in _ _ H.out hb HI.out).mono ?_
  rintro e w' ⟨rfl, q, rfl⟩
  go_wp2_with fail
  refine (base_some k s _ (H.out.drewN _) HI.out.hp HI.out.hs).mono ?_
  rintro e w' ⟨rfl, rfl⟩
  rw [HA.out]
  go_wp2_with fail
  go_ret
  exact ⟨rfl, q, rfl⟩
set_option maxHeartbeats 400000 in
theorem afree_out (ho : OutS P ad) :
    Calls Tryd.prog 32 #[.pointer (some ⟨ba, 0, none⟩), .int .i64 ad] w fun e w' => e = .returned (.bool false) ∧ ∃ q, w' = w.drewN q := by
  go_enter Tryd.func32, Tryd.ntmps32
  go_wp2_with fail
  refine (loc_out ad _ h hb ho).mono ?_
  rintro e w' ⟨rfl, q, rfl⟩
  go_wp2_with fail
  go_ret
  exact ⟨rfl, q, rfl⟩
end

section
variable (w : World) {B ba bp bw n : Nat} {P : Nat → Option PSt} {W : Nat → Int} (h : ArAt w B ba bp bw n P W)
include h
set_option maxHeartbeats 400000 in
theorem drop_none (k : Int) (hp : atI P k = none) :
    Calls Tryd.prog 34 #[.pointer (some ⟨ba, 0, none⟩), .int .i64 k] w fun e w' => e = .returned (.bool false) ∧ ∃ q, w' = w.drewN q := by
  go_enter Tryd.func34, Tryd.ntmps34
  go_wp2_with fail
  refine (page_none _ _ h hp).mono ?_
  rintro e w' ⟨rfl, rfl⟩
  go_wp2_with fail
  refine (count_nil _).mono ?_
  rintro e w' ⟨rfl, rfl⟩
  go_wp2_with fail
  refine (classed_nil _).mono ?_
  rintro e w' ⟨rfl, rfl⟩
  go_wp2_with fail
  go_ret
  exact ⟨rfl, 0, rfl⟩
set_option maxHeartbeats 400000 in
theorem drop_used {k : Nat} {p : PSt} (hp : P k = some p) (hu : cnt p.U p.n ≠ 0) :
    Calls Tryd.prog 34 #[.pointer (some ⟨ba, 0, none⟩), .int .i64 k] w fun e w' => e = .returned (.bool false) ∧ ∃ q, w' = w.drewN q := by
  go_enter Tryd.func34, Tryd.ntmps34
  go_wp2_with fail
  refine (page_some _ _ h hp).mono ?_
  rintro e w' ⟨rfl, rfl⟩
  go_wp2_with fail
  refine (count_any _ (h.pg k p hp)).mono ?_
  rintro e w' ⟨rfl, q, rfl⟩
  have hu' : 0 < cnt p.U p.n := by omega
  clear hu
  generalize cnt p.U p.n = u at *
  go_wp2_with fail
  go_ret
  exact ⟨rfl, q, rfl⟩
set_option maxHeartbeats 400000 in
theorem drop_yes {k : Nat} {p : PSt} (hp : P k = some p) (hu : cnt p.U p.n = 0) :
    Calls Tryd.prog 34 #[.pointer (some ⟨ba, 0, none⟩), .int .i64 k] w fun e w' => e = .returned (.bool true) ∧ ArAt w' B ba bp bw n (upP P k none) W ∧ But bp w w' := by
  have H : Hid (ArAt w B ba bp bw n P W) := h
  have hk := h.klt hp
  have h0 := h.c0
  have h1 := h.cp hk
  have h2 := h.pr.frozen k
  have h3 := h.pr.lt
  have hN := h.n64
  have HS : Hid (∀ q, ArAt ((w.drewN q).setCell ⟨bp, k, none⟩ (.pointer none)) B ba bp bw n (upP P k none) W ∧ But bp w ((w.drewN q).setCell ⟨bp, k, none⟩ (.pointer none))) := fun q => ⟨(h.drewN q).cutP k, ((But.refl _ _).drewN q).setCell k _⟩
  have HP : Hid (P k = some p) := hp
  have HU : Hid (cnt p.U p.n = 0) := hu
  rw [hp] at h1
  change w.cell? ⟨bp, k, none⟩ = some (.pointer (some ⟨p.blk, 0, none⟩)) at h1
  clear h hp hu
  go_enter Tryd.func34, Tryd.ntmps34
  go_wp2_with fail
  refine (page_some _ _ H.out HP.out).mono ?_
  rintro e w' ⟨rfl, rfl⟩
  go_wp2_with fail
  refine (count_any _ (H.out.pg k p HP.out)).mono ?_
  rintro e w' ⟨rfl, q, rfl⟩
  rw [HU.out]
  go_wp2_with fail
  refine (classed_any _ ((H.out.drewN _).pg k p HP.out)).mono ?_
  rintro e w' ⟨rfl, rfl⟩
  go_wp2_with fail
  go_ret
  exact ⟨rfl, HS.out q⟩

/-- How many pages have no class. -/
def noneB (P : Nat → Option PSt) (k : Nat) : Bool := (P k).isNone
end

end Go.Proofs.YtfkimmbnmcgjiaaDoor

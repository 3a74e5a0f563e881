/- The walks of Take, Free, Mark. -/
import Derived.Test.YtfkimmbnmcgjiaaDoorPgC
namespace Go.Proofs.YtfkimmbnmcgjiaaDoor
open Go.RowKit

theorem ctz_bits (x : Nat) (h0 : x ≠ 0) (h : x < 18446744073709551616) : Lib.ctz 64 x < 64 ∧ x.testBit (Lib.ctz 64 x) = true ∧ ∀ i, i < Lib.ctz 64 x → x.testBit i = false := by
  obtain ⟨m, hm, hk⟩ := Lib.ctzFrom_spec 64 x (by omega) h
  have e : Lib.ctz 64 x = Lib.ctzFrom 64 x := by simp [Lib.ctz, h0]
  rw [e]
  refine ⟨hk, ?_, fun i hi => ?_⟩
  · rw [hm, Nat.testBit_two_pow_mul, ← hm]
    simp
  · rw [hm, Nat.testBit_two_pow_mul]
    have : ¬ Lib.ctzFrom 64 x ≤ i := by omega
    simp [this]
/-- What is free. -/
def freeS (n : Nat) (U : Nat → Bool) (x : Nat) : Bool := decide (x < n) && !U x
theorem free_num {n : Nat} (U : Nat → Bool) (hn : n ≤ 64) : bits .andNot .u64 ((maskN (cl 0) (cl (n : Int)) : Nat) : Int) ((wd U 0 : Nat) : Int) = ((wd (freeS n U) 0 : Nat) : Int) := by
  rw [mask_wd n hn, u64_andNot_nat _ _ (wd_lt _ _) (wd_lt _ _), wd0_diff]
  rfl
theorem free_zero {n : Nat} {U : Nat → Bool} (h : ∀ x, x < n → U x = true) : wd (freeS n U) 0 = 0 := by
  have : freeS n U = fun _ => false := by
    funext x
    by_cases hx : x < n
    · simp [freeS, h x hx]
    · simp [freeS, hx]
  rw [this, wd_zero]
theorem free_least {n z : Nat} {U : Nat → Bool} (hn : n ≤ 64) (hz : z < n) (hU : U z = false) (h : ∀ y, y < z → U y = true) : wd (freeS n U) 0 ≠ 0 ∧ Lib.ctz 64 (wd (freeS n U) 0) = z := by
  have b : ∀ i, i < 64 → (wd (freeS n U) 0).testBit i = freeS n U i := fun i hi => by rw [wd0_bit]; simp [hi]
  have bz : (wd (freeS n U) 0).testBit z = true := by rw [b z (by omega)]; simp [freeS, hz, hU]
  have h0 : wd (freeS n U) 0 ≠ 0 := fun e => by rw [e] at bz; simp at bz
  refine ⟨h0, ?_⟩
  obtain ⟨h1, h2, h3⟩ := ctz_bits _ h0 (wd_lt _ _)
  rcases Nat.lt_trichotomy (Lib.ctz 64 (wd (freeS n U) 0)) z with g | g | g
  · rw [b _ h1] at h2
    simp [freeS, h _ g] at h2
  · exact g
  · rw [h3 z g] at bz; cases bz
theorem mask_is {f t : Int} {m : Nat} (w : World) (h : Hid (maskN (cl f) (cl t) = m)) :
    Calls Tryd.prog 55 #[.int .i64 f, .int .i64 t] w fun e w' => e = .returned (.int .u64 (m : Nat)) ∧ w' = w := by
  rw [← h.out]; exact mask_any f t w
theorem tz_is {x z : Nat} (w : World) (h0 : Hid (x ≠ 0 ∧ x < 18446744073709551616)) (hT : Tab w) (hz : Hid (Lib.ctz 64 x = z)) :
    Calls Tryd.prog 57 #[.int .u64 x] w fun e w' => e = .returned (.int .i64 (z : Nat)) ∧ w' = w := by
  rw [← hz.out]; exact tz_any x h0.out.1 h0.out.2 w hT
theorem Tab.drewN {w : World} (h : Tab w) (q : Nat) : Tab (w.drewN q) := h

set_option maxHeartbeats 400000 in
theorem take_nil (w : World) :
    Calls Tryd.prog 43 #[.pointer none] w fun e w' => e = .returned (.tuple #[.int .i64 0, .bool false]) ∧ w' = w := by
  go_enter Tryd.func43, Tryd.ntmps43
  go_wp2
  go_ret2
  exact ⟨rfl, rfl⟩

set_option maxHeartbeats 1000000 in
theorem take_none (w : World) {b : Nat} {c : Int} {n : Nat} {U M : Nat → Bool} (h : PgAt w b c n U M) (hU : ∀ x, x < n → U x = true) :
    Calls Tryd.prog 43 #[.pointer (some ⟨b, 0, none⟩)] w fun e w' => e = .returned (.tuple #[.int .i64 0, .bool false]) ∧ ∃ q, w' = w.drewN q := by
  have hc := h.c1
  have hf := free_num U (n := n) (by have := h.n32; omega)
  rw [free_zero hU] at hf
  have HP : Hid (PgAt w b c n U M) := h
  clear h hU
  generalize wd U 0 = u at *
  generalize hmm : maskN (cl 0) (cl (n : Int)) = m at hf
  have HM : Hid (maskN (cl 0) (cl (n : Int)) = m) := hmm
  clear hmm
  go_enter Tryd.func43, Tryd.ntmps43
  go_wp2_with fail
  go_quiet (first
    | (go_at_call 56; exact Calls.quiet_of_same (pslots_any _ (HP.out.drewN _)))
    | (go_at_call 55; exact Calls.quiet_of_same (mask_is _ HM)))
  go_wp2
  go_ret2
  exact ⟨rfl, _, rfl⟩

set_option maxHeartbeats 1000000 in
theorem take_some (w : World) {b : Nat} {c : Int} {n : Nat} {U M : Nat → Bool} (z : Nat) (h : PgAt w b c n U M) (hT : Tab w) (hz : z < n) (hU : U z = false) (hl : ∀ y, y < z → U y = true) :
    Calls Tryd.prog 43 #[.pointer (some ⟨b, 0, none⟩)] w fun e w' => e = .returned (.tuple #[.int .i64 z, .bool true]) ∧ PgAt w' b c n (up U z true) M ∧ But b w w' := by
  have hn : n ≤ 64 := by have := h.n32; omega
  have hc := h.c1
  have hfz := h.fz 1
  have hlt := h.lt
  have hf := free_num U (n := n) hn
  obtain ⟨g1, g2⟩ := free_least hn hz hU hl
  have H0 : Hid (wd (freeS n U) 0 ≠ 0 ∧ wd (freeS n U) 0 < 18446744073709551616) := ⟨g1, wd_lt _ _⟩
  have HC : Hid (Lib.ctz 64 (wd (freeS n U) 0) = z) := g2
  have hne : (((wd (freeS n U) 0 : Nat) : Int) == 0) = false := by rw [beq_eq_false_iff_ne]; omega
  have hor := u64_or_nat (wd U 0) (2 ^ z) (wd_lt _ _) (pow_lt64 (by omega))
  rw [← wd0_put U z (by omega)] at hor
  have HS : Hid (∀ q, PgAt ((w.drewN q).setCell ⟨b, 1, none⟩ (.int .u64 (wd (up U z true) 0 : Nat))) b c n (up U z true) M ∧ But b w ((w.drewN q).setCell ⟨b, 1, none⟩ (.int .u64 (wd (up U z true) 0 : Nat)))) := by
    intro q
    refine ⟨(h.drewN q).setU (fun x hx => ?_) (fun x hx => ?_) _ rfl, ((But.refl _ _).drewN q).setCell 1 _⟩
    · have : x ≠ z := by omega
      simp [up, this, h.out x hx]
    · unfold up; split
      · rfl
      · exact h.sub x hx
  have HT : Hid (Tab w) := hT
  have HP : Hid (PgAt w b c n U M) := h
  have hz64 : z < 64 := by omega
  clear h hU hl g1 g2 hT
  generalize wd (freeS n U) 0 = f at *
  generalize wd (up U z true) 0 = r at *
  generalize wd U 0 = u at *
  generalize hmm : maskN (cl 0) (cl (n : Int)) = m at hf
  have HM : Hid (maskN (cl 0) (cl (n : Int)) = m) := hmm
  clear hmm
  generalize hpp : 2 ^ z = p at *
  have HPW : Hid (2 ^ z = p) := hpp
  clear hpp
  go_enter Tryd.func43, Tryd.ntmps43
  go_upto_region 3 with (fail)
  go_quiet (first
    | (go_at_call 56; exact Calls.quiet_of_same (pslots_any _ (HP.out.drewN _)))
    | (go_at_call 55; exact Calls.quiet_of_same (mask_is _ HM)))
  go_wp2_with (go_at_call 57; refine (tz_is _ H0 (HT.out.drewN _) HC).mono ?_; rintro e w' ⟨rfl, rfl⟩)
  go_region_with ((go_at_call 58; refine (bit_is _ hz64 HPW).mono ?_; rintro e w' ⟨rfl, rfl⟩))
  all_goals
    go_wp2
    go_ret2
    exact ⟨rfl, HS.out _⟩

/-- Take: none is left, or the least one. -/
theorem least_or (n : Nat) (U : Nat → Bool) : (∀ x, x < n → U x = true) ∨ ∃ z, z < n ∧ U z = false ∧ ∀ y, y < z → U y = true := by
  induction n with
  | zero => exact Or.inl fun x hx => by omega
  | succ n ih =>
    rcases ih with h | ⟨z, h1, h2, h3⟩
    · cases hU : U n
      · exact Or.inr ⟨n, by omega, hU, h⟩
      · refine Or.inl fun x hx => ?_
        by_cases e : x = n
        · rw [e]; exact hU
        · exact h x (by omega)
    · exact Or.inr ⟨z, by omega, h2, h3⟩

theorem free_nil (k : Int) (w : World) :
    Calls Tryd.prog 50 #[.pointer none, .int .i64 k] w fun e w' => e = .returned (.bool false) ∧ ∃ q, w' = w.drewN q := by
  go_enter Tryd.func50, Tryd.ntmps50
  go_wp2_with fail
  refine (used_nil k _).mono ?_
  rintro e w' ⟨rfl, q, rfl⟩
  go_wp2_with fail
  go_ret
  exact ⟨rfl, q, rfl⟩
theorem free_no (k : Int) (w : World) {b : Nat} {c : Int} {n : Nat} {U M : Nat → Bool} (h : PgAt w b c n U M) (hk : hasB n U k = false) :
    Calls Tryd.prog 50 #[.pointer (some ⟨b, 0, none⟩), .int .i64 k] w fun e w' => e = .returned (.bool false) ∧ ∃ q, w' = w.drewN q := by
  go_enter Tryd.func50, Tryd.ntmps50
  go_wp2_with fail
  refine (used_is k false _ h hk).mono ?_
  rintro e w' ⟨rfl, q, rfl⟩
  go_wp2_with fail
  go_ret
  exact ⟨rfl, q, rfl⟩
set_option maxHeartbeats 1000000 in
theorem free_yes (x : Nat) (w : World) {b : Nat} {c : Int} {n : Nat} {U M : Nat → Bool} (h : PgAt w b c n U M) (hx : x < n) (hU : U x = true) :
    Calls Tryd.prog 50 #[.pointer (some ⟨b, 0, none⟩), .int .i64 x] w fun e w' => e = .returned (.bool true) ∧ PgAt w' b c n (up U x false) (up M x false) ∧ But b w w' := by
  have hn := h.n32
  have hx64 : x < 64 := by omega
  have hc1 := h.c1
  have hc2 := h.c2
  have hf1 := h.fz 1
  have hf2 := h.fz 2
  have hlt := h.lt
  have ha1 := u64_andNot_nat (wd U 0) (2 ^ x) (wd_lt _ _) (pow_lt64 hx64)
  rw [← wd0_cut U x hx64] at ha1
  have ha2 := u64_andNot_nat (wd M 0) (2 ^ x) (wd_lt _ _) (pow_lt64 hx64)
  rw [← wd0_cut M x hx64] at ha2
  have HS : Hid (∀ q q', PgAt ((((w.drewN q).setCell ⟨b, 1, none⟩ (.int .u64 (wd (up U x false) 0 : Nat))).drewN q').setCell ⟨b, 2, none⟩ (.int .u64 (wd (up M x false) 0 : Nat))) b c n (up U x false) (up M x false) ∧
      But b w ((((w.drewN q).setCell ⟨b, 1, none⟩ (.int .u64 (wd (up U x false) 0 : Nat))).drewN q').setCell ⟨b, 2, none⟩ (.int .u64 (wd (up M x false) 0 : Nat)))) := by
    intro q q'
    refine ⟨⟨(((((h.hd : (w.drewN q).rowIs _ _ _ _).set 1 (.int .u64 (wd (up U x false) 0 : Nat))) : (((w.drewN q).setCell ⟨b, 1, none⟩ (.int .u64 (wd (up U x false) 0 : Nat))).drewN q').rowIs _ _ _ _).set 2 (.int .u64 (wd (up M x false) 0 : Nat))).congr fun i hi => ?_), h.lo, h.hi, h.sl, fun y hy => ?_, fun y hy => ?_⟩, ((((But.refl _ _).drewN q).setCell 1 _).drewN q').setCell 2 _⟩
    · have : i = 0 ∨ i = 1 ∨ i = 2 := by omega
      rcases this with rfl | rfl | rfl <;> rfl
    · have : y ≠ x := by omega
      simp [up, this, h.out y hy]
    · by_cases e : y = x
      · simp [up, e] at hy
      · simp [up, e] at hy ⊢
        exact h.sub y hy
  have H1 : Hid (hasB n U (x : Int) = true) := has_nat n x U true hx hU
  have HP : Hid (PgAt w b c n U M) := h
  clear h hU
  generalize wd (up U x false) 0 = r1 at *
  generalize wd (up M x false) 0 = r2 at *
  generalize wd U 0 = u at *
  generalize wd M 0 = m at *
  generalize hpp : 2 ^ x = p at *
  have HPW : Hid (2 ^ x = p) := hpp
  clear hpp
  go_enter Tryd.func50, Tryd.ntmps50
  go_wp2_with fail
  refine (used_is _ true _ HP.out H1.out).mono ?_
  rintro e w' ⟨rfl, q, rfl⟩
  go_wp2_with fail
  go_region_with ((go_at_call 58; refine (bit_is _ hx64 HPW).mono ?_; rintro e w' ⟨rfl, rfl⟩))
  all_goals
    go_wp2_with fail
    go_region_with ((go_at_call 58; refine (bit_is _ hx64 HPW).mono ?_; rintro e w' ⟨rfl, rfl⟩))
    all_goals
      go_wp2
      go_ret
      first
      | exact ⟨rfl, HS.out _ 0⟩
      | exact ⟨rfl, HS.out _ 1⟩
      | exact ⟨rfl, HS.out _ _⟩

end Go.Proofs.YtfkimmbnmcgjiaaDoor

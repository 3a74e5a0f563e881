/- The walks of Has and Word. -/
import Derived.Test.YthnnbhpaejemnaaDoorSvC
namespace Go.Proofs.YthnnbhpaejemnaaDoor
open Go.RowKit

theorem SvAt.drewN {w : World} {b bw n : Nat} {S : Nat → Bool} (h : SvAt w b bw n S) (k : Nat) : SvAt (w.drewN k) b bw n S := ⟨h.hd, h.ws, h.le, h.out⟩

theorem has_nil (k : Int) (w : World) :
    Calls Tryd.prog 20 #[.pointer none, .int .i64 k] w fun e w' => e = .returned (.bool false) ∧ ∃ q, w' = w.drewN q := by
  go_enter Tryd.func20, Tryd.ntmps20
  go_wp2_with fail
  go_quiet ((go_at_call 26; exact Calls.quiet_of_same (may_nil _ _)))
  go_wp2
  go_ret
  exact ⟨rfl, _, rfl⟩

theorem may_is (k : Int) (v : Bool) (w : World) {b bw n : Nat} {S : Nat → Bool} (h : SvAt w b bw n S) (hv : mayB n k = v) :
    Calls Tryd.prog 26 #[.pointer (some ⟨b, 0, none⟩), .int .i64 k] w fun e w' => e = .returned (.bool v) ∧ w' = w := by
  rw [← hv]; exact may_any k w h
theorem bit_is (k t : Nat) (w : World) (h1 : k ≤ 4096) (ht : Hid (2 ^ (k % 64) = t)) :
    Calls Tryd.prog 27 #[.int .i64 k] w fun e w' => e = .returned (.int .u64 t) ∧ w' = w := by
  rw [← ht.out]; exact bit_any k w h1

set_option maxHeartbeats 400000 in
theorem has_no (k : Int) (w : World) {b bw n : Nat} {S : Nat → Bool} (h : SvAt w b bw n S) (hb : mayB n k = false) :
    Calls Tryd.prog 20 #[.pointer (some ⟨b, 0, none⟩), .int .i64 k] w fun e w' => e = .returned (.bool false) ∧ ∃ q, w' = w.drewN q := by
  go_enter Tryd.func20, Tryd.ntmps20
  go_wp2_with fail
  go_quiet ((go_at_call 26; exact Calls.quiet_of_same (may_is k false _ (h.drewN _) hb)))
  go_wp2
  go_ret
  exact ⟨rfl, _, rfl⟩

theorem may_true (n k : Nat) (h : k < n) : mayB n (k : Int) = true := by simp [mayB, h]

set_option maxHeartbeats 400000 in
theorem has_core (k q K v t r : Nat) (w : World) {b bw n : Nat} {S : Nat → Bool} (h : SvAt w b bw n S) (hk : k < n) (hle : k ≤ 4096)
    (hq : (k : Int) / 64 = (q : Int)) (hqK : (q : Int) < (K : Int)) (hcw : w.cell? ⟨b, 1, none⟩ = some (.slice (some ⟨bw, 0, none⟩) K K)) (hcs : w.cell? ⟨bw, q, none⟩ = some (.int .u64 v))
    (ht : 2 ^ (k % 64) = t) (hr : bits BinOp.and IntKind.u64 (v : Int) (t : Int) = (r : Int)) :
    Calls Tryd.prog 20 #[.pointer (some ⟨b, 0, none⟩), .int .i64 k] w fun e w' => e = .returned (.bool ((r : Int) != 0)) ∧ ∃ q, w' = w.drewN q := by
  have hb := may_true n k hk
  have HB : Hid (mayB n (k : Int) = true) := hb
  have HT : Hid (2 ^ (k % 64) = t) := ht
  clear hb ht
  go_enter Tryd.func20, Tryd.ntmps20
  go_wp2_with fail
  go_quiet (first
    | (go_at_call 26; exact Calls.quiet_of_same (may_is k true _ (h.drewN _) HB.out))
    | (go_at_call 27; exact Calls.quiet_of_same (bit_is k t _ hle HT)))
  go_wp2
  go_ret
  exact ⟨rfl, _, rfl⟩

/-- Is k in the set? -/
def hasB (n : Nat) (S : Nat → Bool) (k : Int) : Bool := mayB n k && S k.toNat

theorem has_any (k : Int) (w : World) {b bw n : Nat} {S : Nat → Bool} (h : SvAt w b bw n S) :
    Calls Tryd.prog 20 #[.pointer (some ⟨b, 0, none⟩), .int .i64 k] w fun e w' => e = .returned (.bool (hasB n S k)) ∧ ∃ q, w' = w.drewN q := by
  by_cases hb : mayB n k = true
  · have hb' := hb
    simp [mayB] at hb'
    obtain ⟨h0, h1⟩ := hb'
    obtain ⟨m, rfl⟩ := Int.eq_ofNat_of_zero_le h0
    have hmn : m < n := by omega
    have hle := h.le
    have hm : m % 64 < 64 := Nat.mod_lt _ (by decide)
    have hp : 2 ^ (m % 64) < 2 ^ 64 := Nat.pow_lt_pow_of_lt (by decide) hm
    refine (has_core m (m / 64) (svK n) (wd S (m / 64)) (2 ^ (m % 64)) (wd S (m / 64) &&& 2 ^ (m % 64)) w h hmn (by omega) (by omega) (by unfold svK; omega) h.cw (h.cs _ (by unfold svK; omega)) rfl (u64_and_nat _ _ (wd_lt _ _) hp)).mono ?_
    rintro e w' ⟨rfl, hw⟩
    refine ⟨?_, hw⟩
    have e1 := wd_has S m
    have e2 : hasB n S (m : Int) = S m := by simp [hasB, hb]
    rw [e2]
    cases hS : S m
    · rw [e1.2 hS]; rfl
    · have : ¬ (wd S (m / 64) &&& 2 ^ (m % 64) = 0) := fun h => by rw [e1.1 h] at hS; cases hS
      congr 2
      rw [bne_iff_ne]
      omega
  · have hb' : mayB n k = false := by simpa using hb
    refine (has_no k w h hb').mono ?_
    rintro e w' ⟨rfl, hw⟩
    exact ⟨by simp [hasB, hb'], hw⟩

set_option maxHeartbeats 400000 in
theorem word_nil (k : Int) (w : World) :
    Calls Tryd.prog 19 #[.pointer none, .int .i64 k] w fun e w' => e = .returned (.int .u64 0) ∧ w' = w := by
  go_enter Tryd.func19, Tryd.ntmps19
  go_wp2
  go_ret
  exact ⟨rfl, rfl⟩

set_option maxHeartbeats 400000 in
theorem word_core (k : Int) (K v : Nat) (w : World) {b bw : Nat} (hcw : w.cell? ⟨b, 1, none⟩ = some (.slice (some ⟨bw, 0, none⟩) K K)) (hcs : 0 ≤ k → k < (K : Int) → w.cell? ⟨bw, k.toNat, none⟩ = some (.int .u64 v)) :
    Calls Tryd.prog 19 #[.pointer (some ⟨b, 0, none⟩), .int .i64 k] w fun e w' => e = .returned (.int .u64 (if 0 ≤ k ∧ k < (K : Int) then v else 0)) ∧ w' = w := by
  by_cases h1 : k < 0
  · have e : ¬ (0 ≤ k ∧ k < (K : Int)) := by omega
    rw [if_neg e]
    clear e hcs
    go_enter Tryd.func19, Tryd.ntmps19
    go_wp2
    go_ret
    exact ⟨rfl, rfl⟩
  · by_cases h2 : k < (K : Int)
    · have e : 0 ≤ k ∧ k < (K : Int) := by omega
      have hc := hcs e.1 e.2
      rw [if_pos e]
      clear e hcs
      go_enter Tryd.func19, Tryd.ntmps19
      go_wp2
      go_ret
      exact ⟨rfl, rfl⟩
    · have e : ¬ (0 ≤ k ∧ k < (K : Int)) := by omega
      rw [if_neg e]
      clear e hcs
      go_enter Tryd.func19, Tryd.ntmps19
      go_wp2
      go_ret
      exact ⟨rfl, rfl⟩

/-- The word k of the set: 0 where there is none. -/
def wordF (S : Nat → Bool) (k : Int) : Nat := if 0 ≤ k then wd S k.toNat else 0

theorem word_any (k : Int) (w : World) {b bw n : Nat} {S : Nat → Bool} (h : SvAt w b bw n S) :
    Calls Tryd.prog 19 #[.pointer (some ⟨b, 0, none⟩), .int .i64 k] w fun e w' => e = .returned (.int .u64 (wordF S k : Nat)) ∧ w' = w := by
  refine (word_core k (svK n) (wd S k.toNat) w h.cw (fun h0 h1 => h.cs _ (by omega))).mono ?_
  rintro e w' ⟨rfl, rfl⟩
  refine ⟨ret_int ?_, rfl⟩
  unfold wordF
  by_cases h0 : 0 ≤ k
  · by_cases h1 : k < (svK n : Int)
    · rw [if_pos ⟨h0, h1⟩, if_pos h0]
    · have e : wd S k.toNat = 0 := by
        apply Nat.eq_of_testBit_eq
        intro i
        rw [wd_bit, h.out _ (by unfold svK at h1; omega)]
        simp
      rw [if_neg (fun x => h1 x.2), if_pos h0, e]
      rfl
  · rw [if_neg (fun x => h0 x.1), if_neg h0]
    rfl

end Go.Proofs.YthnnbhpaejemnaaDoor

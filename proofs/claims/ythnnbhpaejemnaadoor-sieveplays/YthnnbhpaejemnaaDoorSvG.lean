/- Plain mathematics of seeking the next one, and the walk of seek, Next and Gap. -/
import Derived.Test.YthnnbhpaejemnaaDoorSvF
import Derived.Deep.DeepCutAuto
namespace Go.Proofs.YthnnbhpaejemnaaDoor
open Go.RowKit

/-- The least x from the given one on, within so many steps, that T tells; -1: none. -/
def nxF (T : Nat → Bool) : Nat → Nat → Int
  | 0, _ => -1
  | f + 1, x => if T x then (x : Int) else nxF T f (x + 1)
/-- The least one from 'from' on and below n that T tells; -1: none. -/
def nx (T : Nat → Bool) (n : Nat) (from_ : Int) : Int := nxF T (n - from_.toNat) from_.toNat

theorem nxF_none (T : Nat → Bool) : ∀ f x, (∀ y, x ≤ y → y < x + f → T y = false) → nxF T f x = -1
  | 0, _, _ => rfl
  | f + 1, x, h => by
    unfold nxF
    rw [h x (Nat.le_refl _) (by omega)]
    exact nxF_none T f (x + 1) fun y h1 h2 => h y (by omega) (by omega)
theorem nxF_found (T : Nat → Bool) (z : Nat) (hz : T z = true) : ∀ f x, x ≤ z → z < x + f → (∀ y, x ≤ y → y < z → T y = false) → nxF T f x = (z : Int)
  | 0, x, h1, h2, _ => by omega
  | f + 1, x, h1, h2, h => by
    unfold nxF
    by_cases e : x = z
    · subst e; rw [hz]; rfl
    · rw [h x (Nat.le_refl _) (by omega)]
      exact nxF_found T z hz f (x + 1) (by omega) (by omega) fun y g1 g2 => h y (by omega) g2
theorem nx_none (T : Nat → Bool) (n m : Nat) (h : ∀ y, m ≤ y → y < n → T y = false) : nx T n (m : Int) = -1 := by
  unfold nx
  rw [Int.toNat_natCast]
  exact nxF_none T _ _ fun y h1 h2 => h y h1 (by omega)
theorem nx_found (T : Nat → Bool) (n m z : Nat) (hm : m ≤ z) (hz : z < n) (hT : T z = true) (h : ∀ y, m ≤ y → y < z → T y = false) : nx T n (m : Int) = (z : Int) := by
  unfold nx
  rw [Int.toNat_natCast]
  exact nxF_found T z hT _ _ hm (by omega) h

theorem ctz_bits (x : Nat) (h0 : x ≠ 0) (h : x < 18446744073709551616) : Lib.ctz 64 x < 64 ∧ x.testBit (Lib.ctz 64 x) = true ∧ ∀ i, i < Lib.ctz 64 x → x.testBit i = false := by
  obtain ⟨m, hm, hk⟩ := Lib.ctzFrom_spec 64 x (by omega) h
  have e : Lib.ctz 64 x = Lib.ctzFrom 64 x := by simp [Lib.ctz, h0]
  rw [e]
  refine ⟨hk, ?_, fun i hi => ?_⟩
  · rw [hm, Nat.testBit_two_pow_mul, ← hm]
    simp
  · rw [hm, Nat.testBit_two_pow_mul]
    have : ¬ Lib.ctzFrom 64 x ≤ i := by omega
    simp [this]

/-- The word to seek for what is in it, or (true) for what is not. -/
def flipN (f : Bool) : Nat := if f then 18446744073709551615 else 0
theorem flip_lt (f : Bool) : flipN f < 18446744073709551616 := by cases f <;> decide
theorem flip_bit (f : Bool) (i : Nat) (hi : i < 64) : (flipN f).testBit i = f := by
  cases f
  · simp [flipN]
  · show (2 ^ 64 - 1 : Nat).testBit i = true
    rw [Nat.testBit_two_pow_sub_one]; simp [hi]
/-- What is sought. -/
def sought (S : Nat → Bool) (f : Bool) (x : Nat) : Bool := S x ^^ f
/-- The word j, cut to what may be told. -/
def seekW (S : Nat → Bool) (f : Bool) (n m j : Nat) : Nat := (wd S j ^^^ flipN f) &&& maskN (cl ((m : Int) - (64 * j : Nat))) (cl ((n : Int) - (64 * j : Nat)))
theorem seekW_lt (S : Nat → Bool) (f : Bool) (n m j : Nat) : seekW S f n m j < 18446744073709551616 := by
  unfold seekW
  have h1 : wd S j ^^^ flipN f < 2 ^ 64 := Nat.xor_lt_two_pow (wd_lt S j) (flip_lt f)
  exact Nat.lt_of_le_of_lt Nat.and_le_left h1
theorem seekW_bit (S : Nat → Bool) (f : Bool) (n m j i : Nat) (hi : i < 64) : (seekW S f n m j).testBit i = (sought S f (64 * j + i) && (decide (m ≤ 64 * j + i) && decide (64 * j + i < n))) := by
  unfold seekW sought
  rw [Nat.testBit_and, Nat.testBit_xor, wd_bit, flip_bit f i hi, maskN_bit _ _ _ (cl_le _) hi]
  have e1 : decide (cl ((m : Int) - (64 * j : Nat)) ≤ i) = decide (m ≤ 64 * j + i) := by
    rw [decide_eq_decide]; unfold cl; omega
  have e2 : decide (i < cl ((n : Int) - (64 * j : Nat))) = decide (64 * j + i < n) := by
    rw [decide_eq_decide]; unfold cl; omega
  rw [e1, e2]
  simp [hi]
theorem seekW_none (S : Nat → Bool) (f : Bool) (n m j : Nat) (h : seekW S f n m j = 0) : ∀ y, 64 * j ≤ y → y < 64 * (j + 1) → m ≤ y → y < n → sought S f y = false := by
  intro y h1 h2 h3 h4
  have hb := seekW_bit S f n m j (y - 64 * j) (by omega)
  have e : 64 * j + (y - 64 * j) = y := by omega
  rw [h, e] at hb
  simp [h3, h4] at hb
  exact hb
theorem seekW_some (S : Nat → Bool) (f : Bool) (n m j : Nat) (h : seekW S f n m j ≠ 0) (hp : ∀ y, m ≤ y → y < 64 * j → y < n → sought S f y = false) :
    nx (sought S f) n (m : Int) = ((64 * j + Lib.ctz 64 (seekW S f n m j) : Nat) : Int) := by
  obtain ⟨h1, h2, h3⟩ := ctz_bits _ h (seekW_lt S f n m j)
  have hb := seekW_bit S f n m j _ h1
  rw [h2] at hb
  generalize Lib.ctz 64 (seekW S f n m j) = z at *
  have hb' := hb.symm
  simp at hb'
  obtain ⟨g1, g2, g3⟩ := hb'
  refine nx_found _ n m _ g2 g3 g1 fun y k1 k2 => ?_
  by_cases hy : y < 64 * j
  · exact hp y k1 hy (by omega)
  · have hc := seekW_bit S f n m j (y - 64 * j) (by omega)
    have e : 64 * j + (y - 64 * j) = y := by omega
    rw [h3 _ (by omega), e] at hc
    have k3 : y < n := by omega
    simp [k1, k3] at hc
    exact hc

theorem max_zero (m : Int) : ((m.toNat : Nat) : Int) = max m 0 := by omega

set_option maxHeartbeats 400000 in
theorem seek_nil (m : Int) (f : Int) (w : World) :
    Calls Tryd.prog 29 #[.pointer none, .int .i64 m, .int .u64 f] w fun e w' => e = .returned (.int .i64 (-1)) ∧ ∃ q, w' = w.drewN q := by
  by_cases h : m < 0
  all_goals
    go_enter Tryd.func29, Tryd.ntmps29
    go_wp2_with (go_at_call 26; refine (may_nil _ _).mono ?_; rintro e w' ⟨rfl, rfl⟩)
    go_ret
    exact ⟨rfl, 0, rfl⟩

theorem mask_is (f t : Int) (v : Nat) (w : World) (hv : Hid (maskN (cl f) (cl t) = v)) :
    Calls Tryd.prog 23 #[.int .i64 f, .int .i64 t] w fun e w' => e = .returned (.int .u64 v) ∧ w' = w := by
  rw [← hv.out]; exact mask_any f t w

theorem drewN_more {w wr : World} (h : ∃ q, wr = w.drewN q) (k : Nat) : ∃ q, wr.drewN k = w.drewN q := by
  obtain ⟨q, rfl⟩ := h
  exact ⟨q + k, World.drewN_drewN _ _ _⟩

theorem SvAt.tab {w : World} (h : Tab w) (q : Nat) : Tab (w.drewN q) := h

set_option maxHeartbeats 1000000 in
theorem seek_core (fr : Int) (m : Nat) (f : Bool) (w : World) (hm : ((m : Nat) : Int) = max fr 0) (hmb : (m : Int) ≤ 9223372036854775807) {b bw n : Nat} {S : Nat → Bool} (h : SvAt w b bw n S) (hT : Tab w) :
    Calls Tryd.prog 29 #[.pointer (some ⟨b, 0, none⟩), .int .i64 fr, .int .u64 (flipN f : Nat)] w fun e w' => e = .returned (.int .i64 (nx (sought S f) n (m : Int))) ∧ ∃ q, w' = w.drewN q := by
  have hf := flip_lt f
  have HM : Hid ((m : Int) = max fr 0) := hm
  clear hm
  go_enter Tryd.func29, Tryd.ntmps29
  go_upto_region 1 with (fail)
  go_cut [1] (fun a wr => a = .int .i64 (m : Int) ∧ wr = w)
  case first =>
    go_wp2
    all_goals
      go_meet
      case rel => exact ⟨by have := HM.out; congr 1; omega, rfl⟩
  case rest =>
    obtain ⟨rfl, rfl⟩ := hcut
    clear HM
    cases hmay : mayB n (m : Int)
    · have HY : Hid (mayB n (m : Int) = false) := hmay
      clear hmay
      go_wp2_with (go_at_call 26; refine (may_is _ false _ h HY.out).mono ?_; rintro e w' ⟨rfl, rfl⟩)
      go_ret
      have hno : n ≤ m := by
        have := HY.out
        simp [mayB] at this
        omega
      exact ⟨ret_int (nx_none _ n m fun y h1 h2 => by omega).symm, 0, rfl⟩
    · have HY : Hid (mayB n (m : Int) = true) := hmay
      clear hmay
      go_wp2_with (go_at_call 26; refine (may_is _ true _ h HY.out).mono ?_; rintro e w' ⟨rfl, rfl⟩)
      have hmn : m < n := by
        have := HY.out
        simp [mayB] at this
        omega
      have hle := h.le
      have hKn : n ≤ 64 * svK n := by unfold svK; omega
      have hK : svK n ≤ 64 := by unfold svK; omega
      clear HY
      go_loopw [7] (fun i wr => ∃ j : Nat, m / 64 ≤ j ∧ j ≤ svK n ∧ i = .int .i64 j ∧ Hid (∀ y, m ≤ y → y < 64 * j → y < n → sought S f y = false) ∧ ∃ q, wr = w'.drewN q) (fun i _ => svK n - (intOf i).toNat)
      case atStart => exact ⟨m / 64, Nat.le_refl _, by unfold svK; omega, by congr 1, fun y h1 h2 _ => by omega, 0, rfl⟩
      case round =>
        obtain ⟨j, hj1, hj2, rfl, HP, hq⟩ := hrel
        have hs : SvAt wr b bw n S := by obtain ⟨q, rfl⟩ := hq; exact h.drewN q
        have hTr : Tab wr := by obtain ⟨q, rfl⟩ := hq; exact hT
        have HQ : Hid (∃ q, wr = w'.drewN q) := hq
        clear hq h hT
        have hcw := hs.cw
        by_cases hlt : j < svK n
        · have hcs := hs.cs j hlt
          have hcn := hs.cn
          have hx := u64_xor_nat (wd S j) (flipN f) (wd_lt S j) hf
          have hxl : wd S j ^^^ flipN f < 2 ^ 64 := Nat.xor_lt_two_pow (wd_lt S j) hf
          have hml : maskN (cl ((m : Int) - (64 * j : Nat))) (cl ((n : Int) - (64 * j : Nat))) < 18446744073709551616 := Nat.lt_of_le_of_lt Nat.and_le_left (pow_cl _)
          have ha := u64_and_nat (wd S j ^^^ flipN f) (maskN (cl ((m : Int) - (64 * j : Nat))) (cl ((n : Int) - (64 * j : Nat)))) hxl hml
          have HSW : Hid (seekW S f n m j = (wd S j ^^^ flipN f) &&& maskN (cl ((m : Int) - (64 * j : Nat))) (cl ((n : Int) - (64 * j : Nat)))) := rfl
          rw [← HSW.out] at ha
          have HM2 : Hid (maskN (cl ((m : Int) - (j : Int) * 64)) (cl ((n : Int) - (j : Int) * 64)) = maskN (cl ((m : Int) - (64 * j : Nat))) (cl ((n : Int) - (64 * j : Nat)))) := by
            have e : ((64 * j : Nat) : Int) = (j : Int) * 64 := by omega
            unfold Hid; rw [e]
          clear HSW hxl hml
          generalize maskN (cl ((m : Int) - (64 * j : Nat))) (cl ((n : Int) - (64 * j : Nat))) = mk at *
          generalize wd S j ^^^ flipN f = x1 at *
          generalize wd S j = v at *
          have hw1 : IntKind.i64.wrap ((m : Int) - (j : Int) * 64) = (m : Int) - (j : Int) * 64 := by rw [IntKind.wrap_i64]; omega
          have hw2 : IntKind.i64.wrap ((n : Int) - (j : Int) * 64) = (n : Int) - (j : Int) * 64 := by rw [IntKind.wrap_i64]; omega
          have hsl := seekW_lt S f n m j
          have HSL : Hid (seekW S f n m j < 18446744073709551616) := hsl
          clear hsl
          by_cases hz : seekW S f n m j = 0
          · have HZ := seekW_none S f n m j hz
            rw [hz] at ha
            clear HSL hz
            go_upto_region 8 with (fail)
            go_quiet ((go_at_call 23; exact Calls.quiet_of_same (mask_is _ _ mk _ HM2)))
            go_wp2
            go_roundw
            case rel => exact ⟨j + 1, by omega, by omega, by go_num, fun y h1 h2 h3 => by
              by_cases hy : y < 64 * j
              · exact HP.out y h1 hy h3
              · exact HZ y (by omega) h2 h1 h3, drewN_more HQ.out _⟩
            case measure => simp [intOf]; omega
          · have HS := seekW_some S f n m j hz HP.out
            have HF : Hid (nx (sought S f) n (m : Int) = ((64 * j + Lib.ctz 64 (seekW S f n m j) : Nat) : Int)) := HS
            have hc : Lib.ctz 64 (seekW S f n m j) < 64 := (ctz_bits _ hz HSL.out).1
            clear HS HP
            have HZ : Hid (seekW S f n m j ≠ 0) := hz
            have hz' : (((seekW S f n m j : Nat) : Int) != 0) = true := by rw [bne_iff_ne]; omega
            clear hz
            generalize seekW S f n m j = sw at *
            generalize hcz : Lib.ctz 64 sw = cz at *
            have HC : Hid (Lib.ctz 64 sw = cz) := hcz
            clear hcz
            go_upto_region 8 with (fail)
            go_quiet ((go_at_call 23; exact Calls.quiet_of_same (mask_is _ _ mk _ HM2)))
            go_wp2_with (go_at_call 51; refine (tz_any sw HZ.out HSL.out _ (SvAt.tab hTr _)).mono ?_; rintro e w' ⟨rfl, rfl⟩; rw [HC.out])
            go_ret
            exact ⟨ret_int (by rw [HF.out]; omega), drewN_more HQ.out _⟩
        · go_wp2
          go_ret
          exact ⟨ret_int (nx_none _ n m fun y h1 h2 => HP.out y h1 (by omega) h2).symm, HQ.out⟩

theorem nx_neg (T : Nat → Bool) (n : Nat) (fr : Int) : nx T n ((fr.toNat : Nat) : Int) = nx T n fr := by
  unfold nx; rw [Int.toNat_natCast]

theorem seek_any (fr : Int) (f : Bool) (w : World) (hfr : fr ≤ 9223372036854775807) {b bw n : Nat} {S : Nat → Bool} (h : SvAt w b bw n S) (hT : Tab w) :
    Calls Tryd.prog 29 #[.pointer (some ⟨b, 0, none⟩), .int .i64 fr, .int .u64 (flipN f : Nat)] w fun e w' => e = .returned (.int .i64 (nx (sought S f) n fr)) ∧ ∃ q, w' = w.drewN q := by
  rw [← nx_neg]
  exact seek_core fr fr.toNat f w (max_zero fr) (by omega) h hT

theorem sought_in (S : Nat → Bool) : sought S false = S := by funext x; simp [sought]

set_option maxHeartbeats 400000 in
theorem next_any (fr : Int) (w : World) (hfr : fr ≤ 9223372036854775807) {b bw n : Nat} {S : Nat → Bool} (h : SvAt w b bw n S) (hT : Tab w) :
    Calls Tryd.prog 17 #[.pointer (some ⟨b, 0, none⟩), .int .i64 fr] w fun e w' => e = .returned (.int .i64 (nx S n fr)) ∧ ∃ q, w' = w.drewN q := by
  have hc := seek_any fr false w hfr h hT
  rw [sought_in] at hc
  have HC : Hid (Calls Tryd.prog 29 #[.pointer (some ⟨b, 0, none⟩), .int .i64 fr, .int .u64 0] w fun e w' => e = .returned (.int .i64 (nx S n fr)) ∧ ∃ q, w' = w.drewN q) := hc
  clear hc h hT
  go_enter Tryd.func17, Tryd.ntmps17
  go_wp2_with (go_at_call 29; refine (HC.out).mono ?_; rintro e w' ⟨rfl, q, rfl⟩)
  go_ret
  exact ⟨rfl, q, rfl⟩

set_option maxHeartbeats 400000 in
theorem next_nil (fr : Int) (w : World) :
    Calls Tryd.prog 17 #[.pointer none, .int .i64 fr] w fun e w' => e = .returned (.int .i64 (-1)) ∧ ∃ q, w' = w.drewN q := by
  go_enter Tryd.func17, Tryd.ntmps17
  go_wp2_with (go_at_call 29; refine (seek_nil _ _ _).mono ?_; rintro e w' ⟨rfl, q, rfl⟩)
  go_ret
  exact ⟨rfl, q, rfl⟩

/-- What is not in the set. -/
def notIn (S : Nat → Bool) (x : Nat) : Bool := !S x
theorem sought_out (S : Nat → Bool) : sought S true = notIn S := by funext x; simp [sought, notIn]

end Go.Proofs.YthnnbhpaejemnaaDoor

/- The walks of shape's plain functions, and of the document's own: what each returns, in plain numbers; the world stays. -/
import Derived.Test.YtmjappcjfjajmaaInF
import Derived.WalkKit
import Derived.WalkSpells
import Derived.Below
namespace Go.Proofs.Ytmjappcjfjajmaa
open Go.RowKit

def ptrB (k : Int) : Bool := decide (16 ≤ k ∧ k < 32)
def locB (k : Int) : Bool := decide (64 ≤ k ∧ k < 80)
def manB (n : Int) : Bool := decide (0 ≤ n ∧ n ≤ 16)
def fldB (k n : Int) : Bool := decide ((0 ≤ n ∧ n ≤ 16) ∧ (k = 1 ∨ (16 ≤ k ∧ k < 16 + n)))
def valB (k n : Int) : Bool := decide ((0 ≤ n ∧ n ≤ 16) ∧ (k = 1 ∨ (16 ≤ k ∧ k < 16 + n) ∨ (64 ≤ k ∧ k < 64 + n)))

theorem above_in (k f d : Int) (w : World) (hf : 0 ≤ f) (hf' : f ≤ 64) (h1 : f ≤ k) (h2 : k < f + 16) (hd : k - f = d) :
    Calls Try.prog 72 #[.int .i64 k, .int .i64 f] w fun e w' => e = .returned (.tuple #[.int .i64 d, .bool true]) ∧ w' = w := by
  go_enter Try.func72, Try.ntmps72
  go_wp2_with fail
  go_ret2
  exact ⟨rfl, rfl⟩
theorem above_low (k f : Int) (w : World) (h1 : k < f) :
    Calls Try.prog 72 #[.int .i64 k, .int .i64 f] w fun e w' => e = .returned (.tuple #[.int .i64 0, .bool false]) ∧ w' = w := by
  go_enter Try.func72, Try.ntmps72
  go_wp2_with fail
  go_ret2
  exact ⟨rfl, rfl⟩
theorem above_high (k f : Int) (w : World) (hf : 0 ≤ f) (hf' : f ≤ 64) (h1 : f + 16 ≤ k) :
    Calls Try.prog 72 #[.int .i64 k, .int .i64 f] w fun e w' => e = .returned (.tuple #[.int .i64 0, .bool false]) ∧ w' = w := by
  have h2 : f ≤ k := by omega
  go_enter Try.func72, Try.ntmps72
  go_wp2_with fail
  go_ret2
  exact ⟨rfl, rfl⟩

def upN (f k : Int) : Int := if f ≤ k ∧ k < f + 16 then k - f else 0
def upB (f k : Int) : Bool := decide (f ≤ k ∧ k < f + 16)
theorem above_any (k f : Int) (w : World) (hf : 0 ≤ f) (hf' : f ≤ 64) :
    Calls Try.prog 72 #[.int .i64 k, .int .i64 f] w fun e w' => e = .returned (.tuple #[.int .i64 (upN f k), .bool (upB f k)]) ∧ w' = w := by
  by_cases h1 : f ≤ k
  · by_cases h2 : k < f + 16
    · refine (above_in k f (k - f) w hf hf' h1 h2 rfl).mono fun e w' h => ?_
      rw [upN, upB, if_pos ⟨h1, h2⟩, decide_eq_true ⟨h1, h2⟩]
      exact h
    · refine (above_high k f w hf hf' (by omega)).mono fun e w' h => ?_
      rw [upN, upB, if_neg (by omega), decide_eq_false (by omega)]
      exact h
  · refine (above_low k f w (by omega)).mono fun e w' h => ?_
    rw [upN, upB, if_neg (by omega), decide_eq_false (by omega)]
    exact h
theorem above_any' {k f n : Int} {b : Bool} (hn : upN f k = n) (hb : upB f k = b) (w : World) (hf : 0 ≤ f) (hf' : f ≤ 64) :
    Calls Try.prog 72 #[.int .i64 k, .int .i64 f] w fun e w' => e = .returned (.tuple #[.int .i64 n, .bool b]) ∧ w' = w := hn ▸ hb ▸ above_any k f w hf hf'

theorem points_any {k n : Int} {b : Bool} (hn : Hid (upN 16 k = n)) (hb : Hid (upB 16 k = b)) (w : World) :
    Calls Try.prog 46 #[.int .i64 k] w fun e w' => e = .returned (.tuple #[.int .i64 n, .bool b]) ∧ w' = w := by
  go_enter Try.func46, Try.ntmps46
  go_wp2_with fail
  refine (above_any' hn.out hb.out _ (by decide) (by decide)).mono ?_
  rintro e w' ⟨rfl, rfl⟩
  go_wp2_with fail
  go_ret2
  exact ⟨rfl, rfl⟩
theorem places_any {k n : Int} {b : Bool} (hn : Hid (upN 64 k = n)) (hb : Hid (upB 64 k = b)) (w : World) :
    Calls Try.prog 73 #[.int .i64 k] w fun e w' => e = .returned (.tuple #[.int .i64 n, .bool b]) ∧ w' = w := by
  go_enter Try.func73, Try.ntmps73
  go_wp2_with fail
  refine (above_any' hn.out hb.out _ (by decide) (by decide)).mono ?_
  rintro e w' ⟨rfl, rfl⟩
  go_wp2_with fail
  go_ret2
  exact ⟨rfl, rfl⟩

theorem mayBe_any {n : Int} {b : Bool} (hb : Hid (manB n = b)) (w : World) :
    Calls Try.prog 96 #[.int .i64 n] w fun e w' => e = .returned (.bool b) ∧ w' = w := by
  obtain rfl := hb.out
  by_cases h1 : 0 ≤ n
  · by_cases h2 : n ≤ 16
    all_goals
      go_enter Try.func96, Try.ntmps96
      go_wp2_with fail
      go_ret
      exact ⟨ret_bool (by simp [manB, h1, h2]), rfl⟩
  · go_enter Try.func96, Try.ntmps96
    go_wp2_with fail
    go_ret
    exact ⟨ret_bool (decide_eq_false (by omega)).symm, rfl⟩

set_option maxHeartbeats 1000000 in
theorem field_any {k n : Int} {b : Bool} (hb : Hid (fldB k n = b)) (w : World) :
    Calls Try.prog 89 #[.int .i64 k, .int .i64 n] w fun e w' => e = .returned (.bool b) ∧ w' = w := by
  obtain rfl := hb.out
  clear hb
  cases hm : manB n
  · have HM : Hid (manB n = false) := hm
    have hr : fldB k n = false := by
      have := of_decide_eq_false hm
      exact decide_eq_false (by omega)
    rw [hr]
    clear hm hr
    go_enter Try.func89, Try.ntmps89
    go_wp2_with fail
    refine (mayBe_any HM _).mono ?_
    rintro e w' ⟨rfl, rfl⟩
    go_wp2_with fail
    go_ret
    exact ⟨rfl, rfl⟩
  · have HM : Hid (manB n = true) := hm
    have hm' := of_decide_eq_true hm
    by_cases h1 : k = 1
    · subst h1
      have hr : fldB 1 n = true := decide_eq_true ⟨hm', Or.inl rfl⟩
      rw [hr]
      clear hm hm' hr
      go_enter Try.func89, Try.ntmps89
      go_wp2_with fail
      refine (mayBe_any HM _).mono ?_
      rintro e w' ⟨rfl, rfl⟩
      go_wp2_with fail
      refine (points_any (k := 1) (n := 0) (b := false) (show upN 16 1 = 0 from rfl) (show upB 16 1 = false from rfl) _).mono ?_
      rintro e w' ⟨rfl, rfl⟩
      go_wp2_with fail
      go_ret
      exact ⟨rfl, rfl⟩
    · obtain ⟨s, hs⟩ : ∃ s, Hid (upN 16 k = s) := ⟨_, rfl⟩
      obtain ⟨p, hp⟩ : ∃ p, Hid (upB 16 k = p) := ⟨_, rfl⟩
      have HR2 : Hid (fldB k n = (p && decide (s < n))) := by
        show fldB k n = _
        rw [← hs.out, ← hp.out]
        unfold fldB upB upN
        rw [Bool.eq_iff_iff]
        simp only [Bool.and_eq_true, decide_eq_true_eq]
        split <;> omega
      clear hm hm'
      cases p
      · go_enter Try.func89, Try.ntmps89
        go_wp2_with fail
        refine (mayBe_any HM _).mono ?_
        rintro e w' ⟨rfl, rfl⟩
        go_wp2_with fail
        refine (points_any hs hp _).mono ?_
        rintro e w' ⟨rfl, rfl⟩
        go_wp2_with fail
        go_ret
        exact ⟨ret_bool (by rw [HR2.out]; simp [h1]), rfl⟩
      · by_cases h2 : s < n
        all_goals
          go_enter Try.func89, Try.ntmps89
          go_wp2_with fail
          refine (mayBe_any HM _).mono ?_
          rintro e w' ⟨rfl, rfl⟩
          go_wp2_with fail
          refine (points_any hs hp _).mono ?_
          rintro e w' ⟨rfl, rfl⟩
          go_wp2_with fail
          go_ret
          exact ⟨ret_bool (by rw [HR2.out]; simp [h1, h2]), rfl⟩

set_option maxHeartbeats 1000000 in
theorem valid_any {k n : Int} {b : Bool} (hb : Hid (valB k n = b)) (w : World) :
    Calls Try.prog 92 #[.int .i64 k, .int .i64 n] w fun e w' => e = .returned (.bool b) ∧ w' = w := by
  obtain rfl := hb.out
  cases hf : fldB k n
  · have HF : Hid (fldB k n = false) := hf
    obtain ⟨s, hs⟩ : ∃ s, Hid (upN 64 k = s) := ⟨_, rfl⟩
    obtain ⟨p, hp⟩ : ∃ p, Hid (upB 64 k = p) := ⟨_, rfl⟩
    obtain ⟨m, hm⟩ : ∃ m, Hid (manB n = m) := ⟨_, rfl⟩
    have HR : Hid (valB k n = (p && m && decide (s < n))) := by
      show valB k n = _
      rw [← hs.out, ← hp.out, ← hm.out]
      have hf' := of_decide_eq_false hf
      unfold valB upB upN manB
      rw [Bool.eq_iff_iff]
      simp only [Bool.and_eq_true, decide_eq_true_eq]
      split <;> omega
    clear hf hb
    cases p
    · go_enter Try.func92, Try.ntmps92
      go_wp2_with fail
      refine (field_any HF _).mono ?_
      rintro e w' ⟨rfl, rfl⟩
      go_wp2_with fail
      refine (places_any hs hp _).mono ?_
      rintro e w' ⟨rfl, rfl⟩
      go_wp2_with fail
      go_ret
      exact ⟨ret_bool (by rw [HR.out]; simp), rfl⟩
    · cases m
      · go_enter Try.func92, Try.ntmps92
        go_wp2_with fail
        refine (field_any HF _).mono ?_
        rintro e w' ⟨rfl, rfl⟩
        go_wp2_with fail
        refine (places_any hs hp _).mono ?_
        rintro e w' ⟨rfl, rfl⟩
        go_wp2_with fail
        refine (mayBe_any hm _).mono ?_
        rintro e w' ⟨rfl, rfl⟩
        go_wp2_with fail
        go_ret
        exact ⟨ret_bool (by rw [HR.out]; simp), rfl⟩
      · by_cases h2 : s < n
        all_goals
          go_enter Try.func92, Try.ntmps92
          go_wp2_with fail
          refine (field_any HF _).mono ?_
          rintro e w' ⟨rfl, rfl⟩
          go_wp2_with fail
          refine (places_any hs hp _).mono ?_
          rintro e w' ⟨rfl, rfl⟩
          go_wp2_with fail
          refine (mayBe_any hm _).mono ?_
          rintro e w' ⟨rfl, rfl⟩
          go_wp2_with fail
          go_ret
          exact ⟨ret_bool (by rw [HR.out]; simp [h2]), rfl⟩
  · have HF : Hid (fldB k n = true) := hf
    have hr : valB k n = true := by have := of_decide_eq_true hf; exact decide_eq_true (by omega)
    rw [hr]
    clear hf hb hr
    go_enter Try.func92, Try.ntmps92
    go_wp2_with fail
    refine (field_any HF _).mono ?_
    rintro e w' ⟨rfl, rfl⟩
    go_wp2_with fail
    go_ret
    exact ⟨rfl, rfl⟩

end Go.Proofs.Ytmjappcjfjajmaa

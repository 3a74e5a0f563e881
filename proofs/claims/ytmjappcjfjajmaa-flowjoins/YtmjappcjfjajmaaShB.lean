/- The walks of the document's own plain functions of chapter 4. -/
import Derived.Test.YtmjappcjfjajmaaShA
namespace Go.Proofs.Ytmjappcjfjajmaa
open Go.RowKit

theorem refField_any {k n : Int} {b : Bool} (hb : Hid (fldB k n = b)) (w : World) :
    Calls Try.prog 24 #[.int .i64 k, .int .i64 n] w fun e w' => e = .returned (.bool b) ∧ w' = w := by
  obtain rfl := hb.out
  clear hb
  by_cases h1 : 0 ≤ n
  · by_cases h2 : n ≤ 16
    · by_cases h3 : k = 1
      · subst h3
        have hr : fldB 1 n = true := decide_eq_true ⟨⟨h1, h2⟩, Or.inl rfl⟩
        rw [hr]
        go_enter Try.func24, Try.ntmps24
        go_wp2_with fail
        go_ret
        exact ⟨rfl, rfl⟩
      · by_cases h4 : 16 ≤ k
        · by_cases h5 : k < 16 + n
          · have hr : fldB k n = true := decide_eq_true ⟨⟨h1, h2⟩, Or.inr ⟨h4, h5⟩⟩
            rw [hr]
            go_enter Try.func24, Try.ntmps24
            go_wp2_with fail
            go_ret
            exact ⟨ret_bool (by simp), rfl⟩
          · have hr : fldB k n = false := decide_eq_false (by omega)
            rw [hr]
            go_enter Try.func24, Try.ntmps24
            go_wp2_with fail
            go_ret
            exact ⟨ret_bool (by simp [h3]), rfl⟩
        · have hr : fldB k n = false := decide_eq_false (by omega)
          rw [hr]
          go_enter Try.func24, Try.ntmps24
          go_wp2_with fail
          go_ret
          exact ⟨ret_bool (by simp [h3]), rfl⟩
    · have hr : fldB k n = false := decide_eq_false (by omega)
      rw [hr]
      go_enter Try.func24, Try.ntmps24
      go_wp2_with fail
      go_ret
      exact ⟨rfl, rfl⟩
  · have hr : fldB k n = false := decide_eq_false (by omega)
    rw [hr]
    go_enter Try.func24, Try.ntmps24
    go_wp2_with fail
    go_ret
    exact ⟨rfl, rfl⟩

theorem refValid_any {k n : Int} {b : Bool} (hb : Hid (valB k n = b)) (w : World) :
    Calls Try.prog 39 #[.int .i64 k, .int .i64 n] w fun e w' => e = .returned (.bool b) ∧ w' = w := by
  obtain rfl := hb.out
  clear hb
  cases hf : fldB k n
  · have HF : Hid (fldB k n = false) := hf
    have hf' := of_decide_eq_false hf
    clear hf
    obtain ⟨v, hv⟩ : ∃ v, Hid (valB k n = v) := ⟨_, rfl⟩
    have HV : Hid (v = decide ((0 ≤ n ∧ n ≤ 16) ∧ (64 ≤ k ∧ k < 64 + n))) := by
      show v = _
      rw [← hv.out]
      unfold valB
      rw [Bool.eq_iff_iff]
      simp only [decide_eq_true_eq]
      omega
    rw [hv.out]
    clear hv hf'
    by_cases h1 : 0 ≤ n
    · by_cases h2 : n ≤ 16
      · by_cases h4 : 64 ≤ k
        · by_cases h5 : k < 64 + n
          all_goals
            go_enter Try.func39, Try.ntmps39
            go_wp2_with fail
            refine (refField_any HF _).mono ?_
            rintro e w' ⟨rfl, rfl⟩
            go_wp2_with fail
            go_ret
            exact ⟨ret_bool (by rw [HV.out]; simp [h1, h2, h4, h5]), rfl⟩
        · go_enter Try.func39, Try.ntmps39
          go_wp2_with fail
          refine (refField_any HF _).mono ?_
          rintro e w' ⟨rfl, rfl⟩
          go_wp2_with fail
          go_ret
          exact ⟨ret_bool (by rw [HV.out, eq_comm]; exact decide_eq_false (by omega)), rfl⟩
      · go_enter Try.func39, Try.ntmps39
        go_wp2_with fail
        refine (refField_any HF _).mono ?_
        rintro e w' ⟨rfl, rfl⟩
        go_wp2_with fail
        go_ret
        exact ⟨ret_bool (by rw [HV.out, eq_comm]; exact decide_eq_false (by omega)), rfl⟩
    · go_enter Try.func39, Try.ntmps39
      go_wp2_with fail
      refine (refField_any HF _).mono ?_
      rintro e w' ⟨rfl, rfl⟩
      go_wp2_with fail
      go_ret
      exact ⟨ret_bool (by rw [HV.out, eq_comm]; exact decide_eq_false (by omega)), rfl⟩
  · have HF : Hid (fldB k n = true) := hf
    have hr : valB k n = true := by have := of_decide_eq_true hf; exact decide_eq_true (by omega)
    rw [hr]
    clear hf hr
    go_enter Try.func39, Try.ntmps39
    go_wp2_with fail
    refine (refField_any HF _).mono ?_
    rintro e w' ⟨rfl, rfl⟩
    go_wp2_with fail
    go_ret
    exact ⟨rfl, rfl⟩

theorem isPtr_any {k : Int} {b : Bool} (hb : Hid (upB 16 k = b)) (w : World) :
    Calls Try.prog 31 #[.int .i64 k] w fun e w' => e = .returned (.bool b) ∧ w' = w := by
  obtain rfl := hb.out
  by_cases h1 : 16 ≤ k
  · by_cases h2 : k < 32
    all_goals
      go_enter Try.func31, Try.ntmps31
      go_wp2_with fail
      go_ret
      exact ⟨ret_bool (by simp [upB, h1, h2]), rfl⟩
  · go_enter Try.func31, Try.ntmps31
    go_wp2_with fail
    go_ret
    exact ⟨ret_bool (decide_eq_false (by omega)).symm, rfl⟩
theorem isLoc_any {k : Int} {b : Bool} (hb : Hid (upB 64 k = b)) (w : World) :
    Calls Try.prog 63 #[.int .i64 k] w fun e w' => e = .returned (.bool b) ∧ w' = w := by
  obtain rfl := hb.out
  by_cases h1 : 64 ≤ k
  · by_cases h2 : k < 80
    all_goals
      go_enter Try.func63, Try.ntmps63
      go_wp2_with fail
      go_ret
      exact ⟨ret_bool (by simp [upB, h1, h2]), rfl⟩
  · go_enter Try.func63, Try.ntmps63
    go_wp2_with fail
    go_ret
    exact ⟨ret_bool (decide_eq_false (by omega)).symm, rfl⟩

end Go.Proofs.Ytmjappcjfjajmaa

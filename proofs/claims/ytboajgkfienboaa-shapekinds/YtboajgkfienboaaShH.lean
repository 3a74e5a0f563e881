/- The walk of ShapeKinds. -/
import Derived.Test.YtboajgkfienboaaShG
namespace Go.Proofs.Ytboajgkfienboaa
open Go.RowKit Go.Maps

def cntB (bs : Nat → Bool) : Nat → Nat
  | 0 => 0
  | m + 1 => cntB bs m + (if bs m then 1 else 0)
theorem cnt_le (bs : Nat → Bool) : ∀ m, cntB bs m ≤ m
  | 0 => Nat.le_refl _
  | m + 1 => by
    have := cnt_le bs m
    rw [cntB]
    split <;> omega
def three (i p l : Bool) (j : Nat) : Bool := if j = 0 then i else if j = 1 then p else l

set_option maxHeartbeats 4000000 in
theorem kinds_core (k n : Int) (w : World) (i p l f v z : Bool) {a1 a2 : Int} (hi : (k == 1) = i) (hp : Hid (upB 16 k = p)) (hl : Hid (upB 64 k = l)) (hf : Hid (fldB k n = f)) (hv : Hid (valB k n = v)) (hz : Hid (valB 0 n = z))
    (h1 : Hid (upN 16 k = a1)) (h2 : Hid (upN 64 k = a2)) (cn : Nat) (hcn : Hid (cntB (three i p l) 3 = cn))
    (hle : cn ≤ 1) (hfv : Hid (f = true → v = true ∧ l = false)) (hv1 : Hid (v = true → cn = 1)) (hz0 : z = false) :
    Calls Try.prog 4 #[.int .i64 k, .int .i64 n] w fun e w' => e = .returned (.bool true) ∧ Below w.heap.size w w' := by
  go_enter Try.func4, Try.ntmps4
  go_wp2_with fail
  refine (alive_any _).mono ?_
  rintro e w1 ⟨rfl, hw1⟩
  have HB : Hid (Below w.heap.size w w1) := hw1
  clear hw1
  go_wp2_with fail
  refine (points_any h1 hp _).mono ?_
  rintro e w1' ⟨rfl, rfl⟩
  go_wp2_with fail
  refine (places_any h2 hl _).mono ?_
  rintro e w1' ⟨rfl, rfl⟩
  go_wp2_with fail
  have HC : Hid (∀ j, j < 3 → (w1'.alloc (.cells #[.bool i, .bool p, .bool l] 4)).cell? ⟨w1'.heap.size, j, none⟩ = some (.bool (three i p l j))) := by
    intro j hj
    match j, hj with
    | 0, _ => simp [three]
    | 1, _ => simp [three]
    | 2, _ => simp [three]
  have HB2 : Hid (Below w.heap.size w (w1'.alloc (.cells #[.bool i, .bool p, .bool l] 4))) := HB.out.alloc HB.out.size _
  clear HB
  generalize (w1'.alloc (.cells #[.bool i, .bool p, .bool l] 4)) = w3 at *
  generalize w1'.heap.size = g at *
  go_loop [9, 30] (fun c j => ∃ m : Nat, m ≤ 3 ∧ j = .int .i64 m ∧ c = .int .i64 (cntB (three i p l) m)) (fun _ j => 3 - (intOf j).toNat)
  case atStart => exact ⟨0, by omega, rfl, rfl⟩
  case round =>
    obtain ⟨m, hm, rfl, rfl⟩ := hrel
    have hcl := cnt_le (three i p l) m
    by_cases hlt : m < 3
    · have hc := HC.out m hlt
      have HN : Hid (cntB (three i p l) (m + 1) = cntB (three i p l) m + (if three i p l m then 1 else 0)) := rfl
      clear hcn HC
      generalize three i p l m = b at *
      generalize cntB (three i p l) m = c0 at *
      cases b
      · go_wp2_with fail
        go_round
        case rel => exact ⟨m + 1, by omega, by go_num, by rw [HN.out]; rfl⟩
        case measure => simp [intOf]; omega
      · go_wp2_with fail
        go_round
        case rel => exact ⟨m + 1, by omega, by go_num, by rw [HN.out]; go_num⟩
        case measure => simp [intOf]; omega
    · have e : m = 3 := by omega
      have e2 : cntB (three i p l) m = cn := by rw [e, hcn.out]
      rw [e2] at hcl ⊢
      have hle' : (cn : Int) ≤ 1 := by omega
      subst hz0
      cases f
      · cases v
        · go_wp2_with fail
          refine (field_any hf _).mono ?_
          rintro e w4 ⟨rfl, rfl⟩
          go_wp2_with fail
          refine (valid_any hv _).mono ?_
          rintro e w4 ⟨rfl, rfl⟩
          go_wp2_with fail
          refine (valid_any hz _).mono ?_
          rintro e w4 ⟨rfl, rfl⟩
          go_wp2_with fail
          go_ret
          exact ⟨rfl, HB2.out⟩
        · obtain rfl := hv1.out rfl
          go_wp2_with fail
          refine (field_any hf _).mono ?_
          rintro e w4 ⟨rfl, rfl⟩
          go_wp2_with fail
          refine (valid_any hv _).mono ?_
          rintro e w4 ⟨rfl, rfl⟩
          go_wp2_with fail
          refine (valid_any hz _).mono ?_
          rintro e w4 ⟨rfl, rfl⟩
          go_wp2_with fail
          go_ret
          exact ⟨rfl, HB2.out⟩
      · obtain ⟨rfl, rfl⟩ := hfv.out rfl
        obtain rfl := hv1.out rfl
        go_wp2_with fail
        refine (field_any hf _).mono ?_
        rintro e w4 ⟨rfl, rfl⟩
        go_wp2_with fail
        refine (valid_any hv _).mono ?_
        rintro e w4 ⟨rfl, rfl⟩
        go_wp2_with fail
        refine (valid_any hv _).mono ?_
        rintro e w4 ⟨rfl, rfl⟩
        go_wp2_with fail
        refine (valid_any hz _).mono ?_
        rintro e w4 ⟨rfl, rfl⟩
        go_wp2_with fail
        go_ret
        exact ⟨rfl, HB2.out⟩

theorem kinds_walk (k n : Int) (w : World) :
    Calls Try.prog 4 #[.int .i64 k, .int .i64 n] w fun e w' => e = .returned (.bool true) ∧ Below w.heap.size w w' := by
  have hd : cntB (three (k == 1) (upB 16 k) (upB 64 k)) 3 = (if k = 1 then 1 else 0) + (if 16 ≤ k ∧ k < 32 then 1 else 0) + (if 64 ≤ k ∧ k < 80 then 1 else 0) := by
    simp [cntB, three, upB]
  refine kinds_core k n w _ _ _ _ _ _ rfl rfl rfl rfl rfl rfl rfl rfl _ rfl ?_ ?_ ?_ ?_
  · rw [hd]
    split <;> split <;> split <;> omega
  · intro h
    have := of_decide_eq_true h
    refine ⟨decide_eq_true (by omega), decide_eq_false (by omega)⟩
  · intro h
    have := of_decide_eq_true h
    rw [hd]
    split <;> split <;> split <;> omega
  · exact decide_eq_false (by omega)

end Go.Proofs.Ytboajgkfienboaa

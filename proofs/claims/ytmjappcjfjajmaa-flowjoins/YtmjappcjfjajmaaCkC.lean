/- The walks of slices.IndexFunc and ContainsFunc of ints, with whatever function; of isPlace, kinded. -/
import Derived.Test.YtmjappcjfjajmaaCkY
namespace Go.Proofs.Ytmjappcjfjajmaa
open Go.RowKit

theorem any_no {P : Int → Bool} {L : List Int} (h : ∀ m : Nat, m < L.length → P (L.getD m 0) = false) : L.any P = false := by
  rw [List.any_eq_false]
  intro x hx
  obtain ⟨m, hm, rfl⟩ := List.mem_iff_getElem.1 hx
  have := h m hm
  simp [List.getD, hm] at this
  simp [this]
theorem any_yes {P : Int → Bool} {L : List Int} {m : Nat} (hm : m < L.length) (h : P (L.getD m 0) = true) : L.any P = true := by
  rw [List.any_eq_true]
  refine ⟨L.getD m 0, ?_, h⟩
  simp [List.getD, hm]

set_option maxHeartbeats 1000000 in
theorem indexP_any (P : Int → Bool) (L : List Int) (a : Option Addr) (c : Nat) (w : World) (hlen : L.length ≤ maxLen) (h : SrcAt w (.slice a L.length c) L)
    (hN : Hid (∀ x w', Below w.heap.size w w' → Calls Try.prog 71 #[.int .i64 x] w' fun e w'' => e = .returned (.bool (P x)) ∧ Below w'.heap.size w' w'')) :
    Calls Try.prog 87 #[.slice a L.length c, .func (.func 71) #[] #[]] w fun e w' => (∃ r, e = .returned (.int .i64 r) ∧ decide (0 ≤ r) = L.any P) ∧ Below w.heap.size w w' := by
  have H : Hid (SrcAt w (.slice a L.length c) L) := h
  have HL : Hid (L.length ≤ maxLen) := hlen
  clear h hlen
  go_enter Try.func87, Try.ntmps87
  go_wp2_with fail
  go_loopw [5, 8] (fun _ i wr => ∃ j : Nat, j ≤ L.length ∧ i = .int .i64 j ∧ Hid (Below w.heap.size w wr) ∧ Hid (∀ m : Nat, m < j → P (L.getD m 0) = false)) (fun _ i _ => L.length - (intOf i).toNat)
  case atStart => exact ⟨0, Nat.zero_le _, rfl, Below.refl _ _, fun m hm => absurd hm (by omega)⟩
  case round =>
    obtain ⟨j, hj, rfl, HB, HA⟩ := hrel
    by_cases hlt : j < L.length
    · have hs := (H.out.below HB.out).p
      obtain ⟨b, off, rfl, hb, _, k0⟩ := hs.some hlt
      have hltI : (j : Int) < (L.length : Int) := by omega
      have hj3 : j + 1 ≤ 9223372036854775807 := by have := HL.out; unfold maxLen at this; omega
      obtain ⟨x, hx⟩ : ∃ x, L.getD j 0 = x := ⟨_, rfl⟩
      rw [hx] at k0
      have HN1 : Hid (∀ m : Nat, P x = false → m < j + 1 → P (L.getD m 0) = false) := fun m h1 hm => by
        by_cases e : m = j
        · rw [e, hx, h1]
        · exact HA.out m (by omega)
      have HY : Hid (P x = true → L.any P = true) := fun h1 => any_yes hlt (by rw [hx, h1])
      clear hs hx HA
      cases hP : P x with
      | true =>
        have HY2 : Hid (decide ((0 : Int) ≤ (j : Int)) = L.any P) := by unfold Hid; rw [HY.out hP]; exact decide_eq_true (by omega)
        have HPx : Hid (P x = true) := hP
        clear HY HN1 hP
        go_wp2_with fail
        refine (hN.out x wr HB.out).mono ?_
        rw [HPx.out]
        rintro e w2 ⟨rfl, hb2⟩
        have HB2 : Hid (Below w.heap.size w w2) := HB.out.trans (hb2.mono HB.out.size)
        clear hb2 k0
        go_wp2_with fail
        go_ret
        exact ⟨⟨_, rfl, HY2.out⟩, HB2.out⟩
      | false =>
        have HN2 : Hid (∀ m : Nat, m < j + 1 → P (L.getD m 0) = false) := fun m hm => HN1.out m hP hm
        have HPx : Hid (P x = false) := hP
        clear HY HN1 hP
        go_wp2_with fail
        refine (hN.out x wr HB.out).mono ?_
        rw [HPx.out]
        rintro e w2 ⟨rfl, hb2⟩
        have HB2 : Hid (Below w.heap.size w w2) := HB.out.trans (hb2.mono HB.out.size)
        clear hb2 k0
        go_wp2_with fail
        go_roundw
        case rel => exact ⟨j + 1, by omega, by go_num, HB2, HN2⟩
        case measure => simp [intOf]; omega
    · have e : j = L.length := by omega
      have HR : Hid (decide ((0 : Int) ≤ -1) = L.any P) := by unfold Hid; rw [any_no (by rw [← e]; exact HA.out)]; rfl
      clear HA
      go_wp2_with fail
      go_ret
      exact ⟨⟨_, rfl, HR.out⟩, HB.out⟩

theorem containsP_any (P : Int → Bool) {s : Bool} (L : List Int) (hs : Hid (L.any P = s)) (a : Option Addr) (c : Nat) (w : World) (hlen : L.length ≤ maxLen) (h : SrcAt w (.slice a L.length c) L)
    (hN : Hid (∀ x w', Below w.heap.size w w' → Calls Try.prog 71 #[.int .i64 x] w' fun e w'' => e = .returned (.bool (P x)) ∧ Below w'.heap.size w' w'')) :
    Calls Try.prog 70 #[.slice a L.length c, .func (.func 71) #[] #[]] w fun e w' => e = .returned (.bool s) ∧ Below w.heap.size w w' := by
  have H : Hid (SrcAt w (.slice a L.length c) L ∧ L.length ≤ maxLen) := ⟨h, hlen⟩
  clear h hlen
  go_enter Try.func70, Try.ntmps70
  go_wp2_with fail
  refine (indexP_any P L a c _ H.out.2 H.out.1 hN).mono ?_
  rintro e w1 ⟨⟨r, rfl, hr⟩, hb⟩
  have HB : Hid (Below w.heap.size w w1) := hb
  have HR : Hid (decide (0 ≤ r) = s) := hr.trans hs.out
  clear hb hr
  go_wp2_with fail
  go_ret
  exact ⟨ret_bool HR.out, HB.out⟩

set_option maxHeartbeats 1000000 in
theorem indexF_any (u : Value) (P : Int → Bool) (L : List Int) (a : Option Addr) (c : Nat) (w : World) (hlen : L.length ≤ maxLen) (h : SrcAt w (.slice a L.length c) L)
    (hN : Hid (∀ x w', Below w.heap.size w w' → Calls Try.prog 79 #[.int .i64 x, u] w' fun e w'' => e = .returned (.bool (P x)) ∧ Below w'.heap.size w' w'')) :
    Calls Try.prog 87 #[.slice a L.length c, .func (.func 79) #[] #[u]] w fun e w' => (∃ r, e = .returned (.int .i64 r) ∧ decide (0 ≤ r) = L.any P) ∧ Below w.heap.size w w' := by
  have H : Hid (SrcAt w (.slice a L.length c) L) := h
  have HL : Hid (L.length ≤ maxLen) := hlen
  clear h hlen
  go_enter Try.func87, Try.ntmps87
  go_wp2_with fail
  go_loopw [5, 8] (fun _ i wr => ∃ j : Nat, j ≤ L.length ∧ i = .int .i64 j ∧ Hid (Below w.heap.size w wr) ∧ Hid (∀ m : Nat, m < j → P (L.getD m 0) = false)) (fun _ i _ => L.length - (intOf i).toNat)
  case atStart => exact ⟨0, Nat.zero_le _, rfl, Below.refl _ _, fun m hm => absurd hm (by omega)⟩
  case round =>
    obtain ⟨j, hj, rfl, HB, HA⟩ := hrel
    by_cases hlt : j < L.length
    · have hs := (H.out.below HB.out).p
      obtain ⟨b, off, rfl, hb, _, k0⟩ := hs.some hlt
      have hltI : (j : Int) < (L.length : Int) := by omega
      have hj3 : j + 1 ≤ 9223372036854775807 := by have := HL.out; unfold maxLen at this; omega
      obtain ⟨x, hx⟩ : ∃ x, L.getD j 0 = x := ⟨_, rfl⟩
      rw [hx] at k0
      have HN1 : Hid (∀ m : Nat, P x = false → m < j + 1 → P (L.getD m 0) = false) := fun m h1 hm => by
        by_cases e : m = j
        · rw [e, hx, h1]
        · exact HA.out m (by omega)
      have HY : Hid (P x = true → L.any P = true) := fun h1 => any_yes hlt (by rw [hx, h1])
      clear hs hx HA
      cases hP : P x with
      | true =>
        have HY2 : Hid (decide ((0 : Int) ≤ (j : Int)) = L.any P) := by unfold Hid; rw [HY.out hP]; exact decide_eq_true (by omega)
        have HPx : Hid (P x = true) := hP
        clear HY HN1 hP
        go_wp2_with fail
        refine (hN.out x wr HB.out).mono ?_
        rw [HPx.out]
        rintro e w2 ⟨rfl, hb2⟩
        have HB2 : Hid (Below w.heap.size w w2) := HB.out.trans (hb2.mono HB.out.size)
        clear hb2 k0
        go_wp2_with fail
        go_ret
        exact ⟨⟨_, rfl, HY2.out⟩, HB2.out⟩
      | false =>
        have HN2 : Hid (∀ m : Nat, m < j + 1 → P (L.getD m 0) = false) := fun m hm => HN1.out m hP hm
        have HPx : Hid (P x = false) := hP
        clear HY HN1 hP
        go_wp2_with fail
        refine (hN.out x wr HB.out).mono ?_
        rw [HPx.out]
        rintro e w2 ⟨rfl, hb2⟩
        have HB2 : Hid (Below w.heap.size w w2) := HB.out.trans (hb2.mono HB.out.size)
        clear hb2 k0
        go_wp2_with fail
        go_roundw
        case rel => exact ⟨j + 1, by omega, by go_num, HB2, HN2⟩
        case measure => simp [intOf]; omega
    · have e : j = L.length := by omega
      have HR : Hid (decide ((0 : Int) ≤ -1) = L.any P) := by unfold Hid; rw [any_no (by rw [← e]; exact HA.out)]; rfl
      clear HA
      go_wp2_with fail
      go_ret
      exact ⟨⟨_, rfl, HR.out⟩, HB.out⟩

theorem containsF_any (u : Value) (P : Int → Bool) {s : Bool} (L : List Int) (hs : Hid (L.any P = s)) (a : Option Addr) (c : Nat) (w : World) (hlen : L.length ≤ maxLen) (h : SrcAt w (.slice a L.length c) L)
    (hN : Hid (∀ x w', Below w.heap.size w w' → Calls Try.prog 79 #[.int .i64 x, u] w' fun e w'' => e = .returned (.bool (P x)) ∧ Below w'.heap.size w' w'')) :
    Calls Try.prog 70 #[.slice a L.length c, .func (.func 79) #[] #[u]] w fun e w' => e = .returned (.bool s) ∧ Below w.heap.size w w' := by
  have H : Hid (SrcAt w (.slice a L.length c) L ∧ L.length ≤ maxLen) := ⟨h, hlen⟩
  clear h hlen
  go_enter Try.func70, Try.ntmps70
  go_wp2_with fail
  refine (indexF_any u P L a c _ H.out.2 H.out.1 hN).mono ?_
  rintro e w1 ⟨⟨r, rfl, hr⟩, hb⟩
  have HB : Hid (Below w.heap.size w w1) := hb
  have HR : Hid (decide (0 ≤ r) = s) := hr.trans hs.out
  clear hb hr
  go_wp2_with fail
  go_ret
  exact ⟨ret_bool HR.out, HB.out⟩


set_option maxHeartbeats 1000000 in
theorem indexV_any (u : Value) (P : Int → Bool) (L : List Int) (a : Option Addr) (c : Nat) (w : World) (hlen : L.length ≤ maxLen) (h : SrcAt w (.slice a L.length c) L)
    (hN : Hid (∀ x w', Below w.heap.size w w' → Calls Try.prog 91 #[.int .i64 x, u] w' fun e w'' => e = .returned (.bool (P x)) ∧ Below w'.heap.size w' w'')) :
    Calls Try.prog 87 #[.slice a L.length c, .func (.func 91) #[] #[u]] w fun e w' => (∃ r, e = .returned (.int .i64 r) ∧ decide (0 ≤ r) = L.any P) ∧ Below w.heap.size w w' := by
  have H : Hid (SrcAt w (.slice a L.length c) L) := h
  have HL : Hid (L.length ≤ maxLen) := hlen
  clear h hlen
  go_enter Try.func87, Try.ntmps87
  go_wp2_with fail
  go_loopw [5, 8] (fun _ i wr => ∃ j : Nat, j ≤ L.length ∧ i = .int .i64 j ∧ Hid (Below w.heap.size w wr) ∧ Hid (∀ m : Nat, m < j → P (L.getD m 0) = false)) (fun _ i _ => L.length - (intOf i).toNat)
  case atStart => exact ⟨0, Nat.zero_le _, rfl, Below.refl _ _, fun m hm => absurd hm (by omega)⟩
  case round =>
    obtain ⟨j, hj, rfl, HB, HA⟩ := hrel
    by_cases hlt : j < L.length
    · have hs := (H.out.below HB.out).p
      obtain ⟨b, off, rfl, hb, _, k0⟩ := hs.some hlt
      have hltI : (j : Int) < (L.length : Int) := by omega
      have hj3 : j + 1 ≤ 9223372036854775807 := by have := HL.out; unfold maxLen at this; omega
      obtain ⟨x, hx⟩ : ∃ x, L.getD j 0 = x := ⟨_, rfl⟩
      rw [hx] at k0
      have HN1 : Hid (∀ m : Nat, P x = false → m < j + 1 → P (L.getD m 0) = false) := fun m h1 hm => by
        by_cases e : m = j
        · rw [e, hx, h1]
        · exact HA.out m (by omega)
      have HY : Hid (P x = true → L.any P = true) := fun h1 => any_yes hlt (by rw [hx, h1])
      clear hs hx HA
      cases hP : P x with
      | true =>
        have HY2 : Hid (decide ((0 : Int) ≤ (j : Int)) = L.any P) := by unfold Hid; rw [HY.out hP]; exact decide_eq_true (by omega)
        have HPx : Hid (P x = true) := hP
        clear HY HN1 hP
        go_wp2_with fail
        refine (hN.out x wr HB.out).mono ?_
        rw [HPx.out]
        rintro e w2 ⟨rfl, hb2⟩
        have HB2 : Hid (Below w.heap.size w w2) := HB.out.trans (hb2.mono HB.out.size)
        clear hb2 k0
        go_wp2_with fail
        go_ret
        exact ⟨⟨_, rfl, HY2.out⟩, HB2.out⟩
      | false =>
        have HN2 : Hid (∀ m : Nat, m < j + 1 → P (L.getD m 0) = false) := fun m hm => HN1.out m hP hm
        have HPx : Hid (P x = false) := hP
        clear HY HN1 hP
        go_wp2_with fail
        refine (hN.out x wr HB.out).mono ?_
        rw [HPx.out]
        rintro e w2 ⟨rfl, hb2⟩
        have HB2 : Hid (Below w.heap.size w w2) := HB.out.trans (hb2.mono HB.out.size)
        clear hb2 k0
        go_wp2_with fail
        go_roundw
        case rel => exact ⟨j + 1, by omega, by go_num, HB2, HN2⟩
        case measure => simp [intOf]; omega
    · have e : j = L.length := by omega
      have HR : Hid (decide ((0 : Int) ≤ -1) = L.any P) := by unfold Hid; rw [any_no (by rw [← e]; exact HA.out)]; rfl
      clear HA
      go_wp2_with fail
      go_ret
      exact ⟨⟨_, rfl, HR.out⟩, HB.out⟩

theorem containsV_any (u : Value) (P : Int → Bool) {s : Bool} (L : List Int) (hs : Hid (L.any P = s)) (a : Option Addr) (c : Nat) (w : World) (hlen : L.length ≤ maxLen) (h : SrcAt w (.slice a L.length c) L)
    (hN : Hid (∀ x w', Below w.heap.size w w' → Calls Try.prog 91 #[.int .i64 x, u] w' fun e w'' => e = .returned (.bool (P x)) ∧ Below w'.heap.size w' w'')) :
    Calls Try.prog 70 #[.slice a L.length c, .func (.func 91) #[] #[u]] w fun e w' => e = .returned (.bool s) ∧ Below w.heap.size w w' := by
  have H : Hid (SrcAt w (.slice a L.length c) L ∧ L.length ≤ maxLen) := ⟨h, hlen⟩
  clear h hlen
  go_enter Try.func70, Try.ntmps70
  go_wp2_with fail
  refine (indexV_any u P L a c _ H.out.2 H.out.1 hN).mono ?_
  rintro e w1 ⟨⟨r, rfl, hr⟩, hb⟩
  have HB : Hid (Below w.heap.size w w1) := hb
  have HR : Hid (decide (0 ≤ r) = s) := hr.trans hs.out
  clear hb hr
  go_wp2_with fail
  go_ret
  exact ⟨ret_bool HR.out, HB.out⟩


set_option maxHeartbeats 1000000 in
theorem indexO_any (u : Value) (P : Int → Bool) (L : List Int) (a : Option Addr) (c : Nat) (w : World) (hlen : L.length ≤ maxLen) (h : SrcAt w (.slice a L.length c) L)
    (hN : Hid (∀ x w', Below w.heap.size w w' → Calls Try.prog 93 #[.int .i64 x, u] w' fun e w'' => e = .returned (.bool (P x)) ∧ Below w'.heap.size w' w'')) :
    Calls Try.prog 87 #[.slice a L.length c, .func (.func 93) #[] #[u]] w fun e w' => (∃ r, e = .returned (.int .i64 r) ∧ decide (0 ≤ r) = L.any P) ∧ Below w.heap.size w w' := by
  have H : Hid (SrcAt w (.slice a L.length c) L) := h
  have HL : Hid (L.length ≤ maxLen) := hlen
  clear h hlen
  go_enter Try.func87, Try.ntmps87
  go_wp2_with fail
  go_loopw [5, 8] (fun _ i wr => ∃ j : Nat, j ≤ L.length ∧ i = .int .i64 j ∧ Hid (Below w.heap.size w wr) ∧ Hid (∀ m : Nat, m < j → P (L.getD m 0) = false)) (fun _ i _ => L.length - (intOf i).toNat)
  case atStart => exact ⟨0, Nat.zero_le _, rfl, Below.refl _ _, fun m hm => absurd hm (by omega)⟩
  case round =>
    obtain ⟨j, hj, rfl, HB, HA⟩ := hrel
    by_cases hlt : j < L.length
    · have hs := (H.out.below HB.out).p
      obtain ⟨b, off, rfl, hb, _, k0⟩ := hs.some hlt
      have hltI : (j : Int) < (L.length : Int) := by omega
      have hj3 : j + 1 ≤ 9223372036854775807 := by have := HL.out; unfold maxLen at this; omega
      obtain ⟨x, hx⟩ : ∃ x, L.getD j 0 = x := ⟨_, rfl⟩
      rw [hx] at k0
      have HN1 : Hid (∀ m : Nat, P x = false → m < j + 1 → P (L.getD m 0) = false) := fun m h1 hm => by
        by_cases e : m = j
        · rw [e, hx, h1]
        · exact HA.out m (by omega)
      have HY : Hid (P x = true → L.any P = true) := fun h1 => any_yes hlt (by rw [hx, h1])
      clear hs hx HA
      cases hP : P x with
      | true =>
        have HY2 : Hid (decide ((0 : Int) ≤ (j : Int)) = L.any P) := by unfold Hid; rw [HY.out hP]; exact decide_eq_true (by omega)
        have HPx : Hid (P x = true) := hP
        clear HY HN1 hP
        go_wp2_with fail
        refine (hN.out x wr HB.out).mono ?_
        rw [HPx.out]
        rintro e w2 ⟨rfl, hb2⟩
        have HB2 : Hid (Below w.heap.size w w2) := HB.out.trans (hb2.mono HB.out.size)
        clear hb2 k0
        go_wp2_with fail
        go_ret
        exact ⟨⟨_, rfl, HY2.out⟩, HB2.out⟩
      | false =>
        have HN2 : Hid (∀ m : Nat, m < j + 1 → P (L.getD m 0) = false) := fun m hm => HN1.out m hP hm
        have HPx : Hid (P x = false) := hP
        clear HY HN1 hP
        go_wp2_with fail
        refine (hN.out x wr HB.out).mono ?_
        rw [HPx.out]
        rintro e w2 ⟨rfl, hb2⟩
        have HB2 : Hid (Below w.heap.size w w2) := HB.out.trans (hb2.mono HB.out.size)
        clear hb2 k0
        go_wp2_with fail
        go_roundw
        case rel => exact ⟨j + 1, by omega, by go_num, HB2, HN2⟩
        case measure => simp [intOf]; omega
    · have e : j = L.length := by omega
      have HR : Hid (decide ((0 : Int) ≤ -1) = L.any P) := by unfold Hid; rw [any_no (by rw [← e]; exact HA.out)]; rfl
      clear HA
      go_wp2_with fail
      go_ret
      exact ⟨⟨_, rfl, HR.out⟩, HB.out⟩

theorem containsO_any (u : Value) (P : Int → Bool) {s : Bool} (L : List Int) (hs : Hid (L.any P = s)) (a : Option Addr) (c : Nat) (w : World) (hlen : L.length ≤ maxLen) (h : SrcAt w (.slice a L.length c) L)
    (hN : Hid (∀ x w', Below w.heap.size w w' → Calls Try.prog 93 #[.int .i64 x, u] w' fun e w'' => e = .returned (.bool (P x)) ∧ Below w'.heap.size w' w'')) :
    Calls Try.prog 70 #[.slice a L.length c, .func (.func 93) #[] #[u]] w fun e w' => e = .returned (.bool s) ∧ Below w.heap.size w w' := by
  have H : Hid (SrcAt w (.slice a L.length c) L ∧ L.length ≤ maxLen) := ⟨h, hlen⟩
  clear h hlen
  go_enter Try.func70, Try.ntmps70
  go_wp2_with fail
  refine (indexO_any u P L a c _ H.out.2 H.out.1 hN).mono ?_
  rintro e w1 ⟨⟨r, rfl, hr⟩, hb⟩
  have HB : Hid (Below w.heap.size w w1) := hb
  have HR : Hid (decide (0 ≤ r) = s) := hr.trans hs.out
  clear hb hr
  go_wp2_with fail
  go_ret
  exact ⟨ret_bool HR.out, HB.out⟩


theorem isPlace_any (x : Int) (w : World) : Calls Try.prog 71 #[.int .i64 x] w fun e w' => e = .returned (.bool (upB 64 x)) ∧ Below w.heap.size w w' := by
  obtain ⟨n, hn⟩ : ∃ n, Hid (upN 64 x = n) := ⟨_, rfl⟩
  obtain ⟨s, hs⟩ : ∃ s, Hid (upB 64 x = s) := ⟨_, rfl⟩
  rw [hs.out]
  go_enter Try.func71, Try.ntmps71
  go_wp2_with fail
  refine (places_any hn hs _).mono ?_
  rintro e w' ⟨rfl, rfl⟩
  go_wp2_with fail
  go_ret
  exact ⟨rfl, Below.refl _ _⟩

theorem kind_call {p : Pg} {g : Fn} {io ia ib ic : Int} (h : io = 23 ∨ io = 24) (hg : fnAt p ib = some g) : kindB p ⟨io, ia, ib, ic⟩ = (g.res == 0 && !(g.args.any (upB 64))) := by
  show (if io = 25 ∨ io = 26 then decide (0 < p.shapes.length) else if io = 23 ∨ io = 24 then (match fnAt p ib with | some g => g.res == 0 && !(g.args.any (upB 64)) | none => true) else true) = _
  rw [if_neg (by omega), if_pos h, hg]
theorem kind_ptr {p : Pg} {io ia ib ic : Int} (h : io = 25 ∨ io = 26) : kindB p ⟨io, ia, ib, ic⟩ = decide (0 < p.shapes.length) := by
  show (if io = 25 ∨ io = 26 then decide (0 < p.shapes.length) else if io = 23 ∨ io = 24 then (match fnAt p ib with | some g => g.res == 0 && !(g.args.any (upB 64)) | none => true) else true) = _
  rw [if_pos h]
theorem kind_else {p : Pg} {io ia ib ic : Int} (h : ¬ io = 25 ∧ ¬ io = 26 ∧ ¬ io = 23 ∧ ¬ io = 24) : kindB p ⟨io, ia, ib, ic⟩ = true := by
  show (if io = 25 ∨ io = 26 then decide (0 < p.shapes.length) else if io = 23 ∨ io = 24 then (match fnAt p ib with | some g => g.res == 0 && !(g.args.any (upB 64)) | none => true) else true) = _
  rw [if_neg (by omega), if_neg (by omega)]

set_option maxHeartbeats 2000000 in
theorem kinded_any (p : Pg) (f : Fn) (io ia ib ic : Int) (ag az af : Option Addr) (cg cs cf : Nat) (a0 a3 a4 : Option Addr) (c0 c3 c4 : Nat) {s : Bool} (hs : Hid (kindB p ⟨io, ia, ib, ic⟩ = s)) (hcall : io = 23 ∨ io = 24 → ∃ g, fnAt p ib = some g ∧ g.args.length ≤ maxLen) (w : World) (hp : PgV Any w (.slice ag p.glob.length cg) (.slice az p.shapes.length cs) (.slice af p.funcs.length cf) p) (hf : FnC Any w f (.slice a0 f.args.length c0) (.int .i64 f.res) (.int .i64 f.slots) (.slice a3 f.objs.length c3) (.slice a4 f.code.length c4)) :
    Calls Try.prog 45 #[.agg #[.slice ag p.glob.length cg, .slice az p.shapes.length cs, .slice af p.funcs.length cf, .slice a0 f.args.length c0, .int .i64 f.res, .int .i64 f.slots, .slice a3 f.objs.length c3, .slice a4 f.code.length c4, .int .i64 io, .int .i64 ia, .int .i64 ib, .int .i64 ic]] w fun e w' => e = .returned (.bool s) ∧ Below w.heap.size w w' := by
  obtain ⟨wa, hwa⟩ : ∃ wa, w.alloc (.cells #[.slice ag p.glob.length cg, .slice az p.shapes.length cs, .slice af p.funcs.length cf, .slice a0 f.args.length c0, .int .i64 f.res, .int .i64 f.slots, .slice a3 f.objs.length c3, .slice a4 f.code.length c4, .int .i64 io, .int .i64 ia, .int .i64 ib, .int .i64 ic] 83) = wa := ⟨_, rfl⟩
  have HT : Hid (OnS w wa w.heap.size p f io ia ib ic ag az af cg cs cf a0 a3 a4 c0 c3 c4) := onS_start p f io ia ib ic ag az af cg cs cf a0 a3 a4 c0 c3 c4 hwa hp hf
  obtain ⟨d0, d1, d2, d3, d4, d5, d6, d7, d8, d9, d10, d11⟩ := HT.out.box.c
  clear hp hf
  by_cases h2 : io = 25 ∨ io = 26
  · have HR : Hid (decide ((0 : Int) < (p.shapes.length : Int)) = s) := by unfold Hid; rw [← hs.out, kind_ptr h2]; simp
    have HR2 : Hid (decide (0 < p.shapes.length) = s) := by unfold Hid; rw [← hs.out, kind_ptr h2]
    clear hs hcall
    rcases h2 with rfl | rfl
    all_goals
      go_enter Try.func45, Try.ntmps45
      go_wp2_with fail
      go_ret
      first | exact ⟨ret_bool HR.out, HT.out.low⟩ | exact ⟨ret_bool HR2.out, HT.out.low⟩
  · by_cases h3 : io = 23 ∨ io = 24
    · obtain ⟨g, hg, hgl⟩ := hcall h3
      obtain ⟨r, hr⟩ : ∃ r, Hid ((g.res != 0) = r) := ⟨_, rfl⟩
      obtain ⟨t, ht⟩ : ∃ t, Hid (g.args.any (upB 64) = t) := ⟨_, rfl⟩
      have HR : Hid ((!r && !t) = s) := by unfold Hid; rw [← hs.out, kind_call h3 hg, ← not_ne, hr.out, ht.out]
      obtain ⟨j, rfl, hj, hfj⟩ := fnAt_some hg
      obtain ⟨b, off, v0, v1, v2, v3, v4, rfl, hb, _, q0, q1, q2, q3, q4, hfc⟩ := HT.out.pp.funcs.some hfj
      obtain ⟨b0, e0, b3, e3, b4, e4, rfl, rfl, rfl⟩ := hfc.lens
      obtain rfl := hfc.res
      obtain rfl := hfc.slots
      have HG : Hid (FnC Any wa g (.slice b0 g.args.length e0) (.int .i64 g.res) (.int .i64 g.slots) (.slice b3 g.objs.length e3) (.slice b4 g.code.length e4)) := hfc
      have HGL : Hid (g.args.length ≤ maxLen) := hgl
      have HA : Hid (Below w.heap.size w (wa.alloc (.cells #[.slice b0 g.args.length e0, .int .i64 g.res, .int .i64 g.slots, .slice b3 g.objs.length e3, .slice b4 g.code.length e4] 41))) := HT.out.low.alloc HT.out.low.size _
      have HG2 : Hid (FnC Any (wa.alloc (.cells #[.slice b0 g.args.length e0, .int .i64 g.res, .int .i64 g.slots, .slice b3 g.objs.length e3, .slice b4 g.code.length e4] 41)) g (.slice b0 g.args.length e0) (.int .i64 g.res) (.int .i64 g.slots) (.slice b3 g.objs.length e3) (.slice b4 g.code.length e4)) := hfc.below ((Below.refl _ _).alloc (Nat.le_refl _) _)
      obtain ⟨wg, hwg⟩ : ∃ wg, wa.alloc (.cells #[.slice b0 g.args.length e0, .int .i64 g.res, .int .i64 g.slots, .slice b3 g.objs.length e3, .slice b4 g.code.length e4] 41) = wg := ⟨_, rfl⟩
      have x0 : wg.cell? ⟨wa.heap.size, 0, none⟩ = some (.slice b0 g.args.length e0) := hwg ▸ cell_new wa _ _ rfl
      have x1 : wg.cell? ⟨wa.heap.size, 1, none⟩ = some (.int .i64 g.res) := hwg ▸ cell_new wa _ _ rfl
      have x2 : wg.cell? ⟨wa.heap.size, 2, none⟩ = some (.int .i64 g.slots) := hwg ▸ cell_new wa _ _ rfl
      have x3 : wg.cell? ⟨wa.heap.size, 3, none⟩ = some (.slice b3 g.objs.length e3) := hwg ▸ cell_new wa _ _ rfl
      have x4 : wg.cell? ⟨wa.heap.size, 4, none⟩ = some (.slice b4 g.code.length e4) := hwg ▸ cell_new wa _ _ rfl
      have hlg : wa.heap.size < wg.heap.size := by rw [← hwg]; simp
      rw [hwg] at HA HG2
      clear hfc hgl hg hs hcall h2 hfj
      rcases h3 with rfl | rfl
      all_goals
        go_enter Try.func45, Try.ntmps45
        go_wp2_with fail
        refine (hasRes_any g b0 b3 b4 e0 e3 e4 hr _).mono ?_
        rintro e w2 ⟨rfl, hb2⟩
        have HB2 : Hid (Below w.heap.size w w2) := HA.out.trans (hb2.mono HA.out.size)
        have y0 : w2.cell? ⟨wa.heap.size, 0, none⟩ = some (.slice b0 g.args.length e0) := (hb2.cell (p := ⟨wa.heap.size, 0, none⟩) hlg).trans x0
        have HG3 : Hid (SrcAt w2 (.slice b0 g.args.length e0) g.args) := (HG2.out.below hb2).args.at_
        clear hb2 d0 d1 d2 d3 d4 d5 d6 d7 d8 d9 d10 d11 q0 q1 q2 q3 q4 x0 x1 x2 x3 x4
        cases r with
        | true =>
          have HR3 : Hid (false = s) := HR.out
          go_wp2_with fail
          go_ret
          exact ⟨ret_bool HR3.out, HB2.out⟩
        | false =>
          have HR3 : Hid ((!t) = s) := HR.out
          go_wp2_with fail
          refine (containsP_any (upB 64) g.args ht b0 e0 _ HGL.out HG3.out (show Hid _ from fun x w' _ => isPlace_any x w')).mono ?_
          rintro e w3 ⟨rfl, hb3⟩
          have HB3 : Hid (Below w.heap.size w w3) := HB2.out.trans (hb3.mono HB2.out.size)
          clear hb3
          go_wp2_with fail
          go_ret
          exact ⟨ret_bool HR3.out, HB3.out⟩
    · have HR : Hid (true = s) := by unfold Hid; rw [← hs.out, kind_else (by omega)]
      have e1 : (io == 25) = false := by simpa using fun h => h2 (Or.inl h)
      have e2 : (io == 26) = false := by simpa using fun h => h2 (Or.inr h)
      have e3 : (io == 23) = false := by simpa using fun h => h3 (Or.inl h)
      have e4 : (io == 24) = false := by simpa using fun h => h3 (Or.inr h)
      clear h2 h3 hs hcall
      go_enter Try.func45, Try.ntmps45
      go_wp2_with fail
      go_ret
      exact ⟨ret_bool HR.out, HT.out.low⟩

end Go.Proofs.Ytmjappcjfjajmaa

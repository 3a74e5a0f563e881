/- Plain mathematics of lists of slots; the walks of list, All, Sweep, Count. -/
import Derived.Test.YtfkimmbnmcgjiaaDoorPgB
namespace Go.Proofs.YtfkimmbnmcgjiaaDoor
open Go.RowKit

theorem inv_bit (x i : Nat) (h : x < 18446744073709551616) : (18446744073709551615 - x).testBit i = (decide (i < 64) && !x.testBit i) := by
  have e : 18446744073709551615 - x = 2 ^ 64 - (x + 1) := by omega
  rw [e, Nat.testBit_two_pow_sub_succ (by omega)]
theorem wd0_bit (S : Nat → Bool) (i : Nat) : (wd S 0).testBit i = (decide (i < 64) && S i) := by rw [wd_bit]; simp
theorem wd0_diff (S T : Nat → Bool) : wd S 0 &&& (18446744073709551615 - wd T 0) = wd (fun x => S x && !T x) 0 := by
  apply Nat.eq_of_testBit_eq
  intro i
  rw [Nat.testBit_and, inv_bit _ _ (wd_lt _ _), wd0_bit, wd0_bit, wd0_bit]
  by_cases hi : i < 64 <;> simp [hi]
theorem mask_wd (n : Nat) (h : n ≤ 64) : maskN (cl 0) (cl (n : Int)) = wd (fun x => decide (x < n)) 0 := by
  have e1 : cl 0 = 0 := by decide
  have e2 : cl (n : Int) = n := by unfold cl; omega
  rw [e1, e2]
  apply Nat.eq_of_testBit_eq
  intro i
  rw [wd0_bit]
  by_cases hi : i < 64
  · rw [maskN_bit _ _ _ (by decide) hi]; simp [hi]
  · unfold maskN
    rw [Nat.testBit_and, Nat.testBit_two_pow_sub_one]
    have : ¬ i < n := by omega
    simp [hi, this]

/-- All that are in the set and below m, rising. -/
def els (S : Nat → Bool) : Nat → List Int
  | 0 => []
  | m + 1 => els S m ++ if S m then [(m : Int)] else []
theorem els_len (S : Nat → Bool) : ∀ m, (els S m).length = cnt S m
  | 0 => rfl
  | m + 1 => by unfold els cnt; rw [List.length_append, els_len S m]; split <;> simp
theorem els_none (S : Nat → Bool) (m : Nat) : ∀ d, (∀ y, m ≤ y → y < m + d → S y = false) → els S (m + d) = els S m
  | 0, _ => rfl
  | d + 1, h => by
    show els S (m + d) ++ (if S (m + d) then [((m + d : Nat) : Int)] else []) = els S m
    rw [h (m + d) (by omega) (by omega), els_none S m d fun y h1 h2 => h y h1 (by omega)]
    simp
theorem els_congr (S T : Nat → Bool) : ∀ m, (∀ i, i < m → S i = T i) → els S m = els T m
  | 0, _ => rfl
  | m + 1, h => by unfold els; rw [els_congr S T m (fun i hi => h i (by omega)), h m (by omega)]
theorem els_wd (S : Nat → Bool) (n : Nat) (hn : n ≤ 64) (h : ∀ x, n ≤ x → S x = false) : els (wd S 0).testBit 64 = els S n := by
  rw [els_congr _ S 64 (fun i hi => by rw [wd0_bit]; simp [hi])]
  obtain ⟨d, hd⟩ := Nat.le.dest hn
  rw [← hd]
  exact els_none S n d fun y h1 _ => h y h1
theorem cnt_wd0 (S : Nat → Bool) (n : Nat) (hn : n ≤ 64) (h : ∀ x, n ≤ x → S x = false) : cnt (wd S 0).testBit 64 = cnt S n := by
  rw [← els_len, els_wd S n hn h, els_len]

theorem bit_test (m j : Nat) (hm : m < 18446744073709551616) : (bits BinOp.and IntKind.u64 ((m / 2 ^ j : Nat) : Int) 1 == 1) = m.testBit j := by
  have hle : m / 2 ^ j ≤ m := Nat.div_le_self _ _
  rw [Nat.testBit_eq_decide_div_mod_eq]
  generalize m / 2 ^ j = d at *
  rw [and_one_u64 _ (by omega) (by omega), Bool.eq_iff_iff]
  simp
  omega
theorem high_none (v j : Nat) (h : v / 2 ^ j = 0) : ∀ i, j ≤ i → v.testBit i = false := by
  intro i hi
  have h1 : v < 2 ^ j := by
    rcases Nat.lt_or_ge v (2 ^ j) with h' | h'
    · exact h'
    · have := (Nat.div_pos_iff).2 ⟨Nat.two_pow_pos j, h'⟩
      omega
  exact Nat.testBit_lt_two_pow (Nat.lt_of_lt_of_le h1 (Nat.pow_le_pow_right (by decide) hi))

set_option maxHeartbeats 1000000 in
theorem list_any (v : Nat) (w : World) (hv : v < 18446744073709551616) :
    Calls Tryd.prog 48 #[.int .u64 v] w fun e w' => ∃ r, e = .returned r ∧
      w'.ownsRow w.heap.size 3 1 r (cnt v.testBit 64) ((els v.testBit 64).map (Value.int .i64)) ∧ Below w.heap.size w w' := by
  obtain ⟨i0, hi, hz0, hz1, hz2⟩ := info_parts Tryd.info3
  have HV : Hid (v < 18446744073709551616) := hv
  clear hv
  go_enter Tryd.func48, Tryd.ntmps48
  go_wp2_with fail
  go_loopw [3, 4] (fun l k wr => ∃ j : Nat, j ≤ 64 ∧ k = .int .i64 j ∧ wr.ownsRow w.heap.size 3 1 l (cnt v.testBit j) ((els v.testBit j).map (Value.int .i64)) ∧ Below w.heap.size w wr) (fun _ k _ => 64 - (intOf k).toNat)
  case atStart => exact ⟨0, by omega, rfl, World.ownsRow_nil _ _ _ _, Below.refl _ _⟩
  case round =>
    obtain ⟨j, hj, rfl, hown, hB⟩ := hrel
    have hq : (v : Int) / 2 ^ j = ((v / 2 ^ j : Nat) : Int) := by simp
    have hbt := bit_test v j HV.out
    have HH : Hid (v / 2 ^ j = 0 → ∀ i, j ≤ i → v.testBit i = false) := high_none v j
    have hcm := cnt_le v.testBit j
    by_cases hz : v / 2 ^ j = 0
    · have HN : Hid (els v.testBit 64 = els v.testBit j ∧ cnt v.testBit 64 = cnt v.testBit j) := by
        obtain ⟨d, hd⟩ := Nat.le.dest hj
        have e : els v.testBit 64 = els v.testBit j := by rw [← hd]; exact els_none _ _ _ fun y h1 _ => HH.out hz y h1
        exact ⟨e, by rw [← els_len, e, els_len]⟩
      rw [hz] at hq
      clear hbt HH hz
      go_wp2_with fail
      go_ret
      exact ⟨_, rfl, by rw [HN.out.1, HN.out.2]; exact hown, hB⟩
    · have hj64 : j < 64 := by
        rcases Nat.lt_or_ge j 64 with h | h
        · exact h
        · have : v / 2 ^ j = 0 := by
            have e : j = 64 := by omega
            subst e
            exact Nat.div_eq_of_lt HV.out
          exact absurd this hz
      have hne : (((v / 2 ^ j : Nat) : Int) != 0) = true := by rw [bne_iff_ne]; omega
      clear HH hz
      generalize v / 2 ^ j = d at *
      cases hb : v.testBit j
      · rw [hb] at hbt
        have HE : Hid (els v.testBit (j + 1) = els v.testBit j ∧ cnt v.testBit (j + 1) = cnt v.testBit j) := by
          have e : els v.testBit (j + 1) = els v.testBit j := by show els v.testBit j ++ (if v.testBit j then [(j : Int)] else []) = _; rw [hb]; simp
          exact ⟨e, by rw [← els_len, e, els_len]⟩
        clear hb
        go_wp2_with fail
        go_roundw
        case rel => exact ⟨j + 1, by omega, by go_num, by rw [HE.out.1, HE.out.2]; exact hown, hB⟩
        case measure => simp [intOf]; omega
      · rw [hb] at hbt
        have HE : Hid (els v.testBit (j + 1) = els v.testBit j ++ [(j : Int)] ∧ cnt v.testBit (j + 1) = cnt v.testBit j + 1) := by
          have e : els v.testBit (j + 1) = els v.testBit j ++ [(j : Int)] := by show els v.testBit j ++ (if v.testBit j then [(j : Int)] else []) = _; rw [hb]; simp
          exact ⟨e, by rw [← els_len, e, List.length_append, els_len]; rfl⟩
        clear hb
        go_wp2_with (at_builtin; refine wpList_append_own _ rfl _ _ 22 rfl w.heap.size 3 i0 (.int .i64 0) 1 8 Tryd.underlying22 hi hz0 hz1 hz2 rfl (by decide) _ _ _ rfl (hown.alloc _) ⟨wr.heap.size, 0, none⟩ 1 1 [.int .i64 (j : Int)] rfl rfl ?c1 ?c2 ?c3 ?c4 ?c5 ?_)
        case c1 =>
          intro j u hj
          match j, hj with
          | 0, hj => simp at hj; subst hj; simp [Addr.add]
        case c2 => intro u hu; simp at hu; subst hu; rfl
        case c3 => unfold maxLen; omega
        case c4 => omega
        case c5 => have := hB.size; simp; omega
        · intro v' w1 hown' hgrow _
          have hBa : Below w.heap.size w (wr.alloc (.cells #[.int .i64 (j : Int)] 3)) := hB.alloc hB.size _
          have hB1 : Below w.heap.size w w1 := hBa.grown hgrow hBa.size (fun k hk => (hown.lt k hk).1)
          clear hBa hgrow hown hB
          go_wp2_with fail
          go_roundw
          case rel => exact ⟨j + 1, by omega, by go_num, by rw [HE.out.1, HE.out.2, List.map_append]; exact hown', hB1⟩
          case measure => simp [intOf]; omega

theorem list_is (v : Nat) (S : Nat → Bool) (n : Nat) (w : World) (hn : n ≤ 64) (hS : ∀ x, n ≤ x → S x = false) (h : Hid (wd S 0 = v)) :
    Calls Tryd.prog 48 #[.int .u64 v] w fun e w' => ∃ r, e = .returned r ∧
      w'.ownsRow w.heap.size 3 1 r (cnt S n) ((els S n).map (Value.int .i64)) ∧ Below w.heap.size w w' := by
  have h1 := list_any v w (by rw [← h.out]; exact wd_lt _ _)
  rw [← h.out, els_wd S n hn hS, cnt_wd0 S n hn hS] at h1
  rw [← h.out]
  exact h1

theorem But.of_below {k : Nat} {w w' : World} (h : Below w.heap.size w w') : But k w w' := ⟨h.os, h.tape, h.output, h.size, fun i hi _ => h.block i hi⟩

set_option maxHeartbeats 400000 in
theorem all_nil (w : World) :
    Calls Tryd.prog 31 #[.pointer none] w fun e w' => e = .returned (.slice none 0 0) ∧ w' = w := by
  go_enter Tryd.func31, Tryd.ntmps31
  go_wp2
  go_ret
  exact ⟨rfl, rfl⟩
set_option maxHeartbeats 400000 in
theorem all_any (w : World) {b : Nat} {c : Int} {n : Nat} {U M : Nat → Bool} (h : PgAt w b c n U M) :
    Calls Tryd.prog 31 #[.pointer (some ⟨b, 0, none⟩)] w fun e w' => ∃ r, e = .returned r ∧
      w'.ownsRow w.heap.size 3 1 r (cnt U n) ((els U n).map (Value.int .i64)) ∧ Below w.heap.size w w' := by
  have hc := h.c1
  obtain ⟨u, hu⟩ : ∃ u, u = wd U 0 := ⟨_, rfl⟩
  rw [← hu] at hc
  have HU : Hid (wd U 0 = u) := hu.symm
  have HN : Hid (n ≤ 64 ∧ ∀ x, n ≤ x → U x = false) := ⟨by have := h.n32; omega, h.out⟩
  clear h hu
  go_enter Tryd.func31, Tryd.ntmps31
  go_wp2_with fail
  refine (list_is u U n _ HN.out.1 HN.out.2 HU).mono ?_
  rintro e w' ⟨r, rfl, h1, h2⟩
  go_wp2_with fail
  go_ret
  exact ⟨r, rfl, h1, h2⟩

set_option maxHeartbeats 400000 in
theorem count_nil (w : World) :
    Calls Tryd.prog 52 #[.pointer none] w fun e w' => e = .returned (.tuple #[.int .i64 0, .int .i64 0]) ∧ w' = w := by
  go_enter Tryd.func52, Tryd.ntmps52
  go_wp2
  go_ret2
  exact ⟨rfl, rfl⟩
theorem ones_is {x r : Nat} (w : World) (hx : Hid (x < 18446744073709551616)) (hr : Hid (cnt x.testBit 64 = r)) :
    Calls Tryd.prog 60 #[.int .u64 x] w fun e w' => e = .returned (.int .i64 (r : Nat)) ∧ w' = w := by
  rw [← hr.out]; exact ones_any x hx.out w
set_option maxHeartbeats 400000 in
theorem count_any (w : World) {b : Nat} {c : Int} {n : Nat} {U M : Nat → Bool} (h : PgAt w b c n U M) :
    Calls Tryd.prog 52 #[.pointer (some ⟨b, 0, none⟩)] w fun e w' => e = .returned (.tuple #[.int .i64 n, .int .i64 (cnt U n : Nat)]) ∧ ∃ q, w' = w.drewN q := by
  have hc := h.c1
  have HX : Hid (wd U 0 < 18446744073709551616) := wd_lt _ _
  have HR : Hid (cnt (wd U 0).testBit 64 = cnt U n) := cnt_wd0 U n (by have := h.n32; omega) h.out
  have HP : Hid (PgAt w b c n U M) := h
  clear h
  generalize wd U 0 = u at *
  generalize cnt U n = r at *
  go_enter Tryd.func52, Tryd.ntmps52
  go_wp2_with fail
  go_quiet (first
    | (go_at_call 56; exact Calls.quiet_of_same (pslots_any _ (HP.out.drewN _)))
    | (go_at_call 60; exact Calls.quiet_of_same (ones_is _ HX HR)))
  go_wp2
  go_ret2
  exact ⟨rfl, _, rfl⟩

theorem PgAt.setU {w : World} {b : Nat} {c : Int} {n : Nat} {U M : Nat → Bool} (h : PgAt w b c n U M) {U' : Nat → Bool} (ho : ∀ x, n ≤ x → U' x = false) (hs : ∀ x, M x = true → U' x = true) (x : Nat) (hx : x = wd U' 0) :
    PgAt (w.setCell ⟨b, 1, none⟩ (.int .u64 x)) b c n U' M :=
  ⟨(h.hd.set 1 _).congr fun i _ => by
    by_cases e : i = 1
    · subst e; rw [if_pos rfl, hx]; rfl
    · rw [if_neg e]; simp [pgC, e], h.lo, h.hi, h.sl, ho, hs⟩
theorem PgAt.setM {w : World} {b : Nat} {c : Int} {n : Nat} {U M : Nat → Bool} (h : PgAt w b c n U M) {M' : Nat → Bool} (hs : ∀ x, M' x = true → U x = true) (x : Nat) (hx : x = wd M' 0) :
    PgAt (w.setCell ⟨b, 2, none⟩ (.int .u64 x)) b c n U M' :=
  ⟨(h.hd.set 2 _).congr fun i hi => by
    by_cases e : i = 2
    · subst e; rw [if_pos rfl, hx]; rfl
    · rw [if_neg e]
      have : i = 0 ∨ i = 1 := by omega
      rcases this with rfl | rfl <;> rfl, h.lo, h.hi, h.sl, h.out, hs⟩

/-- What is used and not marked. -/
def goneS (U M : Nat → Bool) (x : Nat) : Bool := U x && !M x

end Go.Proofs.YtfkimmbnmcgjiaaDoor

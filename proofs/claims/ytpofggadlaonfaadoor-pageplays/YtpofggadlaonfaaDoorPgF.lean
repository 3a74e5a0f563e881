/- The walk of the law PageFull. -/
import Derived.Test.YtpofggadlaonfaaDoorPgE
namespace Go.Proofs.YtpofggadlaonfaaDoor
open Go.RowKit

/-- The first i slots. -/
def firsts (i x : Nat) : Bool := decide (x < i)
theorem firsts_zero : firsts 0 = fun _ => false := by funext x; simp [firsts]
theorem firsts_up (i : Nat) : up (firsts i) i true = firsts (i + 1) := by
  funext x
  by_cases e : x = i
  · subst e; simp [up, firsts]
  · have : decide (x < i + 1) = decide (x < i) := by rw [decide_eq_decide]; omega
    simp [up, e, firsts, this]

theorem rem_ok (k : Int) (n : Nat) (h : 2 ≤ n) (h32 : n ≤ 32) : ∃ kk : Nat, kk < n ∧ (wrap64 (k.tmod (n : Int) + (n : Int))).tmod (n : Int) = (kk : Int) := by
  have h1 := Int.tmod_lt_of_pos k (b := (n : Int)) (by omega)
  have h2 := Int.lt_tmod_of_pos k (b := (n : Int)) (by omega)
  generalize k.tmod (n : Int) = r at *
  obtain ⟨x, hx⟩ := Int.eq_ofNat_of_zero_le (a := r + (n : Int)) (by omega)
  rw [hx, wrap64_nat x (by omega)]
  refine ⟨x % n, Nat.mod_lt _ (by omega), ?_⟩
  rw [Int.tmod_eq_emod_of_nonneg (by omega)]
  omega

theorem Tab.bel {w w' : World} (h : Tab w) (hb : Below w.heap.size w w') : Tab w' := h.below hb h.size

set_option maxRecDepth 100000 in
set_option maxHeartbeats 1000000 in
theorem full_none (c k : Int) (w : World) (hT : Tab w) (h : c < 0 ∨ 7 < c) :
    Calls Tryd.prog 5 #[.int .i64 c, .int .i64 k] w fun e w' => e = .returned (.bool true) ∧ Below w.heap.size w w' := by
  have HT : Hid (Tab w) := hT
  have HZ : Hid (szN c = 0) := none_sz h
  clear hT h
  go_enter Tryd.func5, Tryd.ntmps5
  go_wp2_with fail
  refine (refSize_any' HZ.out _).mono ?_
  rintro e w1 ⟨rfl, hB⟩
  go_wp2_with fail
  refine (alive_any _ (HT.out.bel hB)).mono ?_
  rintro e w2 ⟨rfl, hB2⟩
  go_wp2_with fail
  go_ret
  exact ⟨rfl, hB.trans (hB2.mono hB.size)⟩

set_option maxRecDepth 100000 in
set_option maxHeartbeats 1000000 in
theorem full_some (c k : Int) (w : World) (hT : Tab w) (h0 : 0 ≤ c) (h7 : c ≤ 7) :
    Calls Tryd.prog 5 #[.int .i64 c, .int .i64 k] w fun e w' => e = .returned (.bool true) ∧ Below w.heap.size w w' := by
  have HT : Hid (Tab w) := hT
  have hz := sz_sl h0 h7
  obtain ⟨s, hs⟩ : ∃ s, s = szN c := ⟨_, rfl⟩
  have HZ : Hid (szN c = s) := hs.symm
  rw [← hs] at hz
  have hs0 : (s == 0) = false := by rw [beq_eq_false_iff_ne]; exact hz.1
  obtain ⟨n, hn⟩ : ∃ n : Nat, (n : Int) = slN c := ⟨(slN c).toNat, by omega⟩
  have hq : 32 / s = (n : Int) := by rw [hn]; exact hz.2.2.1.symm
  have hsp : 1 ≤ s := hz.2.1
  have hn2 : 2 ≤ n := by omega
  have hn32 : n ≤ 32 := by have := slN_le c; omega
  have HN : Hid ((slN c).toNat = n) := by show (slN c).toNat = n; omega
  have HC : Hid (0 ≤ c ∧ c ≤ 7) := ⟨h0, h7⟩
  clear hT hz hs hn h0 h7
  go_enter Tryd.func5, Tryd.ntmps5
  go_wp2_with fail
  refine (refSize_any' HZ.out _).mono ?_
  rintro e w1 ⟨rfl, hB⟩
  have HB1 : Hid (Below w.heap.size w w1) := hB
  clear hB
  go_wp2_with fail
  refine (alive_any _ (HT.out.bel HB1.out)).mono ?_
  rintro e w2 ⟨rfl, hB⟩
  have HB2 : Hid (Below w.heap.size w w2) := HB1.out.trans (hB.mono HB1.out.size)
  clear hB HB1
  go_wp2_with fail
  refine (new_any c _ HC.out.1 HC.out.2).mono ?_
  rintro e w3 ⟨b, hb, rfl, hp, hB⟩
  rw [HN.out] at hp
  have H3 : Hid (PS w w3 b c n (fun _ => false) (fun _ => false)) := ⟨hp, HB2.out.trans (hB.mono HB2.out.size), Nat.le_trans HB2.out.size hb, HT.out⟩
  clear hp hB hb HB2 HN HT
  go_wp2_with fail
  refine (refSize_any' HZ.out _).mono ?_
  rintro e w4 ⟨rfl, hB⟩
  have H4 : Hid (PS w w4 b c n (fun _ => false) (fun _ => false)) := H3.out.below hB
  clear hB H3
  go_wp2_with fail
  simp only [hq]
  clear hq
  go_loopw [8] (fun i wr => ∃ j : Nat, j ≤ n ∧ i = .int .i64 j ∧ PS w wr b c n (firsts j) (fun _ => false)) (fun i _ => n - (intOf i).toNat)
  case atStart => exact ⟨0, Nat.zero_le _, rfl, by rw [firsts_zero]; exact H4.out⟩
  case round =>
    obtain ⟨j, hj, rfl, hps⟩ := hrel
    have HP : Hid (PS w wr b c n (firsts j) (fun _ => false)) := hps
    clear hps H4
    by_cases hlt : j < n
    · have hjI : (j : Int) < (n : Int) := by omega
      go_wp2_with fail
      refine (take_some _ j HP.out.pg HP.out.tb hlt (by simp [firsts]) (fun y hy => by simp [firsts, hy])).mono ?_
      rintro e w5 ⟨rfl, hp, hB⟩
      rw [firsts_up] at hp
      have H5 : Hid (PS w w5 b c n (firsts (j + 1)) (fun _ => false)) := HP.out.but hB hp
      clear hp hB HP
      go_wp2_with fail
      go_roundw
      case rel => exact ⟨j + 1, by omega, by go_num, H5.out⟩
      case measure => simp [intOf]; omega
    · have e : j = n := by omega
      subst e
      clear hlt hj
      obtain ⟨kk, hkk, hrem⟩ := rem_ok k j hn2 hn32
      have hkI : (kk : Int) < (j : Int) := by omega
      go_wp2_with fail
      refine (take_none _ HP.out.pg (fun x hx => by simp [firsts, hx])).mono ?_
      rintro e w5 ⟨rfl, q, rfl⟩
      go_wp2_with fail
      have HP1 := HP.out.drewN q
      refine (free_yes kk _ HP1.pg hkk (by simp [firsts, hkk])).mono ?_
      rintro e w6 ⟨rfl, hp, hB⟩
      have H6 : Hid (PS w w6 b c j (up (firsts j) kk false) (up (fun _ => false) kk false)) := HP1.but hB hp
      have HU : Hid (hasB j (up (firsts j) kk false) (kk : Int) = false) := has_nat _ _ _ _ hkk (by simp [up])
      clear hp hB HP1 HP
      go_wp2_with fail
      refine (free_no _ _ H6.out.pg HU.out).mono ?_
      rintro e w7 ⟨rfl, q2, rfl⟩
      go_wp2_with fail
      refine (used_is _ false _ (H6.out.pg.drewN _) HU.out).mono ?_
      rintro e w7 ⟨rfl, q3, rfl⟩
      go_wp2_with fail
      have H7 := H6.out.drewN (q2 + q3)
      refine (take_some _ kk H7.pg H7.tb hkk (by simp [up]) (fun y hy => by
        have : y ≠ kk := by omega
        simp [up, this, firsts]; omega)).mono ?_
      rintro e w8 ⟨rfl, hp, hB⟩
      have H8 : Hid (PS w w8 b c j (up (up (firsts j) kk false) kk true) (up (fun _ => false) kk false)) := H7.but hB hp
      have HM : Hid (hasB j (up (fun _ => false) kk false) (kk : Int) = false) := has_nat _ _ _ _ hkk (by simp [up])
      clear hp hB H7 H6 HU
      go_wp2_with fail
      refine (marked_is _ false _ H8.out.pg HM.out).mono ?_
      rintro e w9 ⟨rfl, q4, rfl⟩
      go_wp2_with fail
      go_ret
      exact ⟨rfl, below_drewN H8.out.lo _⟩

theorem full_any (c k : Int) (w : World) (hT : Tab w) :
    Calls Tryd.prog 5 #[.int .i64 c, .int .i64 k] w fun e w' => e = .returned (.bool true) ∧ Below w.heap.size w w' := by
  by_cases h : c < 0 ∨ 7 < c
  · exact full_none c k w hT h
  · exact full_some c k w hT (by omega) (by omega)

end Go.Proofs.YtpofggadlaonfaaDoor

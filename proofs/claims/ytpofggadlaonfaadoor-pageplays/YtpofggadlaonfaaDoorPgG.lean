/- The walk of the law PageSweeps. -/
import Derived.Test.YtpofggadlaonfaaDoorPgF
namespace Go.Proofs.YtpofggadlaonfaaDoor
open Go.RowKit

theorem cnt_up (M : Nat → Bool) (x : Nat) (hM : M x = false) : ∀ N, x < N → cnt (up M x true) N = cnt M N + 1
  | 0, h => by omega
  | N + 1, h => by
    show cnt (up M x true) N + (if up M x true N then 1 else 0) = cnt M N + (if M N then 1 else 0) + 1
    by_cases e : x = N
    · subst e
      rw [cnt_congr (up M x true) M x (fun i hi => by have : i ≠ x := by omega
                                                      simp [up, this]), hM]
      simp [up]
    · rw [cnt_up M x hM N (by omega)]
      have : N ≠ x := fun h => e h.symm
      simp [up, this]
      omega
theorem cnt_gone (U M : Nat → Bool) (h : ∀ x, M x = true → U x = true) : ∀ N, cnt (goneS U M) N + cnt M N = cnt U N
  | 0 => rfl
  | N + 1 => by
    show cnt (goneS U M) N + (if goneS U M N then 1 else 0) + (cnt M N + if M N then 1 else 0) = cnt U N + if U N then 1 else 0
    have := cnt_gone U M h N
    cases hM : M N
    · cases hU : U N <;> simp [goneS, hM, hU] <;> omega
    · simp [goneS, hM, h N hM]; omega
theorem cnt_firsts (N : Nat) : cnt (firsts N) N = N := by
  have : ∀ m, m ≤ N → cnt (firsts N) m = m := by
    intro m
    induction m with
    | zero => intro _; rfl
    | succ m ih =>
      intro h
      show cnt (firsts N) m + (if firsts N m then 1 else 0) = m + 1
      rw [ih (by omega)]
      have : m < N := by omega
      simp [firsts, this]
  exact this N (Nat.le_refl _)
theorem up_same (M : Nat → Bool) (x : Nat) (v : Bool) (h : M x = v) : up M x v = M := by
  funext y
  by_cases e : y = x
  · subst e; simp [up, h]
  · simp [up, e]

set_option maxRecDepth 100000 in
set_option maxHeartbeats 1000000 in
theorem sweeps_none (c : Int) (m : Nat) (a : Option Addr) (cp : Nat) (w : World) (hT : Tab w) (h : c < 0 ∨ 7 < c) :
    Calls Tryd.prog 4 #[.int .i64 c, .slice a m cp] w fun e w' => e = .returned (.bool true) ∧ Below w.heap.size w w' := by
  have HT : Hid (Tab w) := hT
  have HZ : Hid (szN c = 0) := none_sz h
  clear hT h
  go_enter Tryd.func4, Tryd.ntmps4
  go_wp2_with fail
  refine (refSize_any' HZ.out _).mono ?_
  rintro e w1 ⟨rfl, hB⟩
  go_wp2_with fail
  refine (alive_any _ (HT.out.bel hB)).mono ?_
  rintro e w2 ⟨rfl, hB2⟩
  go_wp2_with fail
  go_ret
  exact ⟨rfl, hB.trans (hB2.mono hB.size)⟩

set_option maxRecDepth 100000 in
set_option maxHeartbeats 1000000 in
theorem sweeps_long (c : Int) (m : Nat) (a : Option Addr) (cp : Nat) (w : World) (hT : Tab w) (h0 : 0 ≤ c) (h7 : c ≤ 7) (hm : 60 < m) (hm2 : m ≤ 9223372036854775807) :
    Calls Tryd.prog 4 #[.int .i64 c, .slice a m cp] w fun e w' => e = .returned (.bool true) ∧ Below w.heap.size w w' := by
  have HT : Hid (Tab w) := hT
  obtain ⟨s, hs⟩ : ∃ s, s = szN c := ⟨_, rfl⟩
  have HZ : Hid (szN c = s) := hs.symm
  have hs0 : (s == 0) = false := by rw [beq_eq_false_iff_ne, hs]; exact (sz_sl h0 h7).1
  clear hT h0 h7 hs
  go_enter Tryd.func4, Tryd.ntmps4
  go_wp2_with fail
  refine (refSize_any' HZ.out _).mono ?_
  rintro e w1 ⟨rfl, hB⟩
  go_wp2_with fail
  refine (alive_any _ (HT.out.bel hB)).mono ?_
  rintro e w2 ⟨rfl, hB2⟩
  go_wp2_with fail
  go_ret
  exact ⟨rfl, hB.trans (hB2.mono hB.size)⟩

set_option maxRecDepth 100000 in
set_option maxHeartbeats 2000000 in
theorem sweeps_some (c : Int) (L : List Int) (a : Option Addr) (cp : Nat) (w : World) (hT : Tab w) (h0 : 0 ≤ c) (h7 : c ≤ 7) (hL : L.length ≤ 60) (hS : SrcAt w (.slice a L.length cp) L) :
    Calls Tryd.prog 4 #[.int .i64 c, .slice a L.length cp] w fun e w' => e = .returned (.bool true) ∧ Below w.heap.size w w' := by
  have HT : Hid (Tab w) := hT
  have HSrc : Hid (SrcAt w (.slice a L.length cp) L) := hS
  have hz := sz_sl h0 h7
  obtain ⟨s, hs⟩ : ∃ s, s = szN c := ⟨_, rfl⟩
  have HZ : Hid (szN c = s) := hs.symm
  rw [← hs] at hz
  have hs0 : (s == 0) = false := by rw [beq_eq_false_iff_ne]; exact hz.1
  obtain ⟨n, hn⟩ : ∃ n : Nat, (n : Int) = slN c := ⟨(slN c).toNat, by omega⟩
  have hq : 32 / s = (n : Int) := by rw [hn]; exact hz.2.2.1.symm
  have HQ : Hid (32 / s = (n : Int)) := hq
  have hsp : 1 ≤ s := hz.2.1
  have hn2 : 2 ≤ n := by omega
  have hn32 : n ≤ 32 := by have := slN_le c; omega
  have HN : Hid ((slN c).toNat = n) := by show (slN c).toNat = n; omega
  have HC : Hid (0 ≤ c ∧ c ≤ 7) := ⟨h0, h7⟩
  clear hT hz hs hn h0 h7 hS hq
  obtain ⟨m, hm⟩ : ∃ m, m = L.length := ⟨_, rfl⟩
  have HL : Hid (m = L.length) := hm
  rw [← hm] at HSrc hL ⊢
  clear hm
  go_enter Tryd.func4, Tryd.ntmps4
  go_wp2_with fail
  refine (refSize_any' HZ.out _).mono ?_
  rintro e w1 ⟨rfl, hB⟩
  have HB1 : Hid (Below w.heap.size w w1) := hB
  clear hB
  go_wp2_with fail
  refine (alive_any _ (HT.out.bel HB1.out)).mono ?_
  rintro e w2 ⟨rfl, hB⟩
  have HB2 : Hid (Below w.heap.size w w2) := HB1.out.trans (hB.mono HB1.out.size)
  clear hB HB1
  go_wp2_with fail
  refine (new_any c _ HC.out.1 HC.out.2).mono ?_
  rintro e w3 ⟨b, hb, rfl, hp, hB⟩
  rw [HN.out] at hp
  have H3 : Hid (PS w w3 b c n (firsts 0) (fun _ => false)) := by rw [firsts_zero]; exact ⟨hp, HB2.out.trans (hB.mono HB2.out.size), Nat.le_trans HB2.out.size hb, HT.out⟩
  clear hp hB hb HB2 HN HT
  go_wp2_with fail
  go_loopw [7, 8] (fun t i wr => ∃ j k : Nat, j ≤ 40 ∧ k ≤ n ∧ (k = j ∨ k = n) ∧ i = .int .i64 j ∧ t = .int .i64 k ∧ PS w wr b c n (firsts k) (fun _ => false)) (fun _ i _ => 40 - (intOf i).toNat)
  case atStart => exact ⟨0, 0, by omega, by omega, Or.inl rfl, rfl, rfl, H3.out⟩
  case round =>
    obtain ⟨j, k, hj, hk, hjk, rfl, rfl, hps⟩ := hrel
    have HP : Hid (PS w wr b c n (firsts k) (fun _ => false)) := hps
    have HJK : Hid (k = j ∨ k = n) := hjk
    clear hps H3 hjk
    by_cases hlt : j < 40
    · by_cases hkn : k < n
      · go_wp2_with fail
        refine (take_some _ k HP.out.pg HP.out.tb hkn (by simp [firsts]) (fun y hy => by simp [firsts, hy])).mono ?_
        rintro e w5 ⟨rfl, hp, hB⟩
        rw [firsts_up] at hp
        have H5 : Hid (PS w w5 b c n (firsts (k + 1)) (fun _ => false)) := HP.out.but hB hp
        clear hp hB HP
        go_wp2_with fail
        go_roundw
        case rel => exact ⟨j + 1, k + 1, by omega, by omega, by have := HJK.out; omega, by go_num, by go_num, H5.out⟩
        case measure => simp [intOf]; omega
      · go_wp2_with fail
        refine (take_none _ HP.out.pg (fun x hx => by simp [firsts]; omega)).mono ?_
        rintro e w5 ⟨rfl, q, rfl⟩
        go_wp2_with fail
        go_roundw
        case rel => exact ⟨j + 1, k, by omega, by omega, by omega, by go_num, rfl, HP.out.drewN _⟩
        case measure => simp [intOf]; omega
    · have e : k = n := by have := HJK.out; omega
      subst e
      clear HJK hk
      go_wp2_with fail
      go_loopw [11, 12] (fun t i wr => ∃ (j : Nat) (M : Nat → Bool), j ≤ m ∧ i = .int .i64 j ∧ t = .int .i64 (cnt M k : Nat) ∧ PS w wr b c k (firsts k) M) (fun _ i _ => m - (intOf i).toNat)
      case atStart => exact ⟨0, fun _ => false, Nat.zero_le _, rfl, by rw [cnt_none _ _ (fun _ _ => rfl)]; rfl, HP.out⟩
      case round =>
        obtain ⟨j2, M, hj2, rfl, rfl, hps⟩ := hrel
        have HM : Hid (PS w wr b c k (firsts k) M) := hps
        have hcm := cnt_le M k
        clear hps HP
        by_cases hl2 : j2 < m
        · obtain ⟨bs, os, cs, es, hbs, hcs⟩ : ∃ bs os cs, Value.slice a m cp = .slice (some ⟨bs, os, none⟩) m cs ∧ bs < w.heap.size ∧ ∀ j, j < m → w.cell? ⟨bs, os + j, none⟩ = some (.int .i64 (L.getD j 0)) := by
            have hh := HSrc.out
            have hl := HL.out
            rw [hl] at hh hl2 ⊢
            rcases hh with ⟨h, _⟩ | h
            · rw [h] at hl2; simp at hl2
            · exact h
          simp only [Value.slice.injEq, true_and] at es
          obtain ⟨rfl, rfl⟩ := es
          have hx : wr.cell? ⟨bs, os + j2, none⟩ = some (.int .i64 (L.getD j2 0)) := (HM.out.lo.cell (p := ⟨bs, os + j2, none⟩) hbs).trans (hcs j2 hl2)
          have hl2I : (j2 : Int) < (m : Int) := by omega
          clear hcs hbs HSrc
          generalize L.getD j2 0 = x at *
          by_cases hmay : mayB k x = true
          · have hxx := (may_spec k x).1 hmay
            obtain ⟨y, rfl⟩ := Int.eq_ofNat_of_zero_le hxx.1
            have hy : y < k := by omega
            have HU : Hid (hasB k (firsts k) (y : Int) = true) := has_nat _ _ _ _ hy (by simp [firsts, hy])
            clear hmay hxx
            cases hMy : M y
            · have HCt : Hid (cnt (up M y true) k = cnt M k + 1) := cnt_up M y hMy k hy
              go_wp2_with fail
              refine (mark_yes y _ HM.out.pg hy (by simp [firsts, hy]) hMy).mono ?_
              rintro e w6 ⟨rfl, hp, hB⟩
              have H6 : Hid (PS w w6 b c k (firsts k) (up M y true)) := HM.out.but hB hp
              clear hp hB HM hMy
              generalize cnt M k = c0 at *
              go_wp2_with fail
              go_roundw
              case rel => exact ⟨j2 + 1, up M y true, by omega, by go_num, by rw [HCt.out]; go_num, H6.out⟩
              case measure => simp [intOf]; omega
            · go_wp2_with fail
              refine (mark_again _ _ HM.out.pg HU.out (has_nat _ _ _ _ hy hMy)).mono ?_
              rintro e w6 ⟨rfl, q, rfl⟩
              go_wp2_with fail
              go_roundw
              case rel => exact ⟨j2 + 1, M, by omega, by go_num, rfl, HM.out.drewN _⟩
              case measure => simp [intOf]; omega
          · have hno : hasB k (firsts k) x = false := by
              have : mayB k x = false := by simpa using hmay
              simp [hasB, this]
            have HNo : Hid (hasB k (firsts k) x = false) := hno
            clear hno hmay
            go_wp2_with fail
            refine (mark_no _ _ HM.out.pg HNo.out).mono ?_
            rintro e w6 ⟨rfl, q, rfl⟩
            go_wp2_with fail
            go_roundw
            case rel => exact ⟨j2 + 1, M, by omega, by go_num, rfl, HM.out.drewN _⟩
            case measure => simp [intOf]; omega
        · clear HSrc
          have hg1 := cnt_gone (firsts k) M HM.out.pg.sub k
          rw [cnt_firsts] at hg1
          have hg2 : cnt (goneS M (fun _ => false)) k = cnt M k := cnt_congr _ _ k (fun i _ => by simp [goneS])
          have hg3 : cnt (fun _ => false) k = 0 := cnt_none _ _ (fun _ _ => rfl)
          have HG : Hid (cnt (goneS (firsts k) M) k + cnt M k = k ∧ cnt (goneS M (fun _ => false)) k = cnt M k ∧ cnt (fun _ => false) k = 0) := ⟨hg1, hg2, hg3⟩
          clear hg1 hg2 hg3
          go_wp2_with fail
          refine (sweep_any _ HM.out.pg).mono ?_
          rintro e w6 ⟨r, rfl, ho, hp, hB⟩
          obtain ⟨a1, c1, rfl⟩ := own_len ho
          have H6 : Hid (PS w w6 b c k M (fun _ => false)) := HM.out.but hB hp
          clear hp hB HM ho
          go_wp2_with fail
          refine (count_any _ H6.out.pg).mono ?_
          rintro e w7 ⟨rfl, q7, rfl⟩
          go_wp2_with fail
          refine (sweep_any _ (H6.out.pg.drewN _)).mono ?_
          rintro e w8 ⟨r2, rfl, ho, hp, hB⟩
          obtain ⟨a2, c2, rfl⟩ := own_len ho
          have H8 : Hid (PS w w8 b c k (fun _ => false) (fun _ => false)) := (H6.out.drewN _).but hB hp
          clear hp hB H6 ho
          rw [HG.out.2.1]
          go_wp2_with fail
          refine (count_any _ H8.out.pg).mono ?_
          rintro e w9 ⟨rfl, q9, rfl⟩
          rw [HG.out.2.2]
          have hsum := HG.out.1
          clear HG
          generalize cnt (goneS (firsts k) M) k = g1 at *
          generalize cnt M k = g2 at *
          have he1 : ((g1 : Int) == (k : Int) - (g2 : Int)) = true := by rw [beq_iff_eq]; omega
          go_wp2_with fail
          refine (refSize_any' HZ.out _).mono ?_
          rintro e w10 ⟨rfl, hB⟩
          have HF : Hid (Below w.heap.size w w10) := (H8.out.drewN q9).lo.trans (hB.mono (H8.out.drewN q9).lo.size)
          have hq := HQ.out
          clear hB
          go_wp2_with fail
          go_ret
          exact ⟨rfl, HF.out⟩

theorem sweeps_any (c : Int) (L : List Int) (a : Option Addr) (cp : Nat) (w : World) (hT : Tab w) (hl : L.length ≤ maxLen) (hS : SrcAt w (.slice a L.length cp) L) :
    Calls Tryd.prog 4 #[.int .i64 c, .slice a L.length cp] w fun e w' => e = .returned (.bool true) ∧ Below w.heap.size w w' := by
  unfold maxLen at hl
  by_cases h : c < 0 ∨ 7 < c
  · exact sweeps_none c _ a cp w hT h
  · by_cases h2 : 60 < L.length
    · exact sweeps_long c _ a cp w hT (by omega) (by omega) h2 (by omega)
    · exact sweeps_some c L a cp w hT (by omega) (by omega) (by omega) hS

end Go.Proofs.YtpofggadlaonfaaDoor

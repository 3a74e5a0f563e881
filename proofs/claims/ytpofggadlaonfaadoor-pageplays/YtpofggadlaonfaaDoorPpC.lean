/- PagePlays: the cases that need no round. -/
import Derived.Test.YtpofggadlaonfaaDoorPpB
import Derived.Test.YtpofggadlaonfaaDoorOa
namespace Go.Proofs.YtpofggadlaonfaaDoor
open Go.RowKit

set_option maxRecDepth 100000 in
set_option maxHeartbeats 1000000 in
theorem plays_long (c : Int) (m : Nat) (a : Option Addr) (cp : Nat) (ask : Int) (w : World) (hT : Tab w) (hm : m ≤ 9223372036854775807) (h1 : 150 < m) :
    Calls Tryd.prog 3 #[.int .i64 c, .slice a m cp, .int .i64 ask] w fun e w' => e = .returned (.bool true) ∧ Below w.heap.size w w' := by
  have HT : Hid (Tab w) := hT
  clear hT
  go_enter Tryd.func3, Tryd.ntmps3
  go_wp2_with fail
  refine (alive_any _ HT.out).mono ?_
  rintro e w1 ⟨rfl, hB1⟩
  go_wp2_with fail
  go_ret
  exact ⟨rfl, hB1⟩

set_option maxRecDepth 100000 in
set_option maxHeartbeats 1000000 in
theorem plays_none (c : Int) (m : Nat) (a : Option Addr) (cp : Nat) (ask : Int) (w : World) (hT : Tab w) (hm : m ≤ 150) (h : c < 0 ∨ 7 < c) :
    Calls Tryd.prog 3 #[.int .i64 c, .slice a m cp, .int .i64 ask] w fun e w' => e = .returned (.bool true) ∧ Below w.heap.size w w' := by
  have HT : Hid (Tab w) := hT
  have HC : Hid (c < 0 ∨ 7 < c) := h
  clear hT h
  go_enter Tryd.func3, Tryd.ntmps3
  go_wp2_with fail
  refine (alive_any _ HT.out).mono ?_
  rintro e w1 ⟨rfl, hB1⟩
  go_wp2_with fail
  refine (new_none c _ HC.out).mono ?_
  rintro e w2 ⟨rfl, rfl⟩
  go_wp2_with fail
  refine (refSize_any' (none_sz HC.out) _).mono ?_
  rintro e w3 ⟨rfl, hB3⟩
  go_wp2_with fail
  go_ret
  exact ⟨rfl, hB1.trans (hB3.mono hB1.size)⟩

set_option maxRecDepth 100000 in
set_option maxHeartbeats 4000000 in
theorem plays_empty (c : Int) (a : Option Addr) (cp : Nat) (ask : Int) (w : World) (hT : Tab w) (h0 : 0 ≤ c) (h7 : c ≤ 7) :
    Calls Tryd.prog 3 #[.int .i64 c, .slice a 0 cp, .int .i64 ask] w fun e w' => e = .returned (.bool true) ∧ Below w.heap.size w w' := by
  have HT : Hid (Tab w) := hT
  have hz := sz_sl h0 h7
  obtain ⟨s, hs⟩ : ∃ s, s = szN c := ⟨_, rfl⟩
  have HZ : Hid (szN c = s) := hs.symm
  rw [← hs] at hz
  have hs0 : (s == 0) = false := by rw [beq_eq_false_iff_ne]; exact hz.1
  obtain ⟨n, hn⟩ : ∃ n : Nat, (n : Int) = slN c := ⟨(slN c).toNat, by omega⟩
  have hq : 32 / s = (n : Int) := by rw [hn]; exact hz.2.2.1.symm
  have hsp : 1 ≤ s := hz.2.1
  have hn2 : 2 ≤ n := by omega
  have hn32 : n ≤ 32 := by have := slN_le c; omega
  have HN : Hid ((slN c).toNat = n) := by show (slN c).toNat = n; omega
  have HC : Hid (0 ≤ c ∧ c ≤ 7) := ⟨h0, h7⟩
  clear hT hz hs hn h0 h7
  go_enter Tryd.func3, Tryd.ntmps3
  go_wp2_with fail
  refine (alive_any _ HT.out).mono ?_
  rintro e w1 ⟨rfl, hB⟩
  have HB1 : Hid (Below w.heap.size w w1) := hB
  clear hB
  go_wp2_with fail
  refine (new_any c _ HC.out.1 HC.out.2).mono ?_
  rintro e w2 ⟨b, hb, rfl, hp, hB⟩
  rw [HN.out] at hp
  have H2 : Hid (PS w w2 b c n (fun _ => false) (fun _ => false)) := ⟨hp, HB1.out.trans (hB.mono HB1.out.size), Nat.le_trans HB1.out.size hb, HT.out⟩
  clear hp hB hb HB1 HN HT
  go_wp2_with fail
  refine (refSize_any' HZ.out _).mono ?_
  rintro e w3 ⟨rfl, hB⟩
  have H3 : Hid (PS w w3 b c n (fun _ => false) (fun _ => false)) := H2.out.below hB
  clear hB H2 HZ
  go_upto_region 10 with (fail)
  simp only [hq]
  clear hq hs0 hsp
  have hmk := run_make_row' (P := Tryd.prog) 29 4 (.bool false) 1 Tryd.underlying29 Tryd.info4 rfl .i64 .i64 n (by omega) (by omega)
  have hr1 : (w3.alloc (.cells (madeCells #[.bool false] n) 4)).rowIs w3.heap.size 4 n (fun _ => .bool false) := World.rowIs_made w3 (.bool false) n 4
  have hr2 := World.rowIs_made (w3.alloc (.cells (madeCells #[.bool false] n) 4)) (.bool false) n 4
  have hsz : (w3.alloc (.cells (madeCells #[.bool false] n) 4)).heap.size = w3.heap.size + 1 := by simp
  rw [hsz] at hr2
  have hps2 := (H3.out.below ((Below.refl _ _).alloc (Nat.le_refl _) (.cells (madeCells #[.bool false] n) 4)))
  have hps3 := (hps2.below ((Below.refl _ _).alloc (Nat.le_refl _) (.cells (madeCells #[.bool false] n) 4))).drew
  have HM : Hid (((w3.alloc (.cells (madeCells #[.bool false] n) 4)).alloc (.cells (madeCells #[.bool false] n) 4)).drew.rowIs w3.heap.size 4 n (fun _ => .bool false) ∧
      ((w3.alloc (.cells (madeCells #[.bool false] n) 4)).alloc (.cells (madeCells #[.bool false] n) 4)).drew.rowIs (w3.heap.size + 1) 4 n (fun _ => .bool false) ∧
      PS w ((w3.alloc (.cells (madeCells #[.bool false] n) 4)).alloc (.cells (madeCells #[.bool false] n) 4)).drew b c n (fun _ => false) (fun _ => false) ∧ w.heap.size ≤ w3.heap.size) := ⟨hr1.alloc _, hr2, hps3, H3.out.lo.size⟩
  clear hr1 hr2 hsz hps2 hps3 H3
  go_cut [11, 12] (fun a1 a2 wk => ∃ b1 b2, a1 = .slice (some ⟨b1, 0, none⟩) n n ∧ a2 = .slice (some ⟨b2, 0, none⟩) n n ∧ b1 ≠ b2 ∧ w.heap.size ≤ b1 ∧ w.heap.size ≤ b2 ∧ wk.rowIs b1 4 n (fun _ => .bool false) ∧ wk.rowIs b2 4 n (fun _ => .bool false) ∧ PS w wk b c n (fun _ => false) (fun _ => false))
  case first => as_aux_lemma =>
    go_region
    · go_wp2
      go_meet
      case rel => exact ⟨w3.heap.size, w3.heap.size + 1, rfl, rfl, by omega, HM.out.2.2.2, by have := HM.out.2.2.2; omega, HM.out.1, HM.out.2.1, HM.out.2.2.1⟩
    · go_wp2
      go_meet
      case rel => exact ⟨w3.heap.size + 1, w3.heap.size, rfl, rfl, by omega, by have := HM.out.2.2.2; omega, HM.out.2.2.2, HM.out.2.1, HM.out.1, HM.out.2.2.1⟩
  case rest =>
    obtain ⟨b1, b2, rfl, rfl, hne, hb1, hb2, r1, r2, hps⟩ := hcut
    have PS0 := pp_start hps hne hb1 hb2 r1 r2
    clear hps r1 r2 hb1 hb2 hmk HM
    go_wp2_with fail
    generalize wc.alloc (.cells #[.slice none 0 0, .slice none 0 0, .slice none 0 0, .slice none 0 0, .slice none 0 0, .slice none 0 0, .slice none 0 0, .slice none 0 0, .slice none 0 0, .slice none 0 0] 37) = w5 at *
    generalize wc.heap.size = bk at *
    have HPS : Hid (PpSt w w5 b b1 b2 bk c n (fun _ => false) (fun _ => false) (fun _ => false) (fun _ => false)) := PS0
    clear PS0
    go_loopw [14] (fun i wr => i = .int .i64 0 ∧ ∃ U M : Nat → Bool, PpSt w wr b b1 b2 bk c n U M U M) (fun _ _ => 0)
    case atStart => exact ⟨rfl, _, _, HPS.out⟩
    case round =>
      obtain ⟨rfl, U, M, hps⟩ := hrel
      have HP : Hid (PpSt w wr b b1 b2 bk c n U M U M) := hps
      clear hps HPS
      · as_aux_lemma =>
        go_wp2_with fail
        refine (take_nil _).mono ?_
        rintro e w6 ⟨rfl, rfl⟩
        go_wp2_with fail
        refine (count_nil _).mono ?_
        rintro e w6 ⟨rfl, rfl⟩
        go_wp2_with fail
        refine (class_nil _).mono ?_
        rintro e w6 ⟨rfl, rfl⟩
        go_wp2_with fail
        refine (free_nil _ _).mono ?_
        rintro e w6 ⟨rfl, q1, rfl⟩
        go_wp2_with fail
        refine (used_nil _ _).mono ?_
        rintro e w6 ⟨rfl, q2, rfl⟩
        go_wp2_with fail
        refine (mark_nil _ _).mono ?_
        rintro e w6 ⟨rfl, q3, rfl⟩
        go_wp2_with fail
        refine (marked_nil _ _).mono ?_
        rintro e w6 ⟨rfl, q4, rfl⟩
        go_wp2_with fail
        refine (sweep_nil _).mono ?_
        rintro e w6 ⟨rfl, rfl⟩
        go_wp2_with fail
        refine (all_nil _).mono ?_
        rintro e w6 ⟨rfl, rfl⟩
        go_wp2_with fail
        have HPz := HP.out.drewN (q1 + q2 + q3 + q4)
        obtain ⟨vi, vw, I, W, hbk, hIl, hIW, hL9⟩ := HPz.bo
        refine (apart_any _ hbk HPz.lo.size hIW hIl hL9).mono ?_
        rintro e w7 ⟨rfl, hB7⟩
        have HLz : Hid (Below w.heap.size w w7) := HPz.lo.trans hB7
        clear hbk hIW hL9 HPz hB7
        go_wp2_with fail
        go_ret
        exact ⟨rfl, HLz.out⟩

theorem plays_any (c : Int) (ops : List (Int × Int)) (a : Option Addr) (cp : Nat) (ask : Int) (w : World) (hT : Tab w) (hlen : ops.length ≤ maxLen) (hI : OpsAt w (.slice a ops.length cp) ops) :
    Calls Tryd.prog 3 #[.int .i64 c, .slice a ops.length cp, .int .i64 ask] w fun e w' => e = .returned (.bool true) ∧ Below w.heap.size w w' := by
  unfold maxLen at hlen
  by_cases h1 : 150 < ops.length
  · exact plays_long c _ a cp ask w hT (by omega) h1
  · by_cases h2 : c < 0 ∨ 7 < c
    · exact plays_none c _ a cp ask w hT (by omega) h2
    · rcases hI with ⟨rfl, _⟩ | ⟨b, off, c', e, h3, h4⟩
      · exact plays_empty c a cp ask w hT (by omega) (by omega)
      · simp only [Value.slice.injEq, true_and] at e
        obtain ⟨rfl, rfl⟩ := e
        exact plays_main c ops b off cp ask w hT (by omega) (by omega) (by omega) h3 h4

end Go.Proofs.YtpofggadlaonfaaDoor

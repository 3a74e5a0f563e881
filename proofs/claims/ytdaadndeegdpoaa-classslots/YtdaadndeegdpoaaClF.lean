/- ClassSlots' walk. -/
import Derived.Test.YtdaadndeegdpoaaClB
import Derived.Deep.OwnRows
import Derived.Deep.QuietTactic
import Derived.Deep.Cut
import Derived.Deep.CutBlock
import Derived.BigQuiet
namespace Go.Proofs.Ytdaadndeegdpoaa
open Go.RowKit

theorem Try.infoInt : (Try.prog.info? 3).map (fun i => (i.zero, i.size, i.bytes)) = some (some (.int .i64 0), 1, 8) := by kernel_rfl

/-- How many of the first j words belong to slot x. -/
def cnS (s t j x : Nat) : Nat := if x < t then min (j - x * s) s else 0
def cnRow (s t j : Nat) (x : Nat) : Value := .int .i64 (cnS s t j x : Nat)

theorem cnS_zero (s t x : Nat) : cnS s t 0 x = 0 := by unfold cnS; split <;> omega
theorem cnS_here {s t j : Nat} (hs : 0 < s) (h : j < t * s) : cnS s t j (j / s) < s ∧ cnS s t (j + 1) (j / s) = cnS s t j (j / s) + 1 := by
  have hk : j / s < t := (Nat.div_lt_iff_lt_mul hs).2 h
  have hd : j / s * s + j % s = j := by rw [Nat.mul_comm]; exact Nat.div_add_mod j s
  have hm := Nat.mod_lt j hs
  unfold cnS
  rw [if_pos hk, if_pos hk]
  generalize j / s * s = y at *
  generalize j % s = z at *
  omega
theorem cnS_other {s t j x : Nat} (hs : 0 < s) (hx : x ≠ j / s) : cnS s t (j + 1) x = cnS s t j x := by
  have hd : j / s * s + j % s = j := by rw [Nat.mul_comm]; exact Nat.div_add_mod j s
  have hm := Nat.mod_lt j hs
  unfold cnS
  split
  · by_cases e : x < j / s
    · have : (x + 1) * s ≤ j / s * s := Nat.mul_le_mul_right s e
      rw [Nat.succ_mul] at this
      generalize j / s * s = y at *
      generalize x * s = z at *
      omega
    · have : (j / s + 1) * s ≤ x * s := Nat.mul_le_mul_right s (by omega)
      rw [Nat.succ_mul] at this
      generalize j / s * s = y at *
      generalize x * s = z at *
      omega
  · rfl
theorem cnS_past {s t j x : Nat} (h : t * s ≤ j) : cnS s t (j + 1) x = cnS s t j x := by
  unfold cnS
  split
  · rename_i hx
    have : (x + 1) * s ≤ t * s := Nat.mul_le_mul_right s hx
    rw [Nat.succ_mul] at this
    generalize x * s = z at *
    omega
  · rfl
theorem cnS_full {s t x : Nat} (h : t * s ≤ 32) (hx : x < t) : cnS s t 32 x = s := by
  have : (x + 1) * s ≤ t * s := Nat.mul_le_mul_right s hx
  rw [Nat.succ_mul] at this
  unfold cnS
  rw [if_pos hx]
  generalize x * s = z at *
  omega

set_option maxHeartbeats 4000000 in
theorem slots_core (c : Int) (s t : Nat) (w : World) (h0 : 0 ≤ c) (h8 : c < 8) (hs0 : 0 < s) (ht1 : t ≤ 32) (hts : t * s ≤ 32) (hs : Hid (szN c = (s : Int))) (ht : Hid (slN c = (t : Int))) (hr : Hid ((if szN c = 0 then 0 else 32 - slN c * szN c) = ((32 - t * s : Nat) : Int)))
    (ho : Hid (ofN (s : Int) = c)) (hz : Hid (waN (s : Int) = 0))
    (hin : Hid (∀ (j : Nat) w, j < t * s → Calls Try.prog 9 #[.int .i64 c, .int .i64 (j : Int)] w fun e w' => e = .returned (.tuple #[.int .i64 ((j / s : Nat) : Int), .bool true]) ∧ w' = w))
    (hout : Hid (∀ (j : Nat) w, t * s ≤ j → Calls Try.prog 9 #[.int .i64 c, .int .i64 (j : Int)] w fun e w' => e = .returned (.tuple #[.int .i64 0, .bool false]) ∧ w' = w)) :
    Calls Try.prog 4 #[.int .i64 c] w fun e w' => e = .returned (.bool true) ∧ Below w.heap.size w w' := by
  have hmk : ∀ w : World, Sem.run Try.prog (Instr.makeSlice 27 (.int .i64 33) (.int .i64 33)) w = .ok (.slice (some ⟨w.heap.size, 0, none⟩) 33 33) (w.alloc (.cells (madeCells #[.int .i64 0] 33) 3)) :=
    run_make_row' (P := Try.prog) 27 3 (.int .i64 0) 8 Try.underlying27 Try.infoInt rfl .i64 .i64 33 (by omega) (by omega)
  go_enter Try.func4, Try.ntmps4
  go_wp2_with fail
  refine (alive_any _).mono ?_
  rintro e w0 ⟨rfl, rfl⟩
  have hrow : Hid ((w0.alloc (.cells (madeCells #[.int .i64 0] 33) 3)).rowIs w0.heap.size 3 33 (cnRow s t 0)) := (World.rowIs_made w0 (.int .i64 0) 33 3).congr fun i _ => by simp [cnRow, cnS_zero]
  have hbel : Hid (Below w0.heap.size w0 (w0.alloc (.cells (madeCells #[.int .i64 0] 33) 3))) := (Below.refl w0.heap.size w0).alloc (Nat.le_refl _) _
  go_wp2_with fail
  go_loopw [4, 5] (fun r i wr => ∃ j : Nat, j ≤ 32 ∧ i = .int .i64 j ∧ r = .int .i64 (j - t * s : Nat) ∧ Hid (wr.rowIs w0.heap.size 3 33 (cnRow s t j)) ∧ Hid (Below w0.heap.size w0 wr)) (fun _ i _ => 32 - (intOf i).toNat)
  case atStart => exact ⟨0, Nat.zero_le _, rfl, by simp, hrow, hbel⟩
  case round =>
    obtain ⟨j, hj, rfl, rfl, HR, HB⟩ := hrel
    clear hrow hbel hmk
    by_cases hlt : j < 32
    · by_cases hi : j < t * s
      · have hz0 : j - t * s = 0 := by omega
        have hk : j / s < t := (Nat.div_lt_iff_lt_mul hs0).2 hi
        have hc := HR.out.cell (i := j / s) (by omega)
        have hf := HR.out.frozen (j / s)
        have hh := cnS_here hs0 hi
        have HC := hin.out j wr hi
        have HN : Hid (cnS s t (j + 1) (j / s) = cnS s t j (j / s) + 1) := hh.2
        have HK : Hid (∀ x, x ≠ j / s → cnS s t (j + 1) x = cnS s t j x) := fun x hx => cnS_other hs0 hx
        have hl := hh.1
        have hs32 : s ≤ 32 := Nat.le_trans (Nat.le_mul_of_pos_left s (Nat.zero_lt_of_lt hk)) hts
        clear hh
        have hc' : wr.cell? ⟨w0.heap.size, j / s, none⟩ = some (.int .i64 (cnS s t j (j / s) : Nat)) := hc
        clear hc
        rw [hz0]
        generalize hq : cnS s t j (j / s) = q at *
        generalize hkk : j / s = k at *
        have HQ : Hid (cnS s t j k = q) := hq
        have HKK : Hid (j / s = k) := hkk
        have HC' : Hid _ := HC
        clear hq hkk HC hz0
        go_wp2_with fail
        refine Calls.mono HC'.out ?_
        rintro e w1 ⟨rfl, rfl⟩
        go_wp2_with fail
        refine (slots_any' ht.out _).mono ?_
        rintro e w2 ⟨rfl, rfl⟩
        go_wp2_with fail
        refine ⟨⟨j + 1, by omega, by go_num, ?_, ?_, HB.out.setCell (Nat.le_refl _) _⟩, by simp [intOf]; omega⟩
        · congr 1; omega
        · refine (World.rowIs.set HR.out k _).congr fun i _ => ?_
          by_cases e : i = k
          · subst e; rw [if_pos rfl]; unfold cnRow; rw [HN.out]; go_num
          · rw [if_neg e]; unfold cnRow; rw [HK.out i e]
      · have HC : Hid _ := hout.out j wr (by omega)
        go_wp2_with fail
        refine Calls.mono HC.out ?_
        rintro e w1 ⟨rfl, rfl⟩
        go_wp2_with fail
        refine ⟨⟨j + 1, by omega, by go_num, ?_, ?_, HB.out⟩, by simp [intOf]; omega⟩
        · go_num
        · exact HR.out.congr fun i _ => by unfold cnRow; rw [cnS_past (by omega)]
    · have e32 : Hid (j = 32) := by unfold Hid; omega
      have HF : Hid (∀ x, x < t → cnS s t j x = s) := fun x hx => by rw [e32.out]; exact cnS_full hts hx
      have eT : j - t * s = 32 - t * s := by rw [e32.out]
      have HT : Hid ((if szN c = 0 then 0 else 32 - slN c * szN c) = ((j - t * s : Nat) : Int)) := eT.symm ▸ hr
      clear eT
      generalize j - t * s = r at *
      clear hin hout hj hr
      go_wp2_with fail
      go_loopw [8] (fun i wx => ∃ k : Nat, k ≤ t ∧ i = .int .i64 k ∧ Hid (wx.rowIs w0.heap.size 3 33 (cnRow s t j)) ∧ Hid (Below w0.heap.size w0 wx)) (fun i _ => t - (intOf i).toNat)
      case atStart => exact ⟨0, Nat.zero_le _, rfl, HR, HB⟩
      case round =>
        clear HR HB
        obtain ⟨k, hk, rfl, HR, HB⟩ := hrel
        by_cases hlt2 : k < t
        · have hc : wr.cell? ⟨w0.heap.size, k, none⟩ = some (.int .i64 (s : Nat)) := by
            have := HR.out.cell (i := k) (by omega)
            unfold cnRow at this
            rwa [HF.out k hlt2] at this
          go_wp2_with fail
          refine (slots_any' ht.out _).mono ?_
          rintro e w2 ⟨rfl, rfl⟩
          go_upto_region 17 with (fail)
          go_quiet ((go_at_call 10; exact Calls.quiet_of_same (size_any' hs.out _)))
          go_wp2
          go_roundw
          case rel => exact ⟨k + 1, by omega, by go_num, HR.out, ⟨HB.out.os, HB.out.tape, HB.out.output, HB.out.size, HB.out.block⟩⟩
          case measure => simp [intOf]; omega
        · have ek : k = t := by omega
          subst ek
          go_wp2_with fail
          refine (slots_any' ht.out _).mono ?_
          rintro e w2 ⟨rfl, rfl⟩
          go_wp2_with fail
          refine (tail_any' HT.out _).mono ?_
          rintro e w3 ⟨rfl, rfl⟩
          go_wp2_with fail
          refine (size_any' hs.out _).mono ?_
          rintro e w4 ⟨rfl, rfl⟩
          go_wp2_with fail
          refine (of_any' ho.out _).mono ?_
          rintro e w5 ⟨rfl, rfl⟩
          go_wp2_with fail
          refine (size_any' hs.out _).mono ?_
          rintro e w6 ⟨rfl, rfl⟩
          go_wp2_with fail
          refine (waste_any' hz.out _).mono ?_
          rintro e w7 ⟨rfl, rfl⟩
          go_wp2_with fail
          go_ret
          exact ⟨rfl, HB.out⟩

theorem slots_class (c : Int) (s t : Nat) (w : World) (h0 : 0 ≤ c) (h8 : c < 8) (hs0 : 0 < s) (ht1 : t ≤ 32) (hts : t * s ≤ 32) (hs : szN c = (s : Int)) (ht : slN c = (t : Int)) (ho : ofN (s : Int) = c) (hz : waN (s : Int) = 0) :
    Calls Try.prog 4 #[.int .i64 c] w fun e w' => e = .returned (.bool true) ∧ Below w.heap.size w w' := by
  have hp : ((t * s : Nat) : Int) = slN c * szN c := by rw [hs, ht, Int.natCast_mul]
  refine slots_core c s t w h0 h8 hs0 ht1 hts hs ht ?_ ho hz ?_ ?_
  · unfold Hid; rw [if_neg (by omega), ← hp]; omega
  · intro j w hj
    have h := slot_in c (j : Int) w (by omega) (by omega)
    rwa [hs, ← Int.natCast_ediv] at h
  · intro j w hj
    exact slot_out c (j : Int) w (.inr (by omega))

set_option maxHeartbeats 1000000 in
theorem slots_walk (c : Int) (w : World) :
    Calls Try.prog 4 #[.int .i64 c] w fun e w' => e = .returned (.bool true) ∧ Below w.heap.size w w' := by
  rcases each_class c with h | rfl | rfl | rfl | rfl | rfl | rfl | rfl | rfl
  · by_cases h1 : c < 0
    · go_enter Try.func4, Try.ntmps4
      go_wp2_with fail
      refine (alive_any _).mono ?_
      rintro e w0 ⟨rfl, rfl⟩
      go_wp2_with fail
      go_ret
      exact ⟨rfl, Below.refl _ _⟩
    · have h2 : 8 ≤ c := by omega
      go_enter Try.func4, Try.ntmps4
      go_wp2_with fail
      refine (alive_any _).mono ?_
      rintro e w0 ⟨rfl, rfl⟩
      go_wp2_with fail
      go_ret
      exact ⟨rfl, Below.refl _ _⟩
  · exact slots_class 0 1 32 w (by decide) (by decide) (by decide) (by decide) (by decide) (by decide) (by decide) (by decide) (by decide)
  · exact slots_class 1 2 16 w (by decide) (by decide) (by decide) (by decide) (by decide) (by decide) (by decide) (by decide) (by decide)
  · exact slots_class 2 3 10 w (by decide) (by decide) (by decide) (by decide) (by decide) (by decide) (by decide) (by decide) (by decide)
  · exact slots_class 3 4 8 w (by decide) (by decide) (by decide) (by decide) (by decide) (by decide) (by decide) (by decide) (by decide)
  · exact slots_class 4 6 5 w (by decide) (by decide) (by decide) (by decide) (by decide) (by decide) (by decide) (by decide) (by decide)
  · exact slots_class 5 8 4 w (by decide) (by decide) (by decide) (by decide) (by decide) (by decide) (by decide) (by decide) (by decide)
  · exact slots_class 6 12 2 w (by decide) (by decide) (by decide) (by decide) (by decide) (by decide) (by decide) (by decide) (by decide)
  · exact slots_class 7 16 2 w (by decide) (by decide) (by decide) (by decide) (by decide) (by decide) (by decide) (by decide) (by decide)

end Go.Proofs.Ytdaadndeegdpoaa

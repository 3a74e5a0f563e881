/- The walk of the law PilePlays. -/
import Derived.Test.YtckljbjnhgnkgaaPiF
import Derived.Deep.DeepCutAuto
import Derived.Deep.RegionHeld3
namespace Go.Proofs.Ytckljbjnhgnkgaa
open Go.RowKit

set_option maxRecDepth 100000 in
set_option maxHeartbeats 1000000 in
theorem plays8_few (n : Int) (a : Option Addr) (l c : Nat) (w : World) (h : 80 < l) :
    Calls Try.prog 3 #[.int .i64 n, .slice a l c] w fun e w' => e = .returned (.bool true) ∧ Below w.heap.size w w' := by
  have h3 : 80 < (l : Int) := by omega
  go_enter Try.func3, Try.ntmps3
  go_wp2_with fail
  refine (alive_any _).mono ?_
  rintro e w1 ⟨rfl, hB1⟩
  go_wp2_with fail
  go_ret
  exact ⟨rfl, hB1⟩

theorem room_cases (n : Int) : ∃ R : Nat, min (max n 1) 1000 = (R : Int) ∧ 1 ≤ R ∧ R ≤ 1000 := ⟨(min (max n 1) 1000).toNat, by omega, by omega, by omega⟩

set_option maxRecDepth 100000 in
set_option maxHeartbeats 8000000 in
theorem plays8_main (n : Int) (ops : List Act8) (a : Option Addr) (c : Nat) (w : World) (hl : ops.length ≤ 80) (hO : ∀ (j : Nat) (o : Act8), ops[j]? = some o → ∃ bl off, a = some ⟨bl, off, none⟩ ∧ bl < w.heap.size ∧ Acts8 w bl off ops) :
    Calls Try.prog 3 #[.int .i64 n, .slice a ops.length c] w fun e w' => e = .returned (.bool true) ∧ Below w.heap.size w w' := by
  have HO : Hid (∀ (j : Nat) (o : Act8), ops[j]? = some o → ∃ bl off, a = some ⟨bl, off, none⟩ ∧ bl < w.heap.size ∧ Acts8 w bl off ops) := hO
  obtain ⟨R, hR, hR1, hR2⟩ := room_cases n
  have HR : Hid (min (max n 1) 1000 = (R : Int)) := hR
  clear hO hR
  obtain ⟨m, hm⟩ : ∃ m, m = ops.length := ⟨_, rfl⟩
  have HL : Hid (m = ops.length) := hm
  rw [← hm] at hl ⊢
  clear hm
  go_enter Try.func3, Try.ntmps3
  go_wp2_with fail
  refine (alive_any _).mono ?_
  rintro e w1 ⟨rfl, hB1⟩
  have HB1 : Hid (Below w.heap.size w w1) := hB1
  clear hB1
  go_wp2_with fail
  refine (pnew_any n R _ HR.out).mono ?_
  rintro e w2 ⟨rfl, hp2, hB2⟩
  have H2 : Hid (Pz w w2 w1.heap.size R [] [] false (.slice none 0 0)) := ⟨⟨_, hp2.mono HB1.out.size⟩, World.ownsRow_nil _ _ _ _, HB1.out.trans (hB2.mono HB1.out.size)⟩
  clear hp2 hB2 HB1
  generalize w1.heap.size = b at *
  go_upto_region 6 with (fail)
  go_cut [0] (fun v wk => v = .int .i64 R ∧ wk = w2)
  case first => as_aux_lemma =>
    by_cases h1 : n < 1
    · have h1' : ¬ 1 ≤ n := by omega
      have hR0 : R = 1 := by have := HR.out; omega
      go_wp2
      go_meet
      case rel => exact ⟨by rw [hR0]; rfl, rfl⟩
    · by_cases h2 : 1000 < n
      · have hR0 : R = 1000 := by have := HR.out; omega
        go_wp2
        go_meet
        case rel => exact ⟨by rw [hR0]; rfl, rfl⟩
      · have hR0 : n = (R : Int) := by have := HR.out; omega
        go_wp2
        go_meet
        case rel => exact ⟨rfl, rfl⟩
  case rest =>
    obtain ⟨rfl, hw2⟩ := hcut
    subst hw2
    clear HR
    go_wp2_with fail
    go_loopw [6, 7, 8] (fun hv lv iv wr => ∃ (j : Nat) (L : List Int) (lo : Bool) (ah : Option Addr) (ch : Nat), j ≤ m ∧ iv = .int .i64 j ∧ lv = .bool lo ∧ hv = .slice ah L.length ch ∧ Hid (Pz w wr b R L L lo (.slice ah L.length ch))) (fun _ _ iv _ => m - (intOf iv).toNat)
    case atStart => exact ⟨0, [], false, none, 0, Nat.zero_le _, rfl, rfl, rfl, H2⟩
    case round =>
      obtain ⟨j, L, lo, ah, ch, hj, rfl, rfl, rfl, HZ⟩ := hrel
      clear H2
      by_cases hlt : j < m
      · as_aux_lemma =>
        have hlt' : j < ops.length := by rw [← HL.out]; exact hlt
        have hp : ops[j]? = some ops[j] := List.getElem?_eq_getElem hlt'
        obtain ⟨bl, off, ha, hbl, hA⟩ := HO.out j _ hp
        obtain ⟨hk1, hk2, hk3⟩ := hA j _ hp
        clear hA HO
        subst ha
        generalize ops[j] = o at *
        obtain ⟨kd, ⟨sa, sc⟩, M⟩ := o
        have hc1 : wr.cell? ⟨bl, off + j * 2, none⟩ = some (.int .i64 kd) := (HZ.out.lo.cell (p := ⟨bl, off + j * 2, none⟩) hbl).trans hk1
        have hc2 : wr.cell? ⟨bl, off + j * 2 + 1, none⟩ = some (.slice sa M.length sc) := (HZ.out.lo.cell (p := ⟨bl, off + j * 2 + 1, none⟩) hbl).trans hk2
        have HS : Hid (SrcC w (.slice sa M.length sc) M) := hk3
        have HK : Hid (w.cell? ⟨bl, off + j * 2, none⟩ = some (.int .i64 kd) ∧ w.cell? ⟨bl, off + j * 2 + 1, none⟩ = some (.slice sa M.length sc)) := ⟨hk1, hk2⟩
        have hltI : (j : Int) < (m : Int) := by omega
        clear hk1 hk2 hk3 hp hlt' HL
        obtain ⟨mm, hmm⟩ : ∃ mm, M.length = mm := ⟨_, rfl⟩
        have HM : Hid (M.length = mm) := hmm
        rw [hmm] at hc2
        clear hmm
        by_cases h40 : 40 < mm
        · as_aux_lemma =>
          have h40I : 40 < (mm : Int) := by omega
          go_wp2_with fail
          go_ret
          exact ⟨rfl, HZ.out.lo⟩
        · have hle40 : mm ≤ 40 := by omega
          go_wp2_with fail
          rw [← HM.out]
          refine (lent_any M sa sc _ (by rw [HM.out]; omega) (HS.out.below HZ.out.lo).src).mono ?_
          rintro e w5 ⟨g, cap, rfl, hmo, hB5⟩
          have HP : Hid (Py w w5 b R L L lo (.slice ah L.length ch) g cap M) := HZ.out.lent hmo hB5
          have hc3 : w5.cell? ⟨bl, off + j * 2, none⟩ = some (.int .i64 kd) := (HP.out.lo.cell (p := ⟨bl, off + j * 2, none⟩) hbl).trans HK.out.1
          have hc4 : w5.cell? ⟨bl, off + j * 2 + 1, none⟩ = some (.slice sa mm sc) := by rw [← HM.out]; exact (HP.out.lo.cell (p := ⟨bl, off + j * 2 + 1, none⟩) hbl).trans HK.out.2
          rw [HM.out]
          clear hc1 hc2 hmo hB5 HZ
          go_upto_block 2 with (fail)
          go_cut [6, 7, 10] (fun hv lv ok wk => ∃ (L' : List Int) (lo' : Bool) (ah : Option Addr) (ch : Nat), hv = .slice ah L'.length ch ∧ lv = .bool lo' ∧ ok = .bool true ∧ Hid (Py w wk b R L' L' lo' (.slice ah L'.length ch) g cap M))
          case first => as_aux_lemma =>
            by_cases hk1 : kd = 1
            · as_aux_lemma =>
              subst hk1
              obtain ⟨K, hK⟩ : ∃ K, min mm (R - L.length) = K := ⟨_, rfl⟩
              have HKK : Hid (min mm (R - L.length) = K) := hK
              have hLR := HP.out.le
              go_upto_region 20 with (fail)
              go_cut [11] (fun v wk => v = .int .i64 K ∧ wk = w5)
              case first => as_aux_lemma =>
                by_cases hx : (mm : Int) < (R : Int) - (L.length : Int)
                · have e : mm = K := by omega
                  subst e
                  go_wp2
                  go_meet
                  case rel => exact ⟨rfl, rfl⟩
                · have e : (R : Int) - (L.length : Int) = (K : Int) := by omega
                  rcases Nat.lt_or_ge K mm with hy | hy
                  · go_wp2
                    go_meet
                    case rel => exact ⟨rfl, rfl⟩
                  · have e2 : mm = K := by omega
                    subst e2
                    go_wp2
                    go_meet
                    case rel => exact ⟨rfl, rfl⟩
              case rest =>
                obtain ⟨rfl, hw6⟩ := hcut
                subst hw6
                clear hK
                go_wp2_with fail
                refine (py_put HP.out HM.out HKK.out).mono ?_
                rintro e w6 ⟨rfl, hh⟩
                have H6 : Hid (Py w w6 b R (L ++ M.take K) L (lo || decide (K < mm)) (.slice ah L.length ch) g cap M) := hh
                have hc6 : w6.cell? ⟨bl, off + j * 2 + 1, none⟩ = some (.slice sa mm sc) := by rw [← HM.out]; exact (H6.out.lo.cell (p := ⟨bl, off + j * 2 + 1, none⟩) hbl).trans HK.out.2
                clear hh HP hc3 hc4
                go_upto_region 22 with (fail)
                go_cut [6] (fun v wk => ∃ ah ch, v = .slice ah (L ++ M.take K).length ch ∧ Hid (Py w wk b R (L ++ M.take K) (L ++ M.take K) (lo || decide (K < mm)) (.slice ah (L ++ M.take K).length ch) g cap M))
                case first => as_aux_lemma =>
                  obtain ⟨i0, hi0, hz0, hz1, hz2⟩ := info_parts Try.info3
                  have HSrc : Hid (SrcAt w6 (.slice ah L.length ch) L) := src_of_own H6.out.h
                  have hcp := HS.out.caps
                  have hKm : K ≤ mm := by have := HKK.out; omega
                  have HKl : Hid (K ≤ M.length ∧ (M.take K).length = K ∧ 0 + L.length ≤ 100000 ∧ 0 + L.length + (M.take K).length ≤ 100000) := by
                    have hm := HM.out
                    have ht : (M.take K).length = K := by rw [List.length_take]; omega
                    exact ⟨by omega, ht, by omega, by rw [ht]; omega⟩
                  have HTk : Hid (SrcAt w (.slice sa K sc) (M.take K)) := HS.out.take HKl.out.1
                  have hKc : (K : Int) ≤ (sc : Int) := by have := HM.out; omega
                  have hK0 : (0 : Int) ≤ (K : Int) := by omega
                  rcases sa with _ | ad
                  · obtain ⟨h0, rfl⟩ := hcp.2.2 rfl
                    obtain rfl : K = 0 := by omega
                    obtain rfl : mm = 0 := by have := HM.out; omega
                    clear hcp
                    go_region_held3 (fun w' => w'.cell? ⟨bl, off + j * 2 + 1, none⟩ = some (.slice none 0 0)) (first | exact hc8 | exact hc7 | go_keep)
                      (first
                        | (refine step_append_src (by rfl) _ _ 26 (by rfl) w6.heap.size 3 i0 Try.underlying26 hi0 hz0 hz1 hz2 (.slice none 0 0) 0 [] (by rfl) (World.ownsRow_nil _ _ _ _) (.slice ah L.length ch) L (by rfl) HSrc.out HKl.out.2.2.1 (Nat.le_refl _) ?_; intro v7 w7 ho7 hg7; have HB7 : Hid (Below w6.heap.size w6 w7 ∧ Below w.heap.size w w7) := app_one H6.out ⟨hg7.os, hg7.tape, hg7.output, hg7.size, hg7.block⟩; have hc7 : w7.cell? ⟨bl, off + j * 2 + 1, none⟩ = some (.slice none 0 0) := (HB7.out.1.cell (p := ⟨bl, off + j * 2 + 1, none⟩) (Nat.lt_of_lt_of_le hbl H6.out.lo.size)).trans hc6)
                        | (refine step_append_src (by rfl) _ _ 26 (by rfl) w6.heap.size 3 i0 Try.underlying26 hi0 hz0 hz1 hz2 v7 (0 + L.length) ([] ++ L.map (Value.int .i64)) (by rfl) ho7 (.slice none 0 0) (M.take 0) (by rfl) (HTk.out.below HB7.out.2) HKl.out.2.2.2 HB7.out.1.size ?_; intro v8 w8 ho8 hg8; have HB8 : Hid (Below w6.heap.size w6 w8) := HB7.out.1.grown hg8 HB7.out.1.size (fun k hk => (ho7.lt k hk).1); have hc8 : w8.cell? ⟨bl, off + j * 2 + 1, none⟩ = some (.slice none 0 0) := (HB8.out.cell (p := ⟨bl, off + j * 2 + 1, none⟩) (Nat.lt_of_lt_of_le hbl H6.out.lo.size)).trans hc6)
                        | (trace_state; fail))
                    obtain ⟨ah8, ch8, e8, H8⟩ := app_two H6.out HB7.out.1 ho7 hg8 ho8
                    subst e8
                    go_wp2
                    go_meet
                    case rel => exact ⟨ah8, ch8, rfl, H8⟩
                  · clear hcp
                    go_region_held3 (fun w' => w'.cell? ⟨bl, off + j * 2 + 1, none⟩ = some (.slice (some ad) mm sc)) (first | exact hc8 | exact hc7 | go_keep)
                      (first
                        | (refine step_append_src (by rfl) _ _ 26 (by rfl) w6.heap.size 3 i0 Try.underlying26 hi0 hz0 hz1 hz2 (.slice none 0 0) 0 [] (by rfl) (World.ownsRow_nil _ _ _ _) (.slice ah L.length ch) L (by rfl) HSrc.out HKl.out.2.2.1 (Nat.le_refl _) ?_; intro v7 w7 ho7 hg7; have HB7 : Hid (Below w6.heap.size w6 w7 ∧ Below w.heap.size w w7) := app_one H6.out ⟨hg7.os, hg7.tape, hg7.output, hg7.size, hg7.block⟩; have hc7 : w7.cell? ⟨bl, off + j * 2 + 1, none⟩ = some (.slice (some ad) mm sc) := (HB7.out.1.cell (p := ⟨bl, off + j * 2 + 1, none⟩) (Nat.lt_of_lt_of_le hbl H6.out.lo.size)).trans hc6)
                        | (refine step_append_src (by rfl) _ _ 26 (by rfl) w6.heap.size 3 i0 Try.underlying26 hi0 hz0 hz1 hz2 v7 (0 + L.length) ([] ++ L.map (Value.int .i64)) (by rfl) ho7 (.slice (some ad) K sc) (M.take K) (by rfl) (HTk.out.below HB7.out.2) HKl.out.2.2.2 HB7.out.1.size ?_; intro v8 w8 ho8 hg8; have HB8 : Hid (Below w6.heap.size w6 w8) := HB7.out.1.grown hg8 HB7.out.1.size (fun k hk => (ho7.lt k hk).1); have hc8 : w8.cell? ⟨bl, off + j * 2 + 1, none⟩ = some (.slice (some ad) mm sc) := (HB8.out.cell (p := ⟨bl, off + j * 2 + 1, none⟩) (Nat.lt_of_lt_of_le hbl H6.out.lo.size)).trans hc6)
                        | (trace_state; fail))
                    obtain ⟨ah8, ch8, e8, H8⟩ := app_two H6.out HB7.out.1 ho7 hg8 ho8
                    subst e8
                    go_wp2
                    go_meet
                    case rel => exact ⟨ah8, ch8, rfl, H8⟩
                case rest =>
                  obtain ⟨ah7, ch7, rfl, H7⟩ := hcut
                  cases lo
                  · as_aux_lemma =>
                    go_wp2_with fail
                    go_meet
                    case rel => exact ⟨_, _, _, _, rfl, by simp, rfl, H7⟩
                  · as_aux_lemma =>
                    go_wp2_with fail
                    go_meet
                    case rel => exact ⟨_, _, _, _, rfl, by simp, rfl, H7⟩
            · by_cases hk2 : kd = 2
              · as_aux_lemma =>
                subst hk2
                clear hk1
                rcases List.eq_nil_or_concat L with rfl | ⟨L', x, rfl⟩
                · as_aux_lemma =>
                  go_wp2_with fail
                  refine (py_none HP.out).mono ?_
                  rintro e w6 ⟨rfl, hw6⟩
                  subst hw6
                  go_wp2_with fail
                  go_meet
                  case rel => exact ⟨[], lo, _, _, rfl, rfl, rfl, HP⟩
                · as_aux_lemma =>
                  rw [List.concat_eq_append] at HP ⊢
                  have hlen : (L' ++ [x]).length = L'.length + 1 := by simp
                  rw [hlen] at HP ⊢
                  go_wp2_with fail
                  refine (py_take HP.out).mono ?_
                  rintro e w6 ⟨rfl, hh⟩
                  obtain ⟨hg, hcc, e, hcap, hcx, hP7⟩ := hh.last
                  simp at e
                  obtain ⟨rfl, rfl⟩ := e
                  have H7 : Hid (Py w w6 b R L' L' lo (.slice (some ⟨hg, 0, none⟩) L'.length ch) g cap M) := hP7
                  have hL8 : L'.length ≤ 1000 := by have := hP7.le; omega
                  clear hh hP7 HP
                  go_wp2_with fail
                  go_meet
                  case rel => exact ⟨L', lo, _, _, rfl, rfl, rfl, H7⟩
              · by_cases hk3 : kd = 3
                · as_aux_lemma =>
                  subst hk3
                  clear hk1 hk2
                  go_wp2_with fail
                  refine (py_found HP.out).mono ?_
                  rintro e w6 ⟨rfl, hh⟩
                  have H6 : Hid (Py w w6 b R L L false (.slice ah L.length ch) g cap M) := hh
                  clear hh HP
                  go_wp2_with fail
                  go_meet
                  case rel => exact ⟨L, false, _, _, rfl, rfl, rfl, H6⟩
                · as_aux_lemma =>
                  have hkb1 : (kd == 1) = false := by simpa using hk1
                  have hkb2 : (kd == 2) = false := by simpa using hk2
                  have hkb3 : (kd == 3) = false := by simpa using hk3
                  clear hk1 hk2 hk3
                  go_wp2_with fail
                  refine (py_clear HP.out).mono ?_
                  rintro e w6 ⟨rfl, hh⟩
                  have H6 : Hid (Py w w6 b R [] [] false (.slice none 0 0) g cap M) := hh.none_
                  clear hh HP
                  go_wp2_with fail
                  go_meet
                  case rel => exact ⟨[], false, none, 0, rfl, rfl, rfl, H6⟩
          case rest => as_aux_lemma =>
            obtain ⟨L', lo', ah', ch', rfl, rfl, rfl, HP'⟩ := hcut
            clear HP hc3 hc4
            have hc5 : wc.cell? ⟨bl, off + j * 2 + 1, none⟩ = some (.slice sa mm sc) := by rw [← HM.out]; exact (HP'.out.lo.cell (p := ⟨bl, off + j * 2 + 1, none⟩) hbl).trans HK.out.2
            go_wp2_with fail
            refine (py_len HP'.out).mono ?_
            rintro e wz ⟨rfl, hz⟩
            subst wz
            go_wp2_with fail
            refine (py_lost HP'.out).mono ?_
            rintro e wz ⟨rfl, hz⟩
            subst wz
            go_wp2_with fail
            refine (py_stays HP'.out HM.out hle40 HS.out).mono ?_
            rintro e wz ⟨rfl, q, rfl⟩
            go_wp2_with fail
            go_roundw
            case rel => exact ⟨j + 1, L', lo', ah', ch', by omega, by go_num, rfl, rfl, HP'.out.z.drewN q⟩
            case measure => simp [intOf]; omega
      · as_aux_lemma =>
        have e : j = m := by omega
        subst e
        clear HO
        go_wp2_with fail
        refine (found_nil _).mono ?_
        rintro e wz ⟨rfl, hz⟩
        subst wz
        go_wp2_with fail
        refine (clear_nil _).mono ?_
        rintro e wz ⟨rfl, hz⟩
        subst wz
        go_wp2_with fail
        refine (ptake_nil _).mono ?_
        rintro e wz ⟨rfl, hz⟩
        subst wz
        go_wp2_with fail
        have HB : Hid (Below w.heap.size w (wr.alloc (.cells #[.int .i64 1] 3))) := HZ.out.lo.alloc HZ.out.lo.size _
        refine (put_nil _ _).mono ?_
        rintro e wz ⟨rfl, hz⟩
        subst wz
        go_wp2_with fail
        refine (plen_nil _).mono ?_
        rintro e wz ⟨rfl, hz⟩
        subst wz
        go_wp2_with fail
        refine (plost_nil _).mono ?_
        rintro e wz ⟨rfl, hz⟩
        subst wz
        go_wp2_with fail
        go_ret
        exact ⟨rfl, HB.out⟩

end Go.Proofs.Ytckljbjnhgnkgaa

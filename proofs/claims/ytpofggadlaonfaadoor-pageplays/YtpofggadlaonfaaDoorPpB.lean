/- PagePlays: the walk. -/
import Derived.Test.YtpofggadlaonfaaDoorPpA
import Derived.Deep.DeepCutAuto
namespace Go.Proofs.YtpofggadlaonfaaDoor
open Go.RowKit

set_option maxRecDepth 100000 in
set_option maxHeartbeats 4000000 in
theorem plays_main (c : Int) (ops : List (Int × Int)) (bl off cp : Nat) (ask : Int) (w : World) (hT : Tab w) (h0 : 0 ≤ c) (h7 : c ≤ 7) (hol : ops.length ≤ 150) (hbl : bl < w.heap.size)
    (hops : ∀ (j : Nat) (o : Int × Int), ops[j]? = some o → w.cell? ⟨bl, off + j * 2, none⟩ = some (.int .i64 o.1) ∧ w.cell? ⟨bl, off + j * 2 + 1, none⟩ = some (.int .i64 o.2)) :
    Calls Tryd.prog 3 #[.int .i64 c, .slice (some ⟨bl, off, none⟩) ops.length cp, .int .i64 ask] w fun e w' => e = .returned (.bool true) ∧ Below w.heap.size w w' := by
  have HT : Hid (Tab w) := hT
  have HO : Hid (∀ (j : Nat) (o : Int × Int), ops[j]? = some o → w.cell? ⟨bl, off + j * 2, none⟩ = some (.int .i64 o.1) ∧ w.cell? ⟨bl, off + j * 2 + 1, none⟩ = some (.int .i64 o.2)) := hops
  have hz := sz_sl h0 h7
  obtain ⟨s, hs⟩ : ∃ s, s = szN c := ⟨_, rfl⟩
  have HZ : Hid (szN c = s) := hs.symm
  rw [← hs] at hz
  have hs0 : (s == 0) = false := by rw [beq_eq_false_iff_ne]; exact hz.1
  obtain ⟨n, hn⟩ : ∃ n : Nat, (n : Int) = slN c := ⟨(slN c).toNat, by omega⟩
  have hq : 32 / s = (n : Int) := by rw [hn]; exact hz.2.2.1.symm
  have hsp : 1 ≤ s := hz.2.1
  have hn2 : 2 ≤ n := by omega
  have hn32 : n ≤ 32 := by have := slN_le c; omega
  have HN : Hid ((slN c).toNat = n) := by show (slN c).toNat = n; omega
  have HC : Hid (0 ≤ c ∧ c ≤ 7) := ⟨h0, h7⟩
  clear hT hz hs hn h0 h7 hops
  obtain ⟨m, hm⟩ : ∃ m, m = ops.length := ⟨_, rfl⟩
  have HL : Hid (m = ops.length) := hm
  rw [← hm] at hol ⊢
  clear hm
  go_enter Tryd.func3, Tryd.ntmps3
  go_wp2_with fail
  refine (alive_any _ HT.out).mono ?_
  rintro e w1 ⟨rfl, hB⟩
  have HB1 : Hid (Below w.heap.size w w1) := hB
  clear hB
  go_wp2_with fail
  refine (new_any c _ HC.out.1 HC.out.2).mono ?_
  rintro e w2 ⟨b, hb, rfl, hp, hB⟩
  rw [HN.out] at hp
  have H2 : Hid (PS w w2 b c n (fun _ => false) (fun _ => false)) := ⟨hp, HB1.out.trans (hB.mono HB1.out.size), Nat.le_trans HB1.out.size hb, HT.out⟩
  clear hp hB hb HB1 HN HT
  go_wp2_with fail
  refine (refSize_any' HZ.out _).mono ?_
  rintro e w3 ⟨rfl, hB⟩
  have H3 : Hid (PS w w3 b c n (fun _ => false) (fun _ => false)) := H2.out.below hB
  clear hB H2 HZ
  go_upto_region 10 with (fail)
  simp only [hq]
  clear hq hs0 hsp
  have hmk := run_make_row' (P := Tryd.prog) 29 4 (.bool false) 1 Tryd.underlying29 Tryd.info4 rfl .i64 .i64 n (by omega) (by omega)
  have hr1 : (w3.alloc (.cells (madeCells #[.bool false] n) 4)).rowIs w3.heap.size 4 n (fun _ => .bool false) := World.rowIs_made w3 (.bool false) n 4
  have hr2 := World.rowIs_made (w3.alloc (.cells (madeCells #[.bool false] n) 4)) (.bool false) n 4
  have hsz : (w3.alloc (.cells (madeCells #[.bool false] n) 4)).heap.size = w3.heap.size + 1 := by simp
  rw [hsz] at hr2
  have hps2 := (H3.out.below ((Below.refl _ _).alloc (Nat.le_refl _) (.cells (madeCells #[.bool false] n) 4)))
  have hps3 := (hps2.below ((Below.refl _ _).alloc (Nat.le_refl _) (.cells (madeCells #[.bool false] n) 4))).drew
  have HM : Hid (((w3.alloc (.cells (madeCells #[.bool false] n) 4)).alloc (.cells (madeCells #[.bool false] n) 4)).drew.rowIs w3.heap.size 4 n (fun _ => .bool false) ∧
      ((w3.alloc (.cells (madeCells #[.bool false] n) 4)).alloc (.cells (madeCells #[.bool false] n) 4)).drew.rowIs (w3.heap.size + 1) 4 n (fun _ => .bool false) ∧
      PS w ((w3.alloc (.cells (madeCells #[.bool false] n) 4)).alloc (.cells (madeCells #[.bool false] n) 4)).drew b c n (fun _ => false) (fun _ => false) ∧ w.heap.size ≤ w3.heap.size) := ⟨hr1.alloc _, hr2, hps3, H3.out.lo.size⟩
  clear hr1 hr2 hsz hps2 hps3 H3
  go_cut [11, 12] (fun a1 a2 wk => ∃ b1 b2, a1 = .slice (some ⟨b1, 0, none⟩) n n ∧ a2 = .slice (some ⟨b2, 0, none⟩) n n ∧ b1 ≠ b2 ∧ w.heap.size ≤ b1 ∧ w.heap.size ≤ b2 ∧ wk.rowIs b1 4 n (fun _ => .bool false) ∧ wk.rowIs b2 4 n (fun _ => .bool false) ∧ PS w wk b c n (fun _ => false) (fun _ => false))
  case first => as_aux_lemma =>
    go_region
    · go_wp2
      go_meet
      case rel => exact ⟨w3.heap.size, w3.heap.size + 1, rfl, rfl, by omega, HM.out.2.2.2, by have := HM.out.2.2.2; omega, HM.out.1, HM.out.2.1, HM.out.2.2.1⟩
    · go_wp2
      go_meet
      case rel => exact ⟨w3.heap.size + 1, w3.heap.size, rfl, rfl, by omega, by have := HM.out.2.2.2; omega, HM.out.2.2.2, HM.out.2.1, HM.out.1, HM.out.2.2.1⟩
  case rest =>
    obtain ⟨b1, b2, rfl, rfl, hne, hb1, hb2, r1, r2, hps⟩ := hcut
    have PS0 := pp_start hps hne hb1 hb2 r1 r2
    clear hps r1 r2 hb1 hb2 hmk HM
    go_wp2_with fail
    generalize wc.alloc (.cells #[.slice none 0 0, .slice none 0 0, .slice none 0 0, .slice none 0 0, .slice none 0 0, .slice none 0 0, .slice none 0 0, .slice none 0 0, .slice none 0 0, .slice none 0 0] 37) = w5 at *
    generalize wc.heap.size = bk at *
    have HPS : Hid (PpSt w w5 b b1 b2 bk c n (fun _ => false) (fun _ => false) (fun _ => false) (fun _ => false)) := PS0
    clear PS0
    go_loopw [14] (fun i wr => ∃ (j : Nat) (U M : Nat → Bool), j ≤ m ∧ i = .int .i64 j ∧ PpSt w wr b b1 b2 bk c n U M U M) (fun i _ => m - (intOf i).toNat)
    case atStart => exact ⟨0, _, _, Nat.zero_le _, rfl, HPS.out⟩
    case round =>
      obtain ⟨j, U, M, hj, rfl, hps⟩ := hrel
      have HP : Hid (PpSt w wr b b1 b2 bk c n U M U M) := hps
      clear hps HPS
      by_cases hlt : j < m
      · as_aux_lemma =>
        have hlt' : j < ops.length := by rw [← HL.out]; exact hlt
        have hp : ops[j]? = some ops[j] := List.getElem?_eq_getElem hlt'
        obtain ⟨hk1, hk2⟩ := HO.out j _ hp
        generalize ops[j] = o at *
        obtain ⟨kd, k⟩ := o
        have hc1 : wr.cell? ⟨bl, off + j * 2, none⟩ = some (.int .i64 kd) := (HP.out.lo.cell (p := ⟨bl, off + j * 2, none⟩) hbl).trans hk1
        have hc2 : wr.cell? ⟨bl, off + j * 2 + 1, none⟩ = some (.int .i64 k) := (HP.out.lo.cell (p := ⟨bl, off + j * 2 + 1, none⟩) hbl).trans hk2
        have hltI : (j : Int) < (m : Int) := by omega
        clear hk1 hk2 hp HO hlt' HL
        obtain ⟨iv, hiv⟩ : ∃ iv, iv = mayB n k := ⟨_, rfl⟩
        have HI : Hid (iv = mayB n k) := hiv
        clear hiv
        go_upto_region 16 with (fail)
        go_cut [16] (fun v wk => v = .bool iv ∧ wk = wr)
        case first => as_aux_lemma =>
          by_cases h1 : 0 ≤ k
          · go_wp2
            go_meet
            case rel => exact ⟨by rw [HI.out]; simp [mayB, h1], rfl⟩
          · go_wp2
            go_meet
            case rel => exact ⟨by rw [HI.out]; simp [mayB]; omega, rfl⟩
        case rest =>
          obtain ⟨rfl, hw6⟩ := hcut
          replace hw6 := hw6.symm
          subst hw6
          obtain ⟨w6, hw7⟩ : ∃ w6, w6 = wr := ⟨_, rfl⟩
          subst hw7
          go_upto_block 2 with (fail)
          go_cut [] (fun wk => ∃ U' M' : Nat → Bool, PpSt w wk b b1 b2 bk c n U' M' U' M')
          case first => as_aux_lemma =>
            have HCase : Hid ((iv = false ∧ ∀ S, hasB n S k = false) ∨ ∃ y : Nat, iv = true ∧ k = (y : Int) ∧ y < n) := by
              have hh := HI.out
              cases iv
              · exact Or.inl ⟨rfl, fun S => by simp [hasB, ← hh]⟩
              · have := (may_spec n k).1 hh.symm
                exact Or.inr ⟨k.toNat, rfl, by omega, by omega⟩
            clear HI hc1 hc2
            by_cases hk1 : kd = 1
            · as_aux_lemma =>
              subst hk1
              clear HCase
              go_wp2_with fail
              go_loop [17, 18] (fun v i => ∃ (t : Nat) (z : Int), t ≤ n ∧ i = .int .i64 ((t : Int) - 1) ∧ v = .int .i64 z ∧ IsLeast U n t z) (fun _ i => (intOf i + 1).toNat)
              case atStart => exact ⟨n, -1, Nat.le_refl _, rfl, rfl, Or.inl ⟨rfl, fun x h1 h2 => by omega⟩⟩
              case round =>
                obtain ⟨t, z, ht, rfl, rfl, hl⟩ := hrel
                have HL : Hid (IsLeast U n t z) := hl
                clear hl
                by_cases ht0 : t = 0
                · subst ht0
                  rw [show (((0 : Nat) : Int) - 1) = -1 from rfl]
                  rcases HL.out with ⟨rfl, hall⟩ | ⟨z', rfl, _, hz, hU, hlow⟩
                  · as_aux_lemma =>
                    have HA : Hid (∀ x, x < n → U x = true) := fun x hx => hall x (Nat.zero_le _) hx
                    clear hall HL
                    go_wp2_with fail
                    refine (take_none _ HP.out.pg HA.out).mono ?_
                    rintro e w7 ⟨rfl, q, rfl⟩
                    go_wp2_with fail
                    go_meet
                    case rel => exact ⟨U, M, HP.out.drewN q⟩
                  · as_aux_lemma =>
                    have HA : Hid (z' < n ∧ U z' = false ∧ ∀ y, y < z' → U y = true) := ⟨hz, hU, fun y hy => hlow y (Nat.zero_le _) hy⟩
                    have hzI : (z' : Int) < (n : Int) := by omega
                    clear hU hlow HL
                    go_wp2_with fail
                    refine (take_some _ z' HP.out.pg HP.out.tb HA.out.1 HA.out.2.1 HA.out.2.2).mono ?_
                    rintro e w7 ⟨rfl, hp, hB⟩
                    have H7 : Hid (PpSt w w7 b b1 b2 bk c n (up U z' true) M U M) := HP.out.page hB hp
                    have hin := H7.out.ua.cell HA.out.1
                    have hfz := H7.out.ua.frozen z'
                    have hlt7 := H7.out.ua.lt
                    clear hp hB HP HA
                    go_wp2_with fail
                    go_meet
                    case rel => exact ⟨up U z' true, M, H7.out.set1 z' true⟩
                · obtain ⟨t', rfl⟩ : ∃ t', t = t' + 1 := ⟨t - 1, by omega⟩
                  rw [show (((t' + 1 : Nat) : Int) - 1) = (t' : Int) from by omega]
                  have hin : w6.cell? ⟨b1, t', none⟩ = some (.bool (U t')) := HP.out.ua.cell (by omega)
                  have htI : (t' : Int) < (n : Int) := by omega
                  clear ht0
                  cases hU : U t'
                  · as_aux_lemma =>
                    rw [hU] at hin
                    have HN : Hid (IsLeast U n t' (t' : Int)) := IsLeast.here (by omega) hU
                    clear hU HL
                    go_wp2_with fail
                    go_round
                    case rel => exact ⟨t', t', by omega, by go_num, rfl, HN.out⟩
                    case measure => simp [intOf]
                  · as_aux_lemma =>
                    rw [hU] at hin
                    have HN : Hid (IsLeast U n t' z) := HL.out.stay hU
                    clear hU HL
                    go_wp2_with fail
                    go_round
                    case rel => exact ⟨t', z, by omega, by go_num, rfl, HN.out⟩
                    case measure => simp [intOf]
            · by_cases hk2 : kd = 2
              · as_aux_lemma =>
                subst hk2
                have hcs := HCase.out
                clear HCase hk1
                rcases hcs with ⟨rfl, hno⟩ | ⟨y, rfl, rfl, hy⟩
                · as_aux_lemma =>
                  have HNo : Hid (hasB n U k = false) := hno U
                  clear hno
                  go_wp2_with fail
                  refine (free_no _ _ HP.out.pg HNo.out).mono ?_
                  rintro e w7 ⟨rfl, q, rfl⟩
                  go_wp2_with fail
                  go_meet
                  case rel => exact ⟨U, M, HP.out.drewN q⟩
                · have hyI : (y : Int) < (n : Int) := by omega
                  cases hU : U y
                  · as_aux_lemma =>
                    have hM : M y = false := by
                      cases hM : M y
                      · rfl
                      · have := HP.out.pg.sub y hM
                        rw [hU] at this
                        cases this
                    have HNo : Hid (hasB n U (y : Int) = false) := has_nat _ _ _ _ hy hU
                    have HR : Hid (∀ q, PpSt w (((w6.drewN q).setCell ⟨b1, y, none⟩ (.bool false)).setCell ⟨b2, y, none⟩ (.bool false)) b b1 b2 bk c n U M U M) := by
                      intro q
                      have := (((HP.out.drewN q).set1 y false).set2 y false)
                      rwa [up_same U y false hU, up_same M y false hM] at this
                    have hin1 : w6.cell? ⟨b1, y, none⟩ = some (.bool false) := by rw [← hU]; exact HP.out.ua.cell hy
                    have hin2 := HP.out.ma.cell hy
                    have hf1 := HP.out.ua.frozen y
                    have hf2 := HP.out.ma.frozen y
                    clear hU hM
                    go_wp2_with fail
                    refine (free_no _ _ HP.out.pg HNo.out).mono ?_
                    rintro e w7 ⟨rfl, q, rfl⟩
                    go_wp2_with fail
                    go_meet
                    case rel => exact ⟨U, M, HR.out q⟩
                  · as_aux_lemma =>
                    have HU : Hid (U y = true) := hU
                    clear hU
                    go_wp2_with fail
                    refine (free_yes y _ HP.out.pg hy HU.out).mono ?_
                    rintro e w7 ⟨rfl, hp, hB⟩
                    have H7 : Hid (PpSt w w7 b b1 b2 bk c n (up U y false) (up M y false) U M) := HP.out.page hB hp
                    have hin1 : w7.cell? ⟨b1, y, none⟩ = some (.bool true) := by rw [← HU.out]; exact H7.out.ua.cell hy
                    have hin2 := H7.out.ma.cell hy
                    have hf1 := H7.out.ua.frozen y
                    have hf2 := H7.out.ma.frozen y
                    clear hp hB HU HP
                    go_wp2_with fail
                    go_meet
                    case rel => exact ⟨up U y false, up M y false, (H7.out.set1 y false).set2 y false⟩
              · by_cases hk3 : kd = 3
                · as_aux_lemma =>
                  subst hk3
                  have hcs := HCase.out
                  clear HCase hk1 hk2
                  rcases hcs with ⟨rfl, hno⟩ | ⟨y, rfl, rfl, hy⟩
                  · as_aux_lemma =>
                    have HNo : Hid (hasB n U k = false) := hno U
                    clear hno
                    go_wp2_with fail
                    refine (mark_no _ _ HP.out.pg HNo.out).mono ?_
                    rintro e w7 ⟨rfl, q, rfl⟩
                    go_wp2_with fail
                    go_meet
                    case rel => exact ⟨U, M, HP.out.drewN q⟩
                  · have hyI : (y : Int) < (n : Int) := by omega
                    have hin1 := HP.out.ua.cell hy
                    have hin2 := HP.out.ma.cell hy
                    cases hU : U y
                    · as_aux_lemma =>
                      rw [hU] at hin1
                      have HNo : Hid (hasB n U (y : Int) = false) := has_nat _ _ _ _ hy hU
                      clear hU
                      generalize M y = my at *
                      go_wp2_with fail
                      refine (mark_no _ _ HP.out.pg HNo.out).mono ?_
                      rintro e w7 ⟨rfl, q, rfl⟩
                      go_wp2_with fail
                      go_meet
                      case rel => exact ⟨U, M, HP.out.drewN q⟩
                    · rw [hU] at hin1
                      have HU : Hid (U y = true) := hU
                      clear hU
                      cases hM : M y
                      · as_aux_lemma =>
                        rw [hM] at hin2
                        have HM : Hid (M y = false) := hM
                        clear hM
                        go_wp2_with fail
                        refine (mark_yes y _ HP.out.pg hy HU.out HM.out).mono ?_
                        rintro e w7 ⟨rfl, hp, hB⟩
                        have H7 : Hid (PpSt w w7 b b1 b2 bk c n U (up M y true) U M) := HP.out.page hB hp
                        have hin3 := H7.out.ma.cell hy
                        have hf2 := H7.out.ma.frozen y
                        clear hp hB HU HM HP hin1 hin2
                        go_wp2_with fail
                        go_meet
                        case rel => exact ⟨U, up M y true, H7.out.set2 y true⟩
                      · as_aux_lemma =>
                        rw [hM] at hin2
                        have H1 : Hid (hasB n U (y : Int) = true) := has_nat _ _ _ _ hy HU.out
                        have H2 : Hid (hasB n M (y : Int) = true) := has_nat _ _ _ _ hy hM
                        clear hM HU
                        go_wp2_with fail
                        refine (mark_again _ _ HP.out.pg H1.out H2.out).mono ?_
                        rintro e w7 ⟨rfl, q, rfl⟩
                        go_wp2_with fail
                        go_meet
                        case rel => exact ⟨U, M, HP.out.drewN q⟩
                · as_aux_lemma =>
                  have hkb1 : (kd == 1) = false := by simpa using hk1
                  have hkb2 : (kd == 2) = false := by simpa using hk2
                  have hkb3 : (kd == 3) = false := by simpa using hk3
                  clear hk1 hk2 hk3 HCase
                  obtain ⟨i0, hi, hz0, hz1, hz2⟩ := info_parts Tryd.info3
                  go_wp2_with fail
                  go_loopw [22, 23] (fun al v wk => ∃ t : Nat, t ≤ n ∧ v = .int .i64 t ∧ SwSt w6 wk b1 b2 n (goneS U M) (swA U M t) (swC M t) al t) (fun _ v _ => n - (intOf v).toNat)
                  case atStart => exact ⟨0, Nat.zero_le _, rfl, by rw [swA_zero]; exact HP.out.ua, by rw [swC_zero]; exact HP.out.ma, But2.refl _ _ _, World.ownsRow_nil _ _ _ _, HP.out.ua.lt, HP.out.ma.lt, HP.out.ne⟩
                  case round =>
                    obtain ⟨t, ht, rfl, hsw⟩ := hrel
                    have HS : Hid (SwSt w6 wr b1 b2 n (goneS U M) (swA U M t) (swC M t) u22 t) := hsw
                    clear hsw
                    by_cases hlt2 : t < n
                    · have hin1 : wr.cell? ⟨b1, t, none⟩ = some (.bool (U t)) := by have := HS.out.ra.cell hlt2; simpa [swA] using this
                      have hin2 : wr.cell? ⟨b2, t, none⟩ = some (.bool (M t)) := by have := HS.out.rc.cell hlt2; simpa [swC] using this
                      have hf1 := HS.out.ra.frozen t
                      have hf2 := HS.out.rc.frozen t
                      have htI : (t : Int) < (n : Int) := by omega
                      by_cases hG : goneS U M t = true
                      · as_aux_lemma =>
                        have hG' := hG
                        simp [goneS] at hG'
                        rw [hG'.1] at hin1
                        rw [hG'.2] at hin2
                        have HG : Hid (goneS U M t = true) := hG
                        have HA : Hid (up (swA U M t) t false = swA U M (t + 1)) := swA_next U M t false (by simp [hG'.2])
                        have hcm := cnt_le (goneS U M) t
                        have HH8 : Hid (cnt (goneS U M) t + 1 ≤ maxLen ∧ (cnt (goneS U M) t + 1) * 8 ≤ 140737488355328 ∧ w6.heap.size ≤ (wr.alloc (.cells #[.int .i64 (t : Int)] 3)).heap.size) := ⟨by unfold maxLen; omega, by omega, by have := HS.out.bu.size; simp; omega⟩
                        have HNO : Hid (∀ j u, [Value.int .i64 (t : Int)][j]? = some u → (wr.alloc (.cells #[.int .i64 (t : Int)] 3)).cell? ((⟨wr.heap.size, 0, none⟩ : Addr).add j) = some u) := new_one wr _ _
                        clear hG hG' hcm
                        go_wp2_with (at_builtin; refine wpList_append_own _ rfl _ _ 43 rfl w6.heap.size 3 i0 (.int .i64 0) 1 8 Tryd.underlying43 hi hz0 hz1 hz2 rfl (by decide) _ _ _ rfl (HS.out.ow.alloc _) ⟨wr.heap.size, 0, none⟩ 1 1 [.int .i64 (t : Int)] rfl rfl HNO.out (one_of rfl) HH8.out.1 HH8.out.2.1 HH8.out.2.2 ?_)
                        · intro v' w8 hown' hgrow _
                          have H8 : Hid (SwSt w6 w8 b1 b2 n (goneS U M) (swA U M t) (swC M t) v' (t + 1)) := HS.out.grow HG.out _ hown' hgrow
                          have hin3 := H8.out.ra.cell hlt2
                          have hin4 := H8.out.rc.cell hlt2
                          have hf3 := H8.out.ra.frozen t
                          have hf4 := H8.out.rc.frozen t
                          have hne2 := H8.out.ne
                          have H9 : Hid (SwSt w6 ((w8.setCell ⟨b1, t, none⟩ (.bool false)).setCell ⟨b2, t, none⟩ (.bool false)) b1 b2 n (goneS U M) (swA U M (t + 1)) (swC M (t + 1)) v' (t + 1)) := by
                            have := (H8.out.set1 t false).set2 t false
                            rw [HA.out, swC_next] at this
                            exact this
                          clear hown' hgrow HNO HH8 HS hin1 hin2 hf1 hf2 H8 HA HG
                          go_wp2_with fail
                          go_roundw
                          case rel => exact ⟨t + 1, by omega, by go_num, H9.out⟩
                          case measure => simp [intOf]; omega
                      · have HG : Hid (goneS U M t = false) := by show goneS U M t = false; simpa using hG
                        have HA : Hid (swA U M t = swA U M (t + 1)) := by
                          refine swA_stay U M t ?_
                          have := HG.out
                          revert this
                          unfold goneS
                          cases U t <;> cases M t <;> simp
                        have H9 : Hid (SwSt w6 (wr.setCell ⟨b2, t, none⟩ (.bool false)) b1 b2 n (goneS U M) (swA U M (t + 1)) (swC M (t + 1)) u22 (t + 1)) := by
                          have := ((HS.out.same HG.out).set2 t false)
                          rw [HA.out, swC_next] at this
                          exact this
                        clear hG HA HS
                        have hgm := HG.out
                        clear HG
                        unfold goneS at hgm
                        cases hU : U t
                        · as_aux_lemma =>
                          rw [hU] at hin1
                          clear hU hgm
                          generalize M t = my at *
                          go_wp2_with fail
                          go_roundw
                          case rel => exact ⟨t + 1, by omega, by go_num, H9.out⟩
                          case measure => simp [intOf]; omega
                        · as_aux_lemma =>
                          have hM : M t = true := by rw [hU] at hgm; simpa using hgm
                          rw [hU] at hin1
                          rw [hM] at hin2
                          clear hU hM hgm
                          go_wp2_with fail
                          go_roundw
                          case rel => exact ⟨t + 1, by omega, by go_num, H9.out⟩
                          case measure => simp [intOf]; omega
                    · as_aux_lemma =>
                      have e : t = n := by omega
                      subst e
                      obtain ⟨aa, ca, ea⟩ := own_len HS.out.ow
                      subst ea
                      have H7 : Hid (PpSt w wr b b1 b2 bk c t U M M (fun _ => false)) := by
                        have h1 := HP.out.both HS.out.bu HS.out.ra HS.out.rc
                        refine h1.congr (fun x hx => ?_) (fun x hx => ?_)
                        · simp only [swA, hx, if_true]
                          cases hM : M x
                          · simp
                          · simp [HP.out.pg.sub x hM]
                        · simp [swC, hx]
                      have hcm := cnt_le (goneS U M) t
                      go_wp2_with fail
                      refine (sweep_any _ H7.out.pg).mono ?_
                      rintro e w8 ⟨r, rfl, ho, hp, hB⟩
                      obtain ⟨ar, cr, rfl⟩ := own_len ho
                      have tp : Ty [55] w.heap.size wr w8 := Ty.of_but hB H7.out.pg.hd H7.out.hb
                      have ho' := ho
                      rw [← els_len] at ho'
                      have hk8 := H7.out.bo.keep tp (by decide) (by decide) (by decide) H7.out.lo.size (by rw [els_len]; omega) ho'
                      rw [els_len] at hk8
                      have HK8 : Hid (KeepOk w8 w.heap.size bk (.slice ar (cnt (goneS U M) t) cr) (els (goneS U M) t)) := hk8
                      have H8 : Hid (PpSt w w8 b b1 b2 bk c t M (fun _ => false) M (fun _ => false)) := H7.out.page hB hp
                      have HO8 : Hid (w8.ownsRow wr.heap.size 3 1 (.slice ar (cnt (goneS U M) t) cr) (cnt (goneS U M) t) ((els (goneS U M) t).map (Value.int .i64)) ∧ w8.ownsRow w6.heap.size 3 1 (.slice aa (cnt (goneS U M) t) ca) (cnt (goneS U M) t) ((els (goneS U M) t).map (Value.int .i64))) := ⟨ho, tp.own HS.out.ow (by decide)⟩
                      clear ho ho' hp hB tp hk8 H7 HS HP
                      go_wp2_with fail
                      refine (keep_any _ _ _ HK8.out H8.out.lo.size).mono ?_
                      rintro e w9 ⟨rfl, hb9, ht9⟩
                      have H9 : Hid (PpSt w w9 b b1 b2 bk c t M (fun _ => false) M (fun _ => false)) := H8.out.book ht9 hb9
                      have HSS : Hid (SrcAt w9 (.slice ar (cnt (goneS U M) t) cr) (els (goneS U M) t) ∧ SrcAt w9 (.slice aa (cnt (goneS U M) t) ca) (els (goneS U M) t)) := by
                        have h1 := ht9.own HO8.out.1 (by decide)
                        have h2 := ht9.own HO8.out.2 (by decide)
                        have e := els_len (goneS U M) t
                        rw [← e] at h1 h2
                        have g1 := src_of_own h1
                        have g2 := src_of_own h2
                        rw [e] at g1 g2
                        exact ⟨g1, g2⟩
                      have HEL : Hid ((els (goneS U M) t).length ≤ maxLen) := by show (els (goneS U M) t).length ≤ maxLen; rw [els_len]; unfold maxLen; omega
                      clear hb9 ht9 H8 HO8 HK8
                      go_wp2_with fail
                      refine (same_any (els (goneS U M) t) _ _ _ HEL.out HSS.out.1 HSS.out.2).mono ?_
                      rintro e w10 ⟨rfl, q, rfl⟩
                      go_wp2_with fail
                      go_meet
                      case rel => exact ⟨M, fun _ => false, H9.out.drewN q⟩
          case rest => as_aux_lemma =>
            obtain ⟨U6, M6, hps6⟩ := hcut
            obtain ⟨w7, hw7⟩ : ∃ w7, w7 = wc := ⟨_, rfl⟩
            subst hw7
            have HP7 : Hid (PpSt w w7 b b1 b2 bk c n U6 M6 U6 M6) := hps6
            clear hps6 HP HI hc1 hc2
            go_upto_block 7 with (fail)
            go_cut [25] (fun al wk => wk.ownsRow w7.heap.size 3 1 al (cnt U6 n) ((els U6 n).map (Value.int .i64)) ∧ Below w7.heap.size w7 wk)
            case first => as_aux_lemma =>
              obtain ⟨i0, hi, hz0, hz1, hz2⟩ := info_parts Tryd.info3
              go_wp2_with fail
              go_loopw [25, 26] (fun al v wk => ∃ t : Nat, t ≤ n ∧ v = .int .i64 t ∧ wk.ownsRow w7.heap.size 3 1 al (cnt U6 t) ((els U6 t).map (Value.int .i64)) ∧ Below w7.heap.size w7 wk) (fun _ v _ => n - (intOf v).toNat)
              case atStart => exact ⟨0, Nat.zero_le _, rfl, World.ownsRow_nil _ _ _ _, Below.refl _ _⟩
              case round =>
                obtain ⟨t, ht, rfl, hown, hB⟩ := hrel
                have HOw : Hid (wr.ownsRow w7.heap.size 3 1 u25 (cnt U6 t) ((els U6 t).map (Value.int .i64))) := hown
                have HBl : Hid (Below w7.heap.size w7 wr) := hB
                clear hown hB
                by_cases hlt2 : t < n
                · have hin : wr.cell? ⟨b1, t, none⟩ = some (.bool (U6 t)) := (HBl.out.cell (p := ⟨b1, t, none⟩) HP7.out.ua.lt).trans (HP7.out.ua.cell hlt2)
                  have hcm := cnt_le U6 t
                  have htI : (t : Int) < (n : Int) := by omega
                  cases hU : U6 t
                  · as_aux_lemma =>
                    rw [hU] at hin
                    have HE : Hid (els U6 (t + 1) = els U6 t ∧ cnt U6 (t + 1) = cnt U6 t) := by
                      have e : els U6 (t + 1) = els U6 t := by show els U6 t ++ (if U6 t then [(t : Int)] else []) = _; rw [hU]; simp
                      exact ⟨e, by rw [← els_len, e, els_len]⟩
                    clear hU
                    go_wp2_with fail
                    go_roundw
                    case rel => exact ⟨t + 1, by omega, by go_num, by rw [HE.out.1, HE.out.2]; exact HOw.out, HBl.out⟩
                    case measure => simp [intOf]; omega
                  · as_aux_lemma =>
                    rw [hU] at hin
                    have HE : Hid (els U6 (t + 1) = els U6 t ++ [(t : Int)] ∧ cnt U6 (t + 1) = cnt U6 t + 1) := by
                      have e : els U6 (t + 1) = els U6 t ++ [(t : Int)] := by show els U6 t ++ (if U6 t then [(t : Int)] else []) = _; rw [hU]; simp
                      exact ⟨e, by rw [← els_len, e, List.length_append, els_len]; rfl⟩
                    have hb1' : w7.heap.size ≤ wr.heap.size := HBl.out.size
                    have HH8 : Hid (cnt U6 t + 1 ≤ maxLen ∧ (cnt U6 t + 1) * 8 ≤ 140737488355328 ∧ w7.heap.size ≤ (wr.alloc (.cells #[.int .i64 (t : Int)] 3)).heap.size) := ⟨by unfold maxLen; omega, by omega, by simp; omega⟩
                    have HNO : Hid (∀ j u, [Value.int .i64 (t : Int)][j]? = some u → (wr.alloc (.cells #[.int .i64 (t : Int)] 3)).cell? ((⟨wr.heap.size, 0, none⟩ : Addr).add j) = some u) := new_one wr _ _
                    clear hU hb1'
                    go_wp2_with (at_builtin; refine wpList_append_own _ rfl _ _ 43 rfl w7.heap.size 3 i0 (.int .i64 0) 1 8 Tryd.underlying43 hi hz0 hz1 hz2 rfl (by decide) _ _ _ rfl (HOw.out.alloc _) ⟨wr.heap.size, 0, none⟩ 1 1 [.int .i64 (t : Int)] rfl rfl HNO.out (one_of rfl) HH8.out.1 HH8.out.2.1 HH8.out.2.2 ?_)
                    · intro v' w8 hown' hgrow _
                      have HOw2 : Hid (w8.ownsRow w7.heap.size 3 1 v' (cnt U6 t + 1) ((els U6 t).map (Value.int .i64) ++ [.int .i64 (t : Int)])) := hown'
                      have HB2 : Hid (Below w7.heap.size w7 w8) := (HBl.out.alloc HBl.out.size _).grown hgrow HH8.out.2.2 (fun q hq => (HOw.out.lt q hq).1)
                      clear hown' hgrow HNO HH8 HOw HBl hin
                      go_wp2_with fail
                      go_roundw
                      case rel => exact ⟨t + 1, by omega, by go_num, by rw [HE.out.1, HE.out.2, List.map_append]; exact HOw2.out, HB2.out⟩
                      case measure => simp [intOf]; omega
                · as_aux_lemma =>
                  have e : t = n := by omega
                  subst e
                  go_wp2_with fail
                  go_meet
                  case rel => exact ⟨HOw.out, HBl.out⟩
            case rest => as_aux_lemma =>
              obtain ⟨hown8, hB8⟩ := hcut
              obtain ⟨w8, hw8⟩ : ∃ w8, w8 = wc := ⟨_, rfl⟩
              subst hw8
              obtain ⟨aa, ca, eaa⟩ := own_len hown8
              subst eaa
              have HP8 : Hid (PpSt w w8 b b1 b2 bk c n U6 M6 U6 M6) := HP7.out.below hB8
              have HA8 : Hid (w8.ownsRow w7.heap.size 3 1 (.slice aa (cnt U6 n) ca) (cnt U6 n) ((els U6 n).map (Value.int .i64))) := hown8
              have hcN := cnt_le U6 n
              clear hown8 hB8 HP7
              go_wp2_with fail
              refine (all_any _ HP8.out.pg).mono ?_
              rintro e w9 ⟨va, rfl, howna, hBa⟩
              obtain ⟨av, cv, rfl⟩ := own_len howna
              have ho' := howna
              rw [← els_len] at ho'
              have hk9 := HP8.out.bo.keep (K := []) (B' := 0) (Ty.of_below hBa) (by simp) (by simp) (by simp) HP8.out.lo.size (by rw [els_len]; omega) ho'
              rw [els_len] at hk9
              have HK9 : Hid (KeepOk w9 w.heap.size bk (.slice av (cnt U6 n) cv) (els U6 n)) := hk9
              have HP9 : Hid (PpSt w w9 b b1 b2 bk c n U6 M6 U6 M6) := HP8.out.below hBa
              have HO9 : Hid (w9.ownsRow w8.heap.size 3 1 (.slice av (cnt U6 n) cv) (cnt U6 n) ((els U6 n).map (Value.int .i64)) ∧ w9.ownsRow w7.heap.size 3 1 (.slice aa (cnt U6 n) ca) (cnt U6 n) ((els U6 n).map (Value.int .i64))) := ⟨howna, (Ty.of_below (K := []) (B := 0) hBa).own HA8.out (by simp)⟩
              clear howna ho' hk9 hBa HP8 HA8
              go_wp2_with fail
              refine (keep_any _ _ _ HK9.out HP9.out.lo.size).mono ?_
              rintro e w10 ⟨rfl, hb10, ht10⟩
              have HP10 : Hid (PpSt w w10 b b1 b2 bk c n U6 M6 U6 M6) := HP9.out.book ht10 hb10
              have HSS : Hid (SrcAt w10 (.slice av (cnt U6 n) cv) (els U6 n) ∧ SrcAt w10 (.slice aa (cnt U6 n) ca) (els U6 n)) := by
                have h1 := ht10.own HO9.out.1 (by decide)
                have h2 := ht10.own HO9.out.2 (by decide)
                have e := els_len U6 n
                rw [← e] at h1 h2
                have g1 := src_of_own h1
                have g2 := src_of_own h2
                rw [e] at g1 g2
                exact ⟨g1, g2⟩
              have HEL : Hid ((els U6 n).length ≤ maxLen) := by show (els U6 n).length ≤ maxLen; rw [els_len]; unfold maxLen; omega
              clear hb10 ht10 HP9 HO9 HK9
              go_wp2_with fail
              refine (count_any _ HP10.out.pg).mono ?_
              rintro e w11 ⟨rfl, q0, rfl⟩
              have hcase : (ask < 0 ∧ ∀ S, hasB n S ask = false) ∨ (0 ≤ ask ∧ (n : Int) ≤ ask ∧ ∀ S, hasB n S ask = false) ∨ ∃ y : Nat, y < n ∧ ask = (y : Int) := by
                by_cases h0 : ask < 0
                · exact Or.inl ⟨h0, fun S => by simp [hasB, mayB]; omega⟩
                · by_cases h1 : (n : Int) ≤ ask
                  · exact Or.inr (Or.inl ⟨by omega, h1, fun S => by simp [hasB, mayB]; omega⟩)
                  · exact Or.inr (Or.inr ⟨ask.toNat, by omega, by omega⟩)
              generalize cnt U6 n = cN at *
              rcases hcase with ⟨hA, hB⟩ | ⟨hA0, hA, hB⟩ | ⟨y, hy, rfl⟩
              · as_aux_lemma =>
                have H1 : Hid (hasB n U6 ask = false ∧ hasB n M6 ask = false) := ⟨hB U6, hB M6⟩
                clear hB
                go_wp2_with fail
                refine (same_any (els U6 n) _ _ _ HEL.out (HSS.out.1.drewN _) (HSS.out.2.drewN _)).mono ?_
                rintro e w11 ⟨rfl, q1, rfl⟩
                go_wp2_with fail
                refine (class_any _ (HP10.out.pg.drewN _)).mono ?_
                rintro e w11 ⟨rfl, rfl⟩
                go_wp2_with fail
                refine (used_is _ false _ (HP10.out.pg.drewN _) H1.out.1).mono ?_
                rintro e w11 ⟨rfl, q2, rfl⟩
                go_wp2_with fail
                refine (marked_is _ false _ (HP10.out.pg.drewN _) H1.out.2).mono ?_
                rintro e w11 ⟨rfl, q3, rfl⟩
                go_wp2_with fail
                go_roundw
                case rel => exact ⟨j + 1, U6, M6, by omega, by go_num, HP10.out.drewN _⟩
                case measure => simp [intOf]; omega
              · as_aux_lemma =>
                have H1 : Hid (hasB n U6 ask = false ∧ hasB n M6 ask = false) := ⟨hB U6, hB M6⟩
                clear hB
                go_wp2_with fail
                refine (same_any (els U6 n) _ _ _ HEL.out (HSS.out.1.drewN _) (HSS.out.2.drewN _)).mono ?_
                rintro e w11 ⟨rfl, q1, rfl⟩
                go_wp2_with fail
                refine (class_any _ (HP10.out.pg.drewN _)).mono ?_
                rintro e w11 ⟨rfl, rfl⟩
                go_wp2_with fail
                refine (used_is _ false _ (HP10.out.pg.drewN _) H1.out.1).mono ?_
                rintro e w11 ⟨rfl, q2, rfl⟩
                go_wp2_with fail
                refine (marked_is _ false _ (HP10.out.pg.drewN _) H1.out.2).mono ?_
                rintro e w11 ⟨rfl, q3, rfl⟩
                go_wp2_with fail
                go_roundw
                case rel => exact ⟨j + 1, U6, M6, by omega, by go_num, HP10.out.drewN _⟩
                case measure => simp [intOf]; omega
              · as_aux_lemma =>
                have hin1 := HP10.out.ua.cell hy
                have hin2 := HP10.out.ma.cell hy
                have hyI : (y : Int) < (n : Int) := by omega
                have H1 : Hid (hasB n U6 (y : Int) = U6 y ∧ hasB n M6 (y : Int) = M6 y) := ⟨has_nat _ _ _ _ hy rfl, has_nat _ _ _ _ hy rfl⟩
                generalize U6 y = sy at *
                generalize M6 y = my at *
                go_wp2_with fail
                refine (same_any (els U6 n) _ _ _ HEL.out (HSS.out.1.drewN _) (HSS.out.2.drewN _)).mono ?_
                rintro e w11 ⟨rfl, q1, rfl⟩
                go_wp2_with fail
                refine (class_any _ (HP10.out.pg.drewN _)).mono ?_
                rintro e w11 ⟨rfl, rfl⟩
                go_wp2_with fail
                refine (used_is _ sy _ (HP10.out.pg.drewN _) H1.out.1).mono ?_
                rintro e w11 ⟨rfl, q2, rfl⟩
                go_wp2_with fail
                refine (marked_is _ my _ (HP10.out.pg.drewN _) H1.out.2).mono ?_
                rintro e w11 ⟨rfl, q3, rfl⟩
                go_wp2_with fail
                go_roundw
                case rel => exact ⟨j + 1, U6, M6, by omega, by go_num, HP10.out.drewN _⟩
                case measure => simp [intOf]; omega
      · as_aux_lemma =>
        have e : j = m := by omega
        subst e
        clear HO
        go_wp2_with fail
        refine (take_nil _).mono ?_
        rintro e w6 ⟨rfl, rfl⟩
        go_wp2_with fail
        refine (count_nil _).mono ?_
        rintro e w6 ⟨rfl, rfl⟩
        go_wp2_with fail
        refine (class_nil _).mono ?_
        rintro e w6 ⟨rfl, rfl⟩
        go_wp2_with fail
        refine (free_nil _ _).mono ?_
        rintro e w6 ⟨rfl, q1, rfl⟩
        go_wp2_with fail
        refine (used_nil _ _).mono ?_
        rintro e w6 ⟨rfl, q2, rfl⟩
        go_wp2_with fail
        refine (mark_nil _ _).mono ?_
        rintro e w6 ⟨rfl, q3, rfl⟩
        go_wp2_with fail
        refine (marked_nil _ _).mono ?_
        rintro e w6 ⟨rfl, q4, rfl⟩
        go_wp2_with fail
        refine (sweep_nil _).mono ?_
        rintro e w6 ⟨rfl, rfl⟩
        go_wp2_with fail
        refine (all_nil _).mono ?_
        rintro e w6 ⟨rfl, rfl⟩
        go_wp2_with fail
        have HPz := HP.out.drewN (q1 + q2 + q3 + q4)
        obtain ⟨vi, vw, I, W, hbk, hIl, hIW, hL9⟩ := HPz.bo
        refine (apart_any _ hbk HPz.lo.size hIW hIl hL9).mono ?_
        rintro e w7 ⟨rfl, hB7⟩
        have HLz : Hid (Below w.heap.size w w7) := HPz.lo.trans hB7
        clear hbk hIW hL9 HPz hB7
        go_wp2_with fail
        go_ret
        exact ⟨rfl, HLz.out⟩

end Go.Proofs.YtpofggadlaonfaaDoor

/- The walk of CheckEach. -/
import Derived.Test.YtmacipjdmaaccaaCeA
import Derived.Deep.DeepCutAuto
namespace Go.Proofs.Ytmacipjdmaaccaa
open Go.RowKit

set_option maxRecDepth 100000 in
set_option maxHeartbeats 8000000 in
theorem each_small (p : Pg) (ag az af : Option Addr) (cg cs cf : Nat) (w : World) (hl : Len p) (hs : Hid (decide (szP p ≤ 3000) = false)) (hp : PgV Any w (.slice ag p.glob.length cg) (.slice az p.shapes.length cs) (.slice af p.funcs.length cf) p) :
    Calls Try.prog 4 #[.agg #[.slice ag p.glob.length cg, .slice az p.shapes.length cs, .slice af p.funcs.length cf]] w fun e w' => e = .returned (.bool true) ∧ Below w.heap.size w w' := by
  obtain ⟨wp, hwp⟩ : ∃ wp, w.alloc (.cells #[.slice ag p.glob.length cg, .slice az p.shapes.length cs, .slice af p.funcs.length cf] 26) = wp := ⟨_, rfl⟩
  have HQ : Hid (OnR w wp p ag az af cg cs cf) := onR_start hwp hp
  have HL : Hid (Len p) := hl
  obtain ⟨d0, d1, d2⟩ := HQ.out.c
  clear hp hl
  go_enter Try.func4, Try.ntmps4
  go_wp2_with fail
  refine (smallN HL.out ag az af cg cs cf _ hs HQ.out.pp).mono ?_
  rintro e w1 ⟨rfl, hb⟩
  have HB : Hid (Below w.heap.size w w1) := (HQ.out.below hb).low
  clear hb d0 d1 d2 hwp
  go_wp2_with fail
  refine (alive_any _).mono ?_
  rintro e w2 ⟨rfl, hb⟩
  have HB2 : Hid (Below w.heap.size w w2) := HB.out.trans (hb.mono HB.out.size)
  clear hb
  go_wp2_with fail
  go_ret
  exact ⟨rfl, HB2.out⟩

theorem ret_and {a b : Bool} (h : a = b) : Value.bool a = Value.bool b := by rw [h]
set_option maxRecDepth 100000 in
set_option maxHeartbeats 16000000 in
theorem each_big (p : Pg) (ag az af : Option Addr) (cg cs cf : Nat) (w : World) (hg : Hid (Gd p)) (hp : PgV Any w (.slice ag p.glob.length cg) (.slice az p.shapes.length cs) (.slice af p.funcs.length cf) p) :
    Calls Try.prog 4 #[.agg #[.slice ag p.glob.length cg, .slice az p.shapes.length cs, .slice af p.funcs.length cf]] w fun e w' => e = .returned (.bool true) ∧ Below w.heap.size w w' := by
  obtain ⟨wp, hwp⟩ : ∃ wp, w.alloc (.cells #[.slice ag p.glob.length cg, .slice az p.shapes.length cs, .slice af p.funcs.length cf] 26) = wp := ⟨_, rfl⟩
  have HQ : Hid (OnR w wp p ag az af cg cs cf) := onR_start hwp hp
  have HSm : Hid (decide (szP p ≤ 3000) = true) := decide_eq_true hg.out.sz
  have HZ : Hid (p.glob.length ≤ 3000 ∧ p.funcs.length ≤ 3000) := by
    have := hg.out.sz
    unfold szP at this
    exact ⟨by omega, by omega⟩
  obtain ⟨d0, d1, d2⟩ := HQ.out.c
  clear hp
  go_enter Try.func4, Try.ntmps4
  go_wp2_with fail
  refine (smallN hg.out.len ag az af cg cs cf _ HSm HQ.out.pp).mono ?_
  rintro e w1 ⟨rfl, hb⟩
  have HQ1 : Hid (OnR w w1 p ag az af cg cs cf) := HQ.out.below hb
  clear hb d0 d1 d2 hwp HQ
  go_wp2_with fail
  refine (alive_any _).mono ?_
  rintro e w2 ⟨rfl, hb⟩
  have HQ2 : Hid (OnR w w2 p ag az af cg cs cf) := HQ1.out.below hb
  clear hb HQ1
  obtain ⟨d0, d1, d2⟩ := HQ2.out.c
  go_wp2_with fail
  refine (program_any p ag az af cg cs cf hg _ HQ2.out.pp).mono ?_
  rintro e w3 ⟨he, hb⟩
  obtain ⟨P0, hP0⟩ : ∃ P0, (progE p).1 = P0 := ⟨_, rfl⟩
  obtain ⟨P1, hP1⟩ : ∃ P1, (progE p).2.1 = P1 := ⟨_, rfl⟩
  obtain ⟨P2, hP2⟩ : ∃ P2, (progE p).2.2 = P2 := ⟨_, rfl⟩
  have HPr : Hid ((P0 == 0) = (((oB p && gB p p.glob.length) && fB p p.funcs.length) && mB p)) := by unfold Hid; rw [← hP0]; exact each_is p
  unfold ProgIs at he
  rw [hP0, hP1, hP2] at he
  subst he
  clear hP0 hP1 hP2
  have hB : Below w3.heap.size w3 (w3.alloc (.cells #[.int .i64 (P1 : Int), .int .i64 (P2 : Int)] 31)) := (Below.refl _ _).alloc (Nat.le_refl _) _
  have HQ4 : Hid (OnR w (w3.alloc (.cells #[.int .i64 (P1 : Int), .int .i64 (P2 : Int)] 31)) p ag az af cg cs cf) := (HQ2.out.below hb).below hB
  obtain ⟨w4, hw4⟩ : ∃ w4, w3.alloc (.cells #[.int .i64 (P1 : Int), .int .i64 (P2 : Int)] 31) = w4 := ⟨_, rfl⟩
  rw [hw4] at HQ4
  clear hb hB HQ2 d0 d1 d2
  obtain ⟨d0, d1, d2⟩ := HQ4.out.c
  go_upto_region 4 with (fail)
  clear hw4
  go_cut [5] (fun v wk => v = .bool (oB p) ∧ wk = w4)
  case first => as_aux_lemma =>
    obtain ⟨c, hc⟩ : ∃ c, Hid (chkN p.shapes = c) := ⟨_, rfl⟩
    go_wp2_with fail
    refine (refShapes_any hc _ _ (sg_sh HQ4.out.pp.shapes)).mono ?_
    rintro e wz ⟨rfl, hz⟩
    subst wz
    have HO : Hid (oB p = (c == 0 && (decide (p.glob.length ≤ 16) && (decide (1 ≤ p.funcs.length) && decide (p.funcs.length ≤ 16))))) := by unfold Hid oB; rw [hc.out]
    clear hc HPr
    by_cases h0 : c = 0
    · subst h0
      by_cases h1 : p.glob.length ≤ 16
      · have h1' : (p.glob.length : Int) ≤ 16 := by omega
        by_cases h2 : 1 ≤ p.funcs.length
        · have h2' : (1 : Int) ≤ (p.funcs.length : Int) := by omega
          by_cases h3 : p.funcs.length ≤ 16
          · have h3' : (p.funcs.length : Int) ≤ 16 := by omega
            go_wp2_with fail
            go_meet
            case rel => exact ⟨ret_and (by rw [HO.out]; simp [h1, h2, h3]), rfl⟩
          · have h3' : ¬ (p.funcs.length : Int) ≤ 16 := by omega
            go_wp2_with fail
            go_meet
            case rel => exact ⟨ret_and (by rw [HO.out]; simp [h1, h2, h3]; try omega), rfl⟩
        · have h2' : ¬ (1 : Int) ≤ (p.funcs.length : Int) := by omega
          go_wp2_with fail
          go_meet
          case rel => exact ⟨ret_and (by rw [HO.out]; simp [h1, h2]; try omega), rfl⟩
      · have h1' : ¬ (p.glob.length : Int) ≤ 16 := by omega
        go_wp2_with fail
        go_meet
        case rel => exact ⟨ret_and (by rw [HO.out]; simp [h1]; try omega), rfl⟩
    · have hcb : (c == 0) = false := by simpa using h0
      go_wp2_with fail
      go_meet
      case rel => exact ⟨ret_and (by rw [HO.out]; simp [hcb]), rfl⟩
  case rest =>
    obtain ⟨rfl, hwc⟩ := hcut
    subst wc
    generalize oB p = o at *
    go_wp2_with fail
    clear d0 d1 d2
    go_loopw [5, 6] (fun ok i wr => ∃ m : Nat, m ≤ p.glob.length ∧ i = .int .i64 m ∧ ok = .bool (o && gB p m) ∧ Hid (OnR w wr p ag az af cg cs cf)) (fun _ i _ => p.glob.length - (intOf i).toNat)
    case atStart => exact ⟨0, Nat.zero_le _, rfl, ret_and (by simp [gB]), HQ4⟩
    case round =>
      obtain ⟨m, hm, rfl, rfl, HR⟩ := hrel
      clear HQ4
      obtain ⟨d0, d1, d2⟩ := HR.out.c
      by_cases hlt : m < p.glob.length
      · obtain ⟨ab, ao, rfl, _, _, x0⟩ := HR.out.pp.glob.some hlt
        have hmI : (m : Int) < (p.glob.length : Int) := by omega
        have hm3 : m + 1 ≤ 9223372036854775807 := by have := HZ.out; omega
        obtain ⟨x, hx⟩ : ∃ x, p.glob.getD m 0 = x := ⟨_, rfl⟩
        rw [hx] at x0
        obtain ⟨t, ht⟩ : ∃ t, Hid (fldB x p.shapes.length = t) := ⟨_, rfl⟩
        have HM : Hid ((o && gB p (m + 1)) = ((o && gB p m) && t)) := gB_more hx ht.out
        clear hx
        generalize (o && gB p m) = b0 at *
        cases b0 with
        | true =>
          have HM1 : Hid ((o && gB p (m + 1)) = t) := HM.out
          clear HM
          go_upto_region 8 with (fail)
          go_quiet ((go_at_call 15; exact Calls.quiet_of_same (refField_any ht _)))
          go_wp2_with fail
          go_roundw
          case rel => exact ⟨m + 1, by omega, by go_num, ret_and (by rw [HM1.out]), HR.out.drewN _⟩
          case measure => simp [intOf]; omega
        | false =>
          have HM1 : Hid ((o && gB p (m + 1)) = false) := HM.out
          clear HM
          go_upto_region 8 with (fail)
          go_quiet (fail)
          go_wp2_with fail
          go_roundw
          case rel => exact ⟨m + 1, by omega, by go_num, ret_and (by rw [HM1.out]), HR.out.drewN _⟩
          case measure => simp [intOf]; omega
      · obtain rfl : m = p.glob.length := by omega
        generalize (o && gB p p.glob.length) = b1 at *
        clear hlt hm
        go_wp2_with fail
        clear d0 d1 d2
        go_loopw [5, 7, 8, 9, 10] (fun ok i _ _ _ wr => ∃ m : Nat, m ≤ p.funcs.length ∧ i = .int .i64 m ∧ ok = .bool (b1 && fB p m) ∧ Hid (OnR w wr p ag az af cg cs cf)) (fun _ i _ _ _ _ => p.funcs.length - (intOf i).toNat)
        case atStart => exact ⟨0, Nat.zero_le _, rfl, ret_and (by simp [fB]), HR⟩
        case round =>
          obtain ⟨m, hm, rfl, rfl, HR2⟩ := hrel
          clear HR
          by_cases hlt : m < p.funcs.length
          · obtain ⟨f, hfm⟩ : ∃ f, p.funcs[m]? = some f := ⟨_, List.getElem?_eq_getElem hlt⟩
            have hmI : (m : Int) < (p.funcs.length : Int) := by omega
            have hm3 : m + 1 ≤ 9223372036854775807 := by have := HZ.out; omega
            have HFm : Hid (p.funcs[m]? = some f) := hfm
            obtain ⟨d0, d1, d2⟩ := HR2.out.c
            go_wp2_with fail
            refine (func_any p ag az af cg cs cf (m : Int) hg _ HR2.out.pp).mono ?_
            rintro e w6 ⟨he, hb⟩
            obtain ⟨F0, hF0⟩ : ∃ F0, (funE p (m : Int)).1 = F0 := ⟨_, rfl⟩
            obtain ⟨F2, hF2⟩ : ∃ F2, (funE p (m : Int)).2 = F2 := ⟨_, rfl⟩
            obtain ⟨X, hX⟩ : ∃ X, funX p (m : Int) = X := ⟨_, rfl⟩
            have HM : Hid ((b1 && fB p (m + 1)) = ((b1 && fB p m) && (F0 == 0))) := fB_more hF0
            have HFz : Hid (F0 = 0 → ∀ k : Nat, k < f.code.length → insAt p (m : Int) (k : Int) = 0) := fun h => fun_ins (fnAt_nat hfm) (by rw [hF0, h])
            have HCl : Hid (f.code.length ≤ 3000) := (szP_funcs hg.out.sz).2 f (List.mem_of_getElem? hfm)
            unfold FunIs at he
            rw [hF0, hF2, hX] at he
            subst he
            clear hF0 hF2 hX hfm
            have hB : Below w6.heap.size w6 (w6.alloc (.cells #[.int .i64 X, .int .i64 (F2 : Int)] 31)) := (Below.refl _ _).alloc (Nat.le_refl _) _
            have HR3 : Hid (OnR w (w6.alloc (.cells #[.int .i64 X, .int .i64 (F2 : Int)] 31)) p ag az af cg cs cf) := (HR2.out.below hb).below hB
            obtain ⟨w7, hw7⟩ : ∃ w7, w6.alloc (.cells #[.int .i64 X, .int .i64 (F2 : Int)] 31) = w7 := ⟨_, rfl⟩
            rw [hw7] at HR3
            clear hb hB HR2 d0 d1 d2
            generalize (b1 && fB p m) = b2 at *
            by_cases hF : F0 = 0
            · subst hF
              have HI : Hid (∀ k : Nat, k < f.code.length → insAt p (m : Int) (k : Int) = 0) := HFz.out rfl
              have HM1 : Hid ((b1 && fB p (m + 1)) = b2) := by unfold Hid; rw [HM.out]; simp
              clear HFz HM
              cases b2
              all_goals
                go_wp2_with fail
                clear hw7
                go_loopw [10] (fun k wr => ∃ q : Nat, q ≤ f.code.length ∧ k = .int .i64 q ∧ Hid (OnR w wr p ag az af cg cs cf)) (fun k _ => f.code.length - (intOf k).toNat)
                case atStart => exact ⟨0, Nat.zero_le _, rfl, HR3⟩
                case round =>
                  obtain ⟨q, hq, rfl, HR4⟩ := hrel
                  clear HR3
                  obtain ⟨b, off, v0, v1, v2, v3, v4, rfl, hb, _, q0, q1, q2, q3, q4, hfc⟩ := HR4.out.pp.funcs.some HFm.out
                  obtain ⟨b0, e0, b3, e3, b4, e4, rfl, rfl, rfl⟩ := hfc.lens
                  obtain ⟨d0, d1, d2⟩ := HR4.out.c
                  clear hfc hb
                  by_cases hlq : q < f.code.length
                  · have hqI : (q : Int) < (f.code.length : Int) := by omega
                    have hq3 : q + 1 ≤ 9223372036854775807 := by have := HCl.out; omega
                    have HS : Hid (insAt p (m : Int) (q : Int) = 0) := HI.out q hlq
                    go_wp2_with fail
                    refine (instr_any p _ _ _ _ _ _ HS ⟨hg.out.len, hg.out.fit⟩ _ HR4.out.pp).mono ?_
                    rintro e w8 ⟨rfl, hb⟩
                    have HR5 := HR4.out.below hb
                    have HR5 : Hid (OnR w w8 p _ _ _ _ _ _) := HR5
                    clear hb HR4 d0 d1 d2 q0 q1 q2 q3 q4
                    go_wp2_with fail
                    go_roundw
                    case rel => exact ⟨q + 1, by omega, by go_num, HR5⟩
                    case measure => simp [intOf]; omega
                  · go_wp2_with fail
                    go_roundw
                    case rel => exact ⟨m + 1, by omega, by go_num, ret_and (by rw [HM1.out]), HR4⟩
                    case measure => simp [intOf]; omega
            · have hFb : (F0 == 0) = false := by simpa using hF
              have HM1 : Hid ((b1 && fB p (m + 1)) = false) := by unfold Hid; rw [HM.out, hFb]; simp
              clear HFz HM hF
              cases b2
              all_goals
                go_wp2_with fail
                clear hw7
                go_loopw [10] (fun k wr => k = .int .i64 0 ∧ Hid (OnR w wr p ag az af cg cs cf)) (fun _ _ => 0)
                case atStart => exact ⟨rfl, HR3⟩
                case round =>
                  obtain ⟨rfl, HR4⟩ := hrel
                  clear HR3
                  obtain ⟨b, off, v0, v1, v2, v3, v4, rfl, hb, _, q0, q1, q2, q3, q4, hfc⟩ := HR4.out.pp.funcs.some HFm.out
                  obtain ⟨b0, e0, b3, e3, b4, e4, rfl, rfl, rfl⟩ := hfc.lens
                  obtain ⟨d0, d1, d2⟩ := HR4.out.c
                  clear hfc hb
                  obtain ⟨n, hn⟩ : ∃ n, f.code.length = n := ⟨_, rfl⟩
                  rw [hn] at q4
                  clear hn HCl
                  by_cases hn0 : n = 0
                  · subst hn0
                    go_wp2_with fail
                    go_roundw
                    case rel => exact ⟨m + 1, by omega, by go_num, ret_and (by rw [HM1.out]), HR4⟩
                    case measure => simp [intOf]; omega
                  · have hn1 : 0 < (n : Int) := by omega
                    have hn2 : decide (0 < n) = true := decide_eq_true (by omega)
                    clear hn0
                    go_wp2_with fail
                    go_roundw
                    case rel => exact ⟨m + 1, by omega, by go_num, ret_and (by rw [HM1.out]), HR4⟩
                    case measure => simp [intOf]; omega
          · obtain rfl : m = p.funcs.length := by omega
            generalize (b1 && fB p p.funcs.length) = b3 at *
            clear hlt hm
            obtain ⟨d0, d1, d2⟩ := HR2.out.c
            by_cases hz : p.funcs.length = 0
            · have hP : (P0 == 0) = b3 := by
                have h1 : mB p = true := by
                  unfold mB
                  rw [List.eq_nil_of_length_eq_zero hz]
                  rfl
                have := HPr.out
                rw [h1, Bool.and_true] at this
                exact this
              rw [hz] at d2
              clear hz HPr HZ
              cases b3
              all_goals
                go_wp2_with fail
                go_ret
                exact ⟨rfl, HR2.out.low⟩
            · obtain ⟨f, hf0⟩ : ∃ f, p.funcs[0]? = some f := ⟨_, List.getElem?_eq_getElem (by omega)⟩
              have hz1 : (0 : Int) < (p.funcs.length : Int) := by omega
              obtain ⟨b, off, v0, v1, v2, v3, v4, rfl, hb, _, k0, k1, k2, k3, k4, hfc⟩ := HR2.out.pp.funcs.some hf0
              obtain ⟨a0, c0, a3, c3, a4, c4, rfl, rfl, rfl⟩ := hfc.lens
              obtain rfl := hfc.res
              simp only [Nat.zero_mul, Nat.add_zero] at k0 k1 k2 k3 k4
              obtain ⟨n, hn⟩ : ∃ n, f.args.length = n := ⟨_, rfl⟩
              obtain ⟨r, hr⟩ : ∃ r, f.res = r := ⟨_, rfl⟩
              have hm1 : mB p = (n == 0 && r == 0) := by
                unfold mB
                rw [hf0, ← hn, ← hr]
              have HP2 : Hid ((P0 == 0) = (b3 && (n == 0 && r == 0))) := by unfold Hid; rw [HPr.out, hm1]
              rw [hn] at k0
              rw [hr] at k1
              clear hfc hf0 hb hm1 hn hr HPr HZ hz
              cases b3 with
              | false =>
                have hP : (P0 == 0) = false := HP2.out
                go_wp2_with fail
                go_ret
                exact ⟨rfl, HR2.out.low⟩
              | true =>
                by_cases hn0 : n = 0
                · subst hn0
                  by_cases hr0 : r = 0
                  · subst hr0
                    have hP : (P0 == 0) = true := HP2.out
                    go_wp2_with fail
                    go_ret
                    exact ⟨rfl, HR2.out.low⟩
                  · have hrb : (r == 0) = false := by simpa using hr0
                    have hP : (P0 == 0) = false := by rw [HP2.out, hrb]; rfl
                    clear hr0
                    go_wp2_with fail
                    go_ret
                    exact ⟨rfl, HR2.out.low⟩
                · have hnb : ((n : Int) == 0) = false := by simpa using hn0
                  have hnb2 : (n == 0) = false := by simpa using hn0
                  have hP : (P0 == 0) = false := by rw [HP2.out, hnb2]; rfl
                  clear hn0
                  go_wp2_with fail
                  go_ret
                  exact ⟨rfl, HR2.out.low⟩

open Go.ChangeShapes Go.WideShapes Go.ChangeAt in
theorem each_arg {H : Type} {enc : TypeId × Value → H} {W : World} {base : Nat} {v : Value} {d : DataW H} {p : List MemPlace} (h : DataW.Trod enc Try.prog W 0 (fun _ => true) true 26 v d p) (hv : Value.okWide Try.prog W .any base 26 v) :
    Calls Try.prog 4 #[v] W fun e w' => e = .returned (.bool true) ∧ Below W.heap.size W w' := by
  obtain ⟨q, ag, cg, az, cs, af, cf, rfl, ⟨hl, hf⟩, hq⟩ := prog_arg h hv
  by_cases hz : szP q ≤ 3000
  · exact each_big q ag az af cg cs cf W ⟨hl, hf, hz⟩ hq
  · exact each_small q ag az af cg cs cf W hl (decide_eq_false hz) hq

end Go.Proofs.Ytmacipjdmaaccaa

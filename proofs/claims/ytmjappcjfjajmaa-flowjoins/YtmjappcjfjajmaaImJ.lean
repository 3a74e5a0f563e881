/- The walks of besombook's Room and Small. -/
import Derived.Test.YtmjappcjfjajmaaImA
namespace Go.Proofs.Ytmjappcjfjajmaa
open Go.RowKit

/-- How much room is left of 3000 behind t. -/
def rmN (t : Nat) : Int := if t ≤ 3000 then 3000 - t else -1
theorem rmN_ok {t : Nat} (h : t ≤ 3000) : rmN t = 3000 - t := if_pos h
theorem rmN_no {t : Nat} (h : ¬ t ≤ 3000) : rmN t = -1 := if_neg h
theorem rmN_lt (t : Nat) : -1 ≤ rmN t ∧ rmN t ≤ 3000 := by
  by_cases h : t ≤ 3000
  · rw [rmN_ok h]; omega
  · rw [rmN_no h]; omega

theorem ret_i {a b : Int} (h : a = b) : Ending.returned (.int .i64 a) = .returned (.int .i64 b) := by rw [h]
theorem rmN_ge (t : Nat) : decide (0 ≤ rmN t) = decide (t ≤ 3000) := by
  by_cases h : t ≤ 3000
  · rw [rmN_ok h, decide_eq_true h]; exact decide_eq_true (by omega)
  · rw [rmN_no h, decide_eq_false h]; rfl
theorem sum_take {L : List Nat} {j k : Nat} (h : L[j]? = some k) : (L.take (j + 1)).sum = (L.take j).sum + k := by
  obtain ⟨hlt, he⟩ := List.getElem?_eq_some_iff.1 h
  rw [List.take_succ_eq_append_getElem hlt, he]
  simp
theorem rm_end {t u : Nat} (h : t ≤ u) (hn : ¬ t ≤ 3000) : rmN t = rmN u := by rw [rmN_no hn, rmN_no (by omega)]
/-- What Small keeps while it goes. -/
structure SmAt (wb wr : World) (B : Nat) (vg vs vf : Value) (p : Pg) : Prop where
  low : Below wb.heap.size wb wr
  pg : PgV Any wr vg vs vf p
  c1 : wr.cell? ⟨B, 1, none⟩ = some vs
  c2 : wr.cell? ⟨B, 2, none⟩ = some vf
  lt : B < wb.heap.size
theorem SmAt.below {wb wr w2 : World} {B : Nat} {vg vs vf : Value} {p : Pg} (h : SmAt wb wr B vg vs vf p) (hb : Below wr.heap.size wr w2) : SmAt wb w2 B vg vs vf p := by
  have hl : B < wr.heap.size := Nat.lt_of_lt_of_le h.lt h.low.size
  exact ⟨h.low.trans (hb.mono h.low.size), h.pg.below hb, (hb.cell (p := ⟨B, 1, none⟩) hl).trans h.c1, (hb.cell (p := ⟨B, 2, none⟩) hl).trans h.c2, h.lt⟩
theorem sum_le (L : List Nat) (j : Nat) : (L.take j).sum ≤ L.sum := by
  have : (L.take j ++ L.drop j).sum = (L.take j).sum + (L.drop j).sum := List.sum_append
  rw [List.take_append_drop] at this
  omega

set_option maxHeartbeats 1000000 in
theorem room_any (t b : Nat) (L : List Nat) (w : World) (hl : L.length ≤ 3) (hL : ∀ k ∈ L, k ≤ maxLen) (h : ∀ j k : Nat, L[j]? = some k → w.cell? ⟨b, j, none⟩ = some (.int .i64 k)) :
    Calls Try.prog 22 #[.int .i64 (rmN t), .slice (some ⟨b, 0, none⟩) L.length L.length] w fun e w' => e = .returned (.int .i64 (rmN (t + L.sum))) ∧ ∃ q, w' = w.drewN q := by
  have HC : Hid (∀ j k : Nat, L[j]? = some k → w.cell? ⟨b, j, none⟩ = some (.int .i64 k)) := h
  have HL : Hid (∀ k ∈ L, k ≤ maxLen) := hL
  clear h hL
  go_enter Try.func22, Try.ntmps22
  go_wp2_with fail
  go_loopw [0, 5] (fun r i wr => ∃ j : Nat, j ≤ L.length ∧ i = .int .i64 j ∧ r = .int .i64 (rmN (t + (L.take j).sum)) ∧ ∃ q, wr = w.drewN q) (fun _ i _ => L.length - (intOf i).toNat)
  case atStart => exact ⟨0, Nat.zero_le _, rfl, rfl, 0, rfl⟩
  case round =>
    obtain ⟨j, hj, rfl, rfl, hq⟩ := hrel
    by_cases hlt : j < L.length
    · obtain ⟨k, hk⟩ : ∃ k, L[j]? = some k := ⟨_, List.getElem?_eq_getElem hlt⟩
      have hc : wr.cell? ⟨b, j, none⟩ = some (.int .i64 k) := by obtain ⟨q, rfl⟩ := hq; exact HC.out j k hk
      have HQ : Hid (∃ q, wr = w.drewN q) := hq
      have hltI : (j : Int) < (L.length : Int) := by omega
      have hkm := HL.out k (List.mem_of_getElem? hk)
      unfold maxLen at hkm
      have hst := sum_take hk
      have hsl := sum_le L (j + 1)
      clear hq hk HC HL
      by_cases h1 : t + (L.take j).sum ≤ 3000
      · by_cases h2 : t + (L.take (j + 1)).sum ≤ 3000
        · have e1 := rmN_ok h1
          have e2 := rmN_ok h2
          rw [e1]
          have HE : Hid ((3000 : Int) - ((t + (L.take j).sum : Nat) : Int) - (k : Int) = rmN (t + (L.take (j + 1)).sum)) := by unfold Hid; rw [e2]; omega
          have hn : (0 : Int) ≤ 3000 - ((t + (L.take j).sum : Nat) : Int) - (k : Int) := by omega
          generalize hr : (3000 : Int) - ((t + (L.take j).sum : Nat) : Int) = r at *
          have h3 : ¬ r < 0 := by omega
          have h4 : ¬ r < (k : Int) := by omega
          have h5 : r ≤ 3000 := by omega
          clear e1 e2 hst hsl h1 h2
          go_wp2
          go_roundw
          case rel => exact ⟨j + 1, by omega, by go_num, by rw [← HE.out], HQ.out⟩
          case measure => simp [intOf]; omega
        · have e1 := rmN_ok h1
          have e2 : Hid (rmN (t + L.sum) = -1) := rmN_no (by omega)
          rw [e1]
          have hn : (3000 : Int) - ((t + (L.take j).sum : Nat) : Int) < (k : Int) := by omega
          have hn0 : ¬ (3000 : Int) - ((t + (L.take j).sum : Nat) : Int) < 0 := by omega
          generalize hr : (3000 : Int) - ((t + (L.take j).sum : Nat) : Int) = r at *
          clear e1 hst hsl h1 h2 hr
          go_wp2
          go_ret
          exact ⟨ret_i (by rw [e2.out]), HQ.out⟩
      · have e1 := rmN_no h1
        have e2 : Hid (rmN (t + L.sum) = -1) := rmN_no (by omega)
        rw [e1]
        clear e1 hst hsl h1
        go_wp2
        go_ret
        exact ⟨ret_i (by rw [e2.out]), HQ.out⟩
    · have e : j = L.length := by omega
      subst e
      have HR : Hid (rmN (t + (L.take L.length).sum) = rmN (t + L.sum)) := by unfold Hid; rw [List.take_length]
      have HQ : Hid (∃ q, wr = w.drewN q) := hq
      clear hq
      generalize rmN (t + (L.take L.length).sum) = r at *
      go_wp2
      go_ret
      exact ⟨ret_i HR.out, HQ.out⟩

theorem room_one (t k : Nat) (w : World) (hk : k ≤ maxLen) : Calls Try.prog 22 #[.int .i64 (rmN t), .slice (some ⟨w.heap.size, 0, none⟩) 1 1] (w.alloc (.cells #[.int .i64 (k : Int)] 3)) fun e w' => e = .returned (.int .i64 (rmN (t + k))) ∧ ∃ q, w' = (w.alloc (.cells #[.int .i64 (k : Int)] 3)).drewN q := by
  have := room_any t w.heap.size [k] (w.alloc (.cells #[.int .i64 (k : Int)] 3)) (by simp) (fun x hx => by simp at hx; subst hx; exact hk) (fun j x hj => by
    refine cell_new w _ _ ?_
    match j, hj with
    | 0, hj => simp at hj; subst hj; rfl)
  simpa using this
theorem room_three (t x y z : Nat) (w : World) (hx : x ≤ maxLen) (hy : y ≤ maxLen) (hz : z ≤ maxLen) : Calls Try.prog 22 #[.int .i64 (rmN t), .slice (some ⟨w.heap.size, 0, none⟩) 3 3] (w.alloc (.cells #[.int .i64 (x : Int), .int .i64 (y : Int), .int .i64 (z : Int)] 3)) fun e w' => e = .returned (.int .i64 (rmN (t + (x + y + z)))) ∧ ∃ q, w' = (w.alloc (.cells #[.int .i64 (x : Int), .int .i64 (y : Int), .int .i64 (z : Int)] 3)).drewN q := by
  have := room_any t w.heap.size [x, y, z] (w.alloc (.cells #[.int .i64 (x : Int), .int .i64 (y : Int), .int .i64 (z : Int)] 3)) (by simp) (fun k hk => by
    simp at hk
    rcases hk with rfl | rfl | rfl
    · exact hx
    · exact hy
    · exact hz) (fun j k hj => by
    refine cell_new w _ _ ?_
    match j, hj with
    | 0, hj => simp at hj; subst hj; rfl
    | 1, hj => simp at hj; subst hj; rfl
    | 2, hj => simp at hj; subst hj; rfl)
  simpa [Nat.add_assoc] using this
set_option maxRecDepth 100000 in
set_option maxHeartbeats 4000000 in
theorem small_any (p : Pg) (ag az af : Option Addr) (cg cs cf : Nat) (w : World) (h : PgV Any w (.slice ag p.glob.length cg) (.slice az p.shapes.length cs) (.slice af p.funcs.length cf) p)
    (hg : p.glob.length ≤ maxLen) (hs : p.shapes.length ≤ maxLen) (hf : p.funcs.length ≤ maxLen) (hsm : ∀ L ∈ p.shapes, L.length ≤ maxLen) (hfm : ∀ f ∈ p.funcs, f.args.length ≤ maxLen ∧ f.objs.length ≤ maxLen ∧ f.code.length ≤ maxLen) :
    Calls Try.prog 7 #[.agg #[.slice ag p.glob.length cg, .slice az p.shapes.length cs, .slice af p.funcs.length cf]] w fun e w' => e = .returned (.bool (decide (szP p ≤ 3000))) ∧ Below w.heap.size w w' := by
  obtain ⟨B, hBw⟩ : ∃ B, w.heap.size = B := ⟨_, rfl⟩
  obtain ⟨wb, hwb⟩ : ∃ wb, (w.alloc (.cells #[.slice ag p.glob.length cg, .slice az p.shapes.length cs, .slice af p.funcs.length cf] 26)) = wb := ⟨_, rfl⟩
  have hA : Below w.heap.size w wb := hwb ▸ (Below.refl _ _).alloc (Nat.le_refl _) _
  have hbs : wb.heap.size = B + 1 := by rw [← hwb, ← hBw]; simp
  have hc : ∀ k v, (#[.slice ag p.glob.length cg, .slice az p.shapes.length cs, .slice af p.funcs.length cf] : Array Value)[k]? = some v → wb.cell? ⟨B, k, none⟩ = some v := fun k v hk => by rw [← hBw]; exact hwb ▸ cell_new w _ _ hk
  have c0 : wb.cell? ⟨B, 0, none⟩ = some (.slice ag p.glob.length cg) := hc 0 _ rfl
  have c1 : wb.cell? ⟨B, 1, none⟩ = some (.slice az p.shapes.length cs) := hc 1 _ rfl
  have c2 : wb.cell? ⟨B, 2, none⟩ = some (.slice af p.funcs.length cf) := hc 2 _ rfl
  have HL : Hid (Below B w wb) := hBw ▸ hA
  have HP : Hid (PgV Any wb (.slice ag p.glob.length cg) (.slice az p.shapes.length cs) (.slice af p.funcs.length cf) p) := h.below hA
  have HB : Hid (p.glob.length ≤ maxLen ∧ p.shapes.length ≤ maxLen ∧ p.funcs.length ≤ maxLen) := ⟨hg, hs, hf⟩
  have HSM : Hid (∀ L ∈ p.shapes, L.length ≤ maxLen) := hsm
  have HFM : Hid (∀ f ∈ p.funcs, f.args.length ≤ maxLen ∧ f.objs.length ≤ maxLen ∧ f.code.length ≤ maxLen) := hfm
  have HR1 : Hid (Calls Try.prog 22 #[.int .i64 3000, .slice (some ⟨B + 1, 0, none⟩) 3 3] (wb.alloc (.cells #[.int .i64 (p.glob.length : Int), .int .i64 (p.shapes.length : Int), .int .i64 (p.funcs.length : Int)] 3)) fun e w' => e = .returned (.int .i64 (rmN (p.glob.length + p.shapes.length + p.funcs.length))) ∧ ∃ q, w' = (wb.alloc (.cells #[.int .i64 (p.glob.length : Int), .int .i64 (p.shapes.length : Int), .int .i64 (p.funcs.length : Int)] 3)).drewN q) := by
    unfold Hid
    have := room_any 0 (B + 1) [p.glob.length, p.shapes.length, p.funcs.length] (wb.alloc (.cells #[.int .i64 (p.glob.length : Int), .int .i64 (p.shapes.length : Int), .int .i64 (p.funcs.length : Int)] 3)) (by simp) (fun k hk => by
      simp at hk
      rcases hk with rfl | rfl | rfl
      · exact hg
      · exact hs
      · exact hf) (fun j k hj => by
      rw [← hbs]
      refine cell_new wb _ _ ?_
      match j, hj with
      | 0, hj => simp at hj; subst hj; rfl
      | 1, hj => simp at hj; subst hj; rfl
      | 2, hj => simp at hj; subst hj; rfl)
    simpa [rmN_ok, Nat.add_assoc] using this
  clear hA h hg hs hf hsm hfm hc
  go_enter Try.func7, Try.ntmps7
  go_wp2_with fail
  refine HR1.out.mono ?_
  rintro e w1 ⟨rfl, q1, hw1⟩
  have hb1 : Below wb.heap.size wb w1 := by
    rw [hw1]
    exact below_drewN ((Below.refl _ _).alloc (Nat.le_refl _) _) q1
  have HS1 : Hid (SmAt wb w1 B (.slice ag p.glob.length cg) (.slice az p.shapes.length cs) (.slice af p.funcs.length cf) p) := (⟨Below.refl _ _, HP.out, c1, c2, by omega⟩ : SmAt wb wb B (.slice ag p.glob.length cg) (.slice az p.shapes.length cs) (.slice af p.funcs.length cf) p).below hb1
  obtain ⟨T0, hT0⟩ : ∃ T0, T0 = p.glob.length + p.shapes.length + p.funcs.length := ⟨_, rfl⟩
  rw [← hT0]
  have HT0 : Hid (szP p = T0 + szS p.shapes + szFs p.funcs) := by unfold Hid; rw [hT0]; rfl
  clear hb1 hw1 HR1 HP c0 c1 c2 hT0
  go_wp2_with fail
  go_loopw [3, 4] (fun r i wr => ∃ j : Nat, j ≤ p.shapes.length ∧ i = .int .i64 j ∧ r = .int .i64 (rmN (T0 + szS (p.shapes.take j))) ∧ Hid (SmAt wb wr B (.slice ag p.glob.length cg) (.slice az p.shapes.length cs) (.slice af p.funcs.length cf) p)) (fun _ i _ => p.shapes.length - (intOf i).toNat)
  case atStart => exact ⟨0, Nat.zero_le _, rfl, by simp [szS], HS1⟩
  case round =>
    obtain ⟨j, hj, rfl, rfl, HR⟩ := hrel
    clear HS1
    have hc1 := HR.out.c1
    by_cases hgo : j < p.shapes.length ∧ T0 + szS (p.shapes.take j) ≤ 3000
    · obtain ⟨hlt, hle⟩ := hgo
      obtain ⟨L, hL⟩ : ∃ L, p.shapes[j]? = some L := ⟨_, List.getElem?_eq_getElem hlt⟩
      obtain ⟨b, off, v, rfl, hb, _, hc, hsrc⟩ := HR.out.pg.shapes.some hL
      obtain ⟨la, lc, rfl⟩ := hsrc.len
      have hltI : (j : Int) < (p.shapes.length : Int) := by omega
      have hr0 : (0 : Int) ≤ rmN (T0 + szS (p.shapes.take j)) := by rw [rmN_ok hle]; omega
      have HRo := room_one (T0 + szS (p.shapes.take j)) L.length wr (HSM.out L (List.mem_of_getElem? hL))
      rw [Nat.add_assoc, ← szS_take hL] at HRo
      have HRo' : Hid (Calls Try.prog 22 #[.int .i64 (rmN (T0 + szS (p.shapes.take j))), .slice (some ⟨wr.heap.size, 0, none⟩) 1 1] (wr.alloc (.cells #[.int .i64 (L.length : Int)] 3)) fun e w' => e = .returned (.int .i64 (rmN (T0 + szS (p.shapes.take (j + 1))))) ∧ ∃ q, w' = (wr.alloc (.cells #[.int .i64 (L.length : Int)] 3)).drewN q) := HRo
      clear HRo hsrc hL hb
      generalize rmN (T0 + szS (p.shapes.take j)) = r at *
      have hj3 : j + 1 ≤ 9223372036854775807 := by have := HB.out.2.1; unfold maxLen at this; omega
      go_wp2_with fail
      refine HRo'.out.mono ?_
      rintro e w2 ⟨rfl, q2, hw2⟩
      have hb2 : Below wr.heap.size wr w2 := by
        rw [hw2]
        exact below_drewN ((Below.refl _ _).alloc (Nat.le_refl _) _) q2
      have HS2 : Hid (SmAt wb w2 B (.slice ag p.glob.length cg) (.slice (some ⟨b, off, none⟩) p.shapes.length cs) (.slice af p.funcs.length cf) p) := HR.out.below hb2
      clear hb2 hw2 HRo' HR hc hc1 hr0 hle
      go_wp2_with fail
      go_roundw
      case rel => exact ⟨j + 1, by omega, by go_num, rfl, HS2⟩
      case measure => simp [intOf]; omega
    · have HE : Hid (rmN (T0 + szS (p.shapes.take j)) = rmN (T0 + szS p.shapes)) := by
        unfold Hid
        by_cases hlt : j < p.shapes.length
        · exact rm_end (by have := szS_le p.shapes j; omega) (fun h => hgo ⟨hlt, h⟩)
        · rw [List.take_of_length_le (by omega)]
      have hex : (¬ (j : Int) < (p.shapes.length : Int)) ∨ ((j : Int) < (p.shapes.length : Int) ∧ rmN (T0 + szS (p.shapes.take j)) < 0) := by
        by_cases hlt : j < p.shapes.length
        · exact Or.inr ⟨by omega, by rw [rmN_no (fun h => hgo ⟨hlt, h⟩)]; omega⟩
        · exact Or.inl (by omega)
      clear hgo
      rw [HE.out] at hex ⊢
      obtain ⟨T1, hT1⟩ : ∃ T1, T1 = T0 + szS p.shapes := ⟨_, rfl⟩
      rw [← hT1] at hex ⊢
      have HT1 : Hid (szP p = T1 + szFs p.funcs) := by unfold Hid; rw [HT0.out, hT1]
      clear HE HT0 hT1
      have hrr := rmN_lt T1
      obtain ⟨wq, hwq⟩ : ∃ wq, wq = wr := ⟨_, rfl⟩
      subst hwq
      have hwalk : True := trivial
      rcases hex with hex | ⟨hex, hex2⟩
      all_goals
        go_wp2_with fail
        clear hex hc1
        go_loopw [3, 5, 6] (fun r i _ wr => ∃ j : Nat, j ≤ p.funcs.length ∧ i = .int .i64 j ∧ r = .int .i64 (rmN (T1 + szFs (p.funcs.take j))) ∧ Hid (SmAt wb wr B (.slice ag p.glob.length cg) (.slice az p.shapes.length cs) (.slice af p.funcs.length cf) p)) (fun _ i _ _ => p.funcs.length - (intOf i).toNat)
        case atStart => exact ⟨0, Nat.zero_le _, rfl, by simp [szFs], HR⟩
        case round =>
          obtain ⟨j, hj, rfl, rfl, HR⟩ := hrel
          have hc2 := HR.out.c2
          by_cases hgo : j < p.funcs.length ∧ T1 + szFs (p.funcs.take j) ≤ 3000
          · obtain ⟨hlt, hle⟩ := hgo
            obtain ⟨f, hL⟩ : ∃ f, p.funcs[j]? = some f := ⟨_, List.getElem?_eq_getElem hlt⟩
            obtain ⟨b, off, v0, v1, v2, v3, v4, rfl, hb, _, k0, k1, k2, k3, k4, hfc⟩ := HR.out.pg.funcs.some hL
            obtain ⟨a0, c0, a3, c3, a4, c4, rfl, rfl, rfl⟩ := hfc.lens
            obtain rfl := hfc.res
            obtain rfl := hfc.slots
            have hltI : (j : Int) < (p.funcs.length : Int) := by omega
            have hr0 : (0 : Int) ≤ rmN (T1 + szFs (p.funcs.take j)) := by rw [rmN_ok hle]; omega
            have hm := HFM.out f (List.mem_of_getElem? hL)
            have HRo := room_three (T1 + szFs (p.funcs.take j)) f.args.length f.objs.length f.code.length (wr.alloc (.cells #[.slice a0 f.args.length c0, .int .i64 f.res, .int .i64 f.slots, .slice a3 f.objs.length c3, .slice a4 f.code.length c4] 41)) hm.1 hm.2.1 hm.2.2
            rw [Nat.add_assoc, show szFs (p.funcs.take j) + (f.args.length + f.objs.length + f.code.length) = szFs (p.funcs.take (j + 1)) from (szFs_take hL).symm, World.size_alloc] at HRo
            have HRo' : Hid (Calls Try.prog 22 #[.int .i64 (rmN (T1 + szFs (p.funcs.take j))), .slice (some ⟨wr.heap.size + 1, 0, none⟩) 3 3] ((wr.alloc (.cells #[.slice a0 f.args.length c0, .int .i64 f.res, .int .i64 f.slots, .slice a3 f.objs.length c3, .slice a4 f.code.length c4] 41)).alloc (.cells #[.int .i64 (f.args.length : Int), .int .i64 (f.objs.length : Int), .int .i64 (f.code.length : Int)] 3)) fun e w' => e = .returned (.int .i64 (rmN (T1 + szFs (p.funcs.take (j + 1))))) ∧ ∃ q, w' = ((wr.alloc (.cells #[.slice a0 f.args.length c0, .int .i64 f.res, .int .i64 f.slots, .slice a3 f.objs.length c3, .slice a4 f.code.length c4] 41)).alloc (.cells #[.int .i64 (f.args.length : Int), .int .i64 (f.objs.length : Int), .int .i64 (f.code.length : Int)] 3)).drewN q) := HRo
            clear HRo hfc hL hb hm
            generalize rmN (T1 + szFs (p.funcs.take j)) = r at *
            have hj3 : j + 1 ≤ 9223372036854775807 := by have := HB.out.2.2; unfold maxLen at this; omega
            go_wp2_with fail
            refine HRo'.out.mono ?_
            rintro e w2 ⟨rfl, q2, hw2⟩
            have hb2 : Below wr.heap.size wr w2 := by
              rw [hw2]
              exact below_drewN (((Below.refl _ _).alloc (Nat.le_refl _) _).alloc (by simp) _) q2
            have HS2 : Hid (SmAt wb w2 B (.slice ag p.glob.length cg) (.slice az p.shapes.length cs) (.slice (some ⟨b, off, none⟩) p.funcs.length cf) p) := HR.out.below hb2
            clear hb2 hw2 HRo' HR hc2 hr0 hle k0 k1 k2 k3 k4
            go_wp2_with fail
            go_roundw
            case rel => exact ⟨j + 1, by omega, by go_num, rfl, HS2⟩
            case measure => simp [intOf]; omega
          · have HE : Hid (rmN (T1 + szFs (p.funcs.take j)) = rmN (T1 + szFs p.funcs)) := by
              unfold Hid
              by_cases hlt : j < p.funcs.length
              · exact rm_end (by have := szFs_le p.funcs j; omega) (fun h => hgo ⟨hlt, h⟩)
              · rw [List.take_of_length_le (by omega)]
            have hex : (¬ (j : Int) < (p.funcs.length : Int)) ∨ ((j : Int) < (p.funcs.length : Int) ∧ rmN (T1 + szFs (p.funcs.take j)) < 0) := by
              by_cases hlt : j < p.funcs.length
              · exact Or.inr ⟨by omega, by rw [rmN_no (fun h => hgo ⟨hlt, h⟩)]; omega⟩
              · exact Or.inl (by omega)
            clear hgo
            have HQ : Hid (decide (0 ≤ rmN (T1 + szFs (p.funcs.take j))) = decide (szP p ≤ 3000)) := by
              unfold Hid
              rw [HE.out, ← HT1.out]
              exact rmN_ge _
            have HBB : Hid (Below w.heap.size w wr) := by
              unfold Hid
              rw [hBw]
              exact HL.out.trans (HR.out.low.mono (by omega))
            clear HE HR
            generalize rmN (T1 + szFs (p.funcs.take j)) = r at *
            rcases hex with hex | ⟨hex, hex2⟩
            all_goals
              go_wp2_with fail
              go_ret
              first | exact ⟨ret_bool HQ.out, HBB.out⟩ | exact ⟨ret_bool HQ.out, hBw ▸ HBB.out⟩

end Go.Proofs.Ytmjappcjfjajmaa

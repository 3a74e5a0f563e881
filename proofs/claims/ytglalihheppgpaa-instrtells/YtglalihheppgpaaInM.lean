/- The walk of the document's Reads. -/
import Derived.Test.YtglalihheppgpaaInL
import Derived.Test.YtglalihheppgpaaInF
import Derived.Deep.QuietTactic
namespace Go.Proofs.Ytglalihheppgpaa
open Go.RowKit

/-- What the document lists ahead of leaving out what is there already. -/
def allR (r0 r1 r2 a b c : Int) (n : Nat) : List Int := (if r0 = 2 then [a] else []) ++ (if r1 = 2 then [b] else []) ++ (if r2 = 2 then [c] else if r2 = 4 then argsL c n else [])
def allL (o a b c : Int) (n : Nat) : List Int := allR (ro o).1 (ro o).2.1 (ro o).2.2 a b c n
def isA (o : Int) : Bool := o == 21 || o == 23 || o == 24
def outL (ia : Bool) (A : List Int) : Nat → List Int
  | 0 => []
  | m + 1 => if m = 0 ∨ ¬ A.getD m 0 = A.getD 0 0 ∨ ia = true then outL ia A m ++ [A.getD m 0] else outL ia A m
theorem outL_true (A : List Int) : ∀ m, m ≤ A.length → outL true A m = A.take m
  | 0, _ => rfl
  | m + 1, h => by
    show (if m = 0 ∨ ¬ A.getD m 0 = A.getD 0 0 ∨ true = true then outL true A m ++ [A.getD m 0] else outL true A m) = _
    rw [if_pos (Or.inr (Or.inr rfl)), outL_true A m (by omega), take_snocD A m (by omega)]
theorem outL_len (ia : Bool) (A : List Int) : ∀ m, (outL ia A m).length ≤ m
  | 0 => Nat.le_refl _
  | m + 1 => by
    have := outL_len ia A m
    unfold outL
    split
    · simp; omega
    · omega
theorem allL_len (o a b c : Int) (n : Nat) (hn : n ≤ 16) : (allL o a b c n).length ≤ 18 := by
  unfold allL allR
  simp only [List.length_append]
  have h1 : (if (ro o).1 = 2 then [a] else []).length ≤ 1 := by split <;> simp
  have h2 : (if (ro o).2.1 = 2 then [b] else []).length ≤ 1 := by split <;> simp
  have h3 : (if (ro o).2.2 = 2 then [c] else if (ro o).2.2 = 4 then argsL c n else []).length ≤ 16 := by
    split
    · simp
    · split
      · rw [argsL_len]; omega
      · simp
  omega

theorem out_one (x : Int) : outL false [x] 1 = [x] := by simp [outL]
theorem out_two (x y : Int) : outL false [x, y] 2 = if y ∈ [x] then [x] else [x, y] := by
  by_cases h : y = x <;> simp [outL, h]
theorem rd_two (n : Nat) (x y : Int) : rdStep n 2 y (rdStep n 2 x []) = if y ∈ [x] then [x] else [x, y] := by
  simp [rdStep]
theorem out_eq (o a b c : Int) (n : Nat) : outL (isA o) (allL o a b c n) (allL o a b c n).length = rdTo n (R3 (ro o).1 (ro o).2.1 (ro o).2.2) (R3 a b c) 3 := by
  cases hk : kn o with
  | false =>
    unfold allL
    rw [ro_none hk]
    simp [allR, outL, rdTo, rdStep, R3]
  | true =>
    rcases kn_cases hk with rfl | rfl | rfl | rfl | rfl | rfl | rfl | rfl | rfl | rfl | rfl | rfl | rfl | rfl | rfl | rfl | rfl | rfl | rfl | rfl | rfl | rfl | rfl | rfl | rfl | rfl | rfl | rfl | rfl | rfl
    · rfl
    · rfl
    · exact (out_one b).trans (by simp [rdTo, rdStep, R3, ro, kn, roT])
    · exact (out_two b c).trans ((rd_two n b c).symm.trans (by simp [rdTo, rdStep, R3, ro, kn, roT]))
    · exact (out_two b c).trans ((rd_two n b c).symm.trans (by simp [rdTo, rdStep, R3, ro, kn, roT]))
    · exact (out_two b c).trans ((rd_two n b c).symm.trans (by simp [rdTo, rdStep, R3, ro, kn, roT]))
    · exact (out_two b c).trans ((rd_two n b c).symm.trans (by simp [rdTo, rdStep, R3, ro, kn, roT]))
    · exact (out_two b c).trans ((rd_two n b c).symm.trans (by simp [rdTo, rdStep, R3, ro, kn, roT]))
    · exact (out_two b c).trans ((rd_two n b c).symm.trans (by simp [rdTo, rdStep, R3, ro, kn, roT]))
    · rfl
    · exact (out_one a).trans (by simp [rdTo, rdStep, R3, ro, kn, roT])
    · rfl
    · exact (out_one b).trans (by simp [rdTo, rdStep, R3, ro, kn, roT])
    · rfl
    · exact (out_one b).trans (by simp [rdTo, rdStep, R3, ro, kn, roT])
    · exact (out_two a c).trans ((rd_two n a c).symm.trans (by simp [rdTo, rdStep, R3, ro, kn, roT]))
    · rfl
    · exact (out_one b).trans (by simp [rdTo, rdStep, R3, ro, kn, roT])
    · rfl
    · exact (out_one b).trans (by simp [rdTo, rdStep, R3, ro, kn, roT])
    · exact (out_two a c).trans ((rd_two n a c).symm.trans (by simp [rdTo, rdStep, R3, ro, kn, roT]))
    · show outL true (argsL c n) (argsL c n).length = [] ++ argsL c n
      rw [outL_true _ _ (Nat.le_refl _), List.take_length, List.nil_append]
    · rfl
    · show outL true (argsL c n) (argsL c n).length = [] ++ argsL c n
      rw [outL_true _ _ (Nat.le_refl _), List.take_length, List.nil_append]
    · show outL true (argsL c n) (argsL c n).length = [] ++ argsL c n
      rw [outL_true _ _ (Nat.le_refl _), List.take_length, List.nil_append]
    · exact (out_two a b).trans ((rd_two n a b).symm.trans (by simp [rdTo, rdStep, R3, ro, kn, roT]))
    · rfl
    · rfl
    · rfl
    · exact (out_one a).trans (by simp [rdTo, rdStep, R3, ro, kn, roT])

theorem own_new1 (w : World) (B : Nat) (x : Int) (h : B ≤ w.heap.size) : (w.alloc (.cells #[.int .i64 x] 3)).ownsRow B 3 1 (.slice (some ⟨w.heap.size, 0, none⟩) 1 1) 1 [.int .i64 x] := by
  refine ⟨rfl, Or.inr ⟨w.heap.size, 1, #[.int .i64 x], rfl, h, ?_, Nat.le_refl _, by decide, rfl, rfl⟩⟩
  show (w.heap.push _)[w.heap.size]? = _
  simp
theorem own_new2 (w : World) (B : Nat) (x y : Int) (h : B ≤ w.heap.size) : (w.alloc (.cells #[.int .i64 x, .int .i64 y] 3)).ownsRow B 3 1 (.slice (some ⟨w.heap.size, 0, none⟩) 2 2) 2 [.int .i64 x, .int .i64 y] := by
  refine ⟨rfl, Or.inr ⟨w.heap.size, 2, #[.int .i64 x, .int .i64 y], rfl, h, ?_, Nat.le_refl _, by decide, rfl, rfl⟩⟩
  show (w.heap.push _)[w.heap.size]? = _
  simp

/-- What stands behind the switch: the box, and the list. -/
structure Sw (w wk : World) (v : Value) (o a b c : Int) (n : Nat) : Prop where
  own : wk.ownsRow w.heap.size 3 1 v (allL o a b c n).length ((allL o a b c n).map (Value.int .i64))
  box : wk.rowIs w.heap.size 23 4 (fun k => (Ins.cs ⟨o, a, b, c⟩).getD k undef)
  low : Below w.heap.size w wk

theorem box_row (w : World) (o a b c : Int) : (w.alloc (.cells #[.int .i64 o, .int .i64 a, .int .i64 b, .int .i64 c] 23)).rowIs w.heap.size 23 4 (fun k => (Ins.cs ⟨o, a, b, c⟩).getD k undef) := by
  refine World.rowIs_alloc w #[.int .i64 o, .int .i64 a, .int .i64 b, .int .i64 c] 23 (fun k => (Ins.cs ⟨o, a, b, c⟩).getD k undef) (fun k hk => ?_)
  have : k = 0 ∨ k = 1 ∨ k = 2 ∨ k = 3 := by simp at hk; omega
  rcases this with rfl | rfl | rfl | rfl <;> rfl
theorem sw_none (w : World) (o a b c : Int) (n : Nat) (h : allL o a b c n = []) : Sw w (w.alloc (.cells #[.int .i64 o, .int .i64 a, .int .i64 b, .int .i64 c] 23)) (.slice none 0 0) o a b c n :=
  ⟨by rw [h]; exact World.ownsRow_nil _ _ _ _, box_row w o a b c, (Below.refl _ _).alloc (Nat.le_refl _) _⟩
theorem sw_one (w : World) (o a b c x : Int) (n : Nat) (h : allL o a b c n = [x]) : Sw w ((w.alloc (.cells #[.int .i64 o, .int .i64 a, .int .i64 b, .int .i64 c] 23)).alloc (.cells #[.int .i64 x] 3)) (.slice (some ⟨w.heap.size + 1, 0, none⟩) 1 1) o a b c n := by
  refine ⟨?_, (box_row w o a b c).alloc _, ((Below.refl _ _).alloc (Nat.le_refl _) _).alloc (by simp) _⟩
  rw [h]
  have := own_new1 (w.alloc (.cells #[.int .i64 o, .int .i64 a, .int .i64 b, .int .i64 c] 23)) w.heap.size x (by simp)
  simpa using this
theorem sw_two (w : World) (o a b c x y : Int) (n : Nat) (h : allL o a b c n = [x, y]) : Sw w ((w.alloc (.cells #[.int .i64 o, .int .i64 a, .int .i64 b, .int .i64 c] 23)).alloc (.cells #[.int .i64 x, .int .i64 y] 3)) (.slice (some ⟨w.heap.size + 1, 0, none⟩) 2 2) o a b c n := by
  refine ⟨?_, (box_row w o a b c).alloc _, ((Below.refl _ _).alloc (Nat.le_refl _) _).alloc (by simp) _⟩
  rw [h]
  have := own_new2 (w.alloc (.cells #[.int .i64 o, .int .i64 a, .int .i64 b, .int .i64 c] 23)) w.heap.size x y (by simp)
  simpa using this

set_option maxRecDepth 100000 in
set_option maxHeartbeats 8000000 in
theorem refReads_core (o a b c args : Int) (n : Nat) (hn : Hid (nA args = n)) (w : World) :
    Calls Try.prog 18 #[.agg #[.int .i64 o, .int .i64 a, .int .i64 b, .int .i64 c], .int .i64 args] w fun e w' => ∃ v, e = .returned v ∧ w'.ownsRow w.heap.size 3 1 v (rdTo n (R3 (ro o).1 (ro o).2.1 (ro o).2.2) (R3 a b c) 3).length ((rdTo n (R3 (ro o).1 (ro o).2.1 (ro o).2.2) (R3 a b c) 3).map (Value.int .i64)) ∧ Below w.heap.size w w' := by
  obtain ⟨t0, ht, hz0, hz1, hz2⟩ := info_parts Try.info3
  have hn16 : n ≤ 16 := by rw [← hn.out]; exact nA_le _
  obtain ⟨RL, hRL⟩ : ∃ RL, Hid (rdTo n (R3 (ro o).1 (ro o).2.1 (ro o).2.2) (R3 a b c) 3 = RL) := ⟨_, rfl⟩
  rw [hRL.out]
  go_enter Try.func18, Try.ntmps18
  go_upto_block 0 with (fail)
  go_cut [5] (fun v wk => Hid (Sw w wk v o a b c n))
  case first => as_aux_lemma =>
    clear hRL
    cases hk : kn o with
    | false =>
      have hall : Hid (allL o a b c n = []) := by
        unfold Hid allL
        rw [ro_none hk]; rfl
      have h2 := kn_ne hk 2 (by decide) (by decide)
      have h12 := kn_ne hk 12 (by decide) (by decide)
      have h14 := kn_ne hk 14 (by decide) (by decide)
      have h19 := kn_ne hk 19 (by decide) (by decide)
      have h17 := kn_ne hk 17 (by decide) (by decide)
      have h3 := kn_ne hk 3 (by decide) (by decide)
      have h4 := kn_ne hk 4 (by decide) (by decide)
      have h5 := kn_ne hk 5 (by decide) (by decide)
      have h6 := kn_ne hk 6 (by decide) (by decide)
      have h7 := kn_ne hk 7 (by decide) (by decide)
      have h8 := kn_ne hk 8 (by decide) (by decide)
      have h10 := kn_ne hk 10 (by decide) (by decide)
      have h29 := kn_ne hk 29 (by decide) (by decide)
      have h15 := kn_ne hk 15 (by decide) (by decide)
      have h20 := kn_ne hk 20 (by decide) (by decide)
      have h25 := kn_ne hk 25 (by decide) (by decide)
      have h21 := kn_ne hk 21 (by decide) (by decide)
      have h23 := kn_ne hk 23 (by decide) (by decide)
      have h24 := kn_ne hk 24 (by decide) (by decide)
      clear hk
      go_wp2
      go_meet
      case rel => exact sw_none w o a b c n hall.out
    | true =>
      rcases kn_cases hk with rfl | rfl | rfl | rfl | rfl | rfl | rfl | rfl | rfl | rfl | rfl | rfl | rfl | rfl | rfl | rfl | rfl | rfl | rfl | rfl | rfl | rfl | rfl | rfl | rfl | rfl | rfl | rfl | rfl | rfl
      · clear hk
        go_wp2
        go_meet
        case rel => exact sw_none w 0 a b c n rfl
      · clear hk
        go_wp2
        go_meet
        case rel => exact sw_none w 1 a b c n rfl
      · clear hk
        go_wp2
        go_meet
        case rel => exact sw_one w 2 a b c b n rfl
      · clear hk
        go_wp2
        go_meet
        case rel => exact sw_two w 3 a b c b c n rfl
      · clear hk
        go_wp2
        go_meet
        case rel => exact sw_two w 4 a b c b c n rfl
      · clear hk
        go_wp2
        go_meet
        case rel => exact sw_two w 5 a b c b c n rfl
      · clear hk
        go_wp2
        go_meet
        case rel => exact sw_two w 6 a b c b c n rfl
      · clear hk
        go_wp2
        go_meet
        case rel => exact sw_two w 7 a b c b c n rfl
      · clear hk
        go_wp2
        go_meet
        case rel => exact sw_two w 8 a b c b c n rfl
      · clear hk
        go_wp2
        go_meet
        case rel => exact sw_none w 9 a b c n rfl
      · clear hk
        go_wp2
        go_meet
        case rel => exact sw_one w 10 a b c a n rfl
      · clear hk
        go_wp2
        go_meet
        case rel => exact sw_none w 11 a b c n rfl
      · clear hk
        go_wp2
        go_meet
        case rel => exact sw_one w 12 a b c b n rfl
      · clear hk
        go_wp2
        go_meet
        case rel => exact sw_none w 13 a b c n rfl
      · clear hk
        go_wp2
        go_meet
        case rel => exact sw_one w 14 a b c b n rfl
      · clear hk
        go_wp2
        go_meet
        case rel => exact sw_two w 15 a b c a c n rfl
      · clear hk
        go_wp2
        go_meet
        case rel => exact sw_none w 16 a b c n rfl
      · clear hk
        go_wp2
        go_meet
        case rel => exact sw_one w 17 a b c b n rfl
      · clear hk
        go_wp2
        go_meet
        case rel => exact sw_none w 18 a b c n rfl
      · clear hk
        go_wp2
        go_meet
        case rel => exact sw_one w 19 a b c b n rfl
      · clear hk
        go_wp2
        go_meet
        case rel => exact sw_two w 20 a b c a c n rfl
      · clear hk
        have hall : Hid (allL 21 a b c n = argsL c n) := rfl
        go_wp2_with fail
        go_loopw [5, 6] (fun v i wr => ∃ m : Nat, m ≤ n ∧ i = .int .i64 m ∧ wr.ownsRow w.heap.size 3 1 v (argsL c m).length ((argsL c m).map (Value.int .i64)) ∧ wr.rowIs w.heap.size 23 4 (fun k => (Ins.cs ⟨21, a, b, c⟩).getD k undef) ∧ Below w.heap.size w wr) (fun _ i _ => n - (intOf i).toNat)
        case atStart => exact ⟨0, Nat.zero_le _, rfl, World.ownsRow_nil _ _ _ _, box_row w 21 a b c, (Below.refl _ _).alloc (Nat.le_refl _) _⟩
        case round =>
          obtain ⟨m, hm, rfl, hown, hrow, hB⟩ := hrel
          obtain ⟨w6, hw6⟩ : ∃ w6, w6 = wr := ⟨_, rfl⟩
          subst hw6
          obtain ⟨M, hM⟩ : ∃ M, Hid (argsL c m = M) := ⟨_, rfl⟩
          have hMl : M.length ≤ 16 := by rw [← hM.out, argsL_len]; omega
          have HM' : Hid (argsL c (m + 1) = M ++ [wrap64 (c + (m : Int))]) := by unfold Hid; rw [← hM.out]; rfl
          rw [hM.out] at hown
          obtain ⟨av2, cv2, rfl⟩ : ∃ av cv, u5 = .slice av M.length cv := own_len hown
          have HO : Hid (w6.ownsRow w.heap.size 3 1 (.slice av2 M.length cv2) M.length (M.map (Value.int .i64))) := hown
          have HR : Hid (w6.rowIs w.heap.size 23 4 (fun k => (Ins.cs ⟨21, a, b, c⟩).getD k undef)) := hrow
          have HBr : Hid (Below w.heap.size w w6) := hB
          clear hown hrow hB
          go_upto_region 28 with (fail)
          go_cut [61] (fun v wk => v = .bool (decide (m < n)) ∧ wk = w6)
          case first => as_aux_lemma =>
            have hnn := hn.out
            unfold nA at hnn
            have hc : args < 0 ∨ args = 0 ∨ (0 < args ∧ args < 16) ∨ args = 16 ∨ 16 < args := by omega
            clear hn hall HM'
            rcases hc with hc | rfl | ⟨hc, hc2⟩ | rfl | hc
            · have e : n = 0 := by rw [if_pos (by omega)] at hnn; omega
              subst e
              clear hnn
              go_wp2
              go_meet
              case rel => exact ⟨congrArg Value.bool (by first | rfl | (rw [Bool.eq_iff_iff]; simp; done) | (rw [Bool.eq_iff_iff]; simp; omega)), rfl⟩
            · have e : n = 0 := by rw [if_pos (by omega)] at hnn; omega
              subst e
              clear hnn
              go_wp2
              go_meet
              case rel => exact ⟨congrArg Value.bool (by first | rfl | (rw [Bool.eq_iff_iff]; simp; done) | (rw [Bool.eq_iff_iff]; simp; omega)), rfl⟩
            · have e : args = (n : Int) := by rw [if_neg (by omega), if_neg (by omega)] at hnn; omega
              clear hnn
              subst e
              go_wp2
              go_meet
              case rel => exact ⟨congrArg Value.bool (by first | rfl | (rw [Bool.eq_iff_iff]; simp; done) | (rw [Bool.eq_iff_iff]; simp; omega)), rfl⟩
            · have e : n = 16 := by rw [if_neg (by omega), if_pos (by omega)] at hnn; omega
              subst e
              clear hnn
              go_wp2
              go_meet
              case rel => exact ⟨congrArg Value.bool (by first | rfl | (rw [Bool.eq_iff_iff]; simp; done) | (rw [Bool.eq_iff_iff]; simp; omega)), rfl⟩
            · have e : n = 16 := by rw [if_neg (by omega), if_pos (by omega)] at hnn; omega
              subst e
              clear hnn
              go_wp2
              go_meet
              case rel => exact ⟨congrArg Value.bool (by first | rfl | (rw [Bool.eq_iff_iff]; simp; done) | (rw [Bool.eq_iff_iff]; simp; omega)), rfl⟩
          case rest =>
            obtain ⟨rfl, hw7⟩ := hcut
            rw [hw7]
            clear hw7
            have c3 : w6.cell? ⟨w.heap.size, 3, none⟩ = some (.int .i64 c) := HR.out.cell (i := 3) (by decide)
            by_cases hlt2 : m < n
            · have HH : Hid ((∀ j' u, [Value.int .i64 (wrap64 (c + (m : Int)))][j']? = some u → (w6.alloc (.cells #[.int .i64 (wrap64 (c + (m : Int)))] 3)).cell? ((⟨w6.heap.size, 0, none⟩ : Addr).add j') = some u) ∧ (∀ u ∈ [Value.int .i64 (wrap64 (c + (m : Int)))], u.oneCell' = true) ∧ M.length + 1 ≤ maxLen ∧ (M.length + 1) * 8 ≤ 140737488355328 ∧ w.heap.size ≤ (w6.alloc (.cells #[.int .i64 (wrap64 (c + (m : Int)))] 3)).heap.size) := by
                refine ⟨fun j' u hu => ?_, fun u hu => ?_, by unfold maxLen; omega, by omega, by have := HBr.out.size; simp; omega⟩
                · rw [Go.WideShapes.add_plain, Nat.zero_add]
                  exact cell_new w6 _ _ (by rw [← hu]; simp)
                · simp at hu; subst hu; rfl
              go_wp2_with (at_builtin; refine wpList_append_own _ rfl _ _ 37 rfl w.heap.size 3 t0 (.int .i64 0) 1 8 Try.underlying37 ht hz0 hz1 hz2 rfl (by decide) _ _ _ rfl (HO.out.alloc _) ⟨w6.heap.size, 0, none⟩ 1 1 [.int .i64 (wrap64 (c + (m : Int)))] rfl rfl HH.out.1 HH.out.2.1 HH.out.2.2.1 HH.out.2.2.2.1 HH.out.2.2.2.2 ?_)
              · intro v5 w5 ho hg _
                have t := Ty.of_grown (HO.out.alloc (.cells #[.int .i64 (wrap64 (c + (m : Int)))] 3)) hg (Nat.le_refl _)
                have HR5 : Hid (w5.rowIs w.heap.size 23 4 (fun k => (Ins.cs ⟨21, a, b, c⟩).getD k undef)) := t.row (HR.out.alloc _) (by decide)
                have HB5 : Hid (Below w.heap.size w w5) := (HBr.out.alloc HBr.out.size _).grown hg (by have := HBr.out.size; simp; omega) (fun k hk => ((HO.out.alloc (.cells #[.int .i64 (wrap64 (c + (m : Int)))] 3)).lt k hk).1)
                have HO5 : Hid (w5.ownsRow w.heap.size 3 1 v5 (M ++ [wrap64 (c + (m : Int))]).length ((M ++ [wrap64 (c + (m : Int))]).map (Value.int .i64))) := by unfold Hid; simpa using ho
                clear t ho hg HO HR HBr HH c3
                go_wp2_with fail
                go_roundw
                case rel => exact ⟨m + 1, by omega, by go_num, by rw [HM'.out]; exact HO5.out, HR5.out, HB5.out⟩
                case measure => simp [intOf]; omega
            · have e : m = n := by omega
              subst e
              have HOm : Hid (Sw w w6 (.slice av2 M.length cv2) 21 a b c m) := ⟨by rw [hall.out, hM.out]; exact HO.out, HR.out, HBr.out⟩
              clear HO HR HBr c3
              go_wp2_with fail
              go_meet
              case rel => exact HOm
      · clear hk
        go_wp2
        go_meet
        case rel => exact sw_none w 22 a b c n rfl
      · clear hk
        have hall : Hid (allL 23 a b c n = argsL c n) := rfl
        go_wp2_with fail
        go_loopw [5, 6] (fun v i wr => ∃ m : Nat, m ≤ n ∧ i = .int .i64 m ∧ wr.ownsRow w.heap.size 3 1 v (argsL c m).length ((argsL c m).map (Value.int .i64)) ∧ wr.rowIs w.heap.size 23 4 (fun k => (Ins.cs ⟨23, a, b, c⟩).getD k undef) ∧ Below w.heap.size w wr) (fun _ i _ => n - (intOf i).toNat)
        case atStart => exact ⟨0, Nat.zero_le _, rfl, World.ownsRow_nil _ _ _ _, box_row w 23 a b c, (Below.refl _ _).alloc (Nat.le_refl _) _⟩
        case round =>
          obtain ⟨m, hm, rfl, hown, hrow, hB⟩ := hrel
          obtain ⟨w6, hw6⟩ : ∃ w6, w6 = wr := ⟨_, rfl⟩
          subst hw6
          obtain ⟨M, hM⟩ : ∃ M, Hid (argsL c m = M) := ⟨_, rfl⟩
          have hMl : M.length ≤ 16 := by rw [← hM.out, argsL_len]; omega
          have HM' : Hid (argsL c (m + 1) = M ++ [wrap64 (c + (m : Int))]) := by unfold Hid; rw [← hM.out]; rfl
          rw [hM.out] at hown
          obtain ⟨av2, cv2, rfl⟩ : ∃ av cv, u5 = .slice av M.length cv := own_len hown
          have HO : Hid (w6.ownsRow w.heap.size 3 1 (.slice av2 M.length cv2) M.length (M.map (Value.int .i64))) := hown
          have HR : Hid (w6.rowIs w.heap.size 23 4 (fun k => (Ins.cs ⟨23, a, b, c⟩).getD k undef)) := hrow
          have HBr : Hid (Below w.heap.size w w6) := hB
          clear hown hrow hB
          go_upto_region 28 with (fail)
          go_cut [61] (fun v wk => v = .bool (decide (m < n)) ∧ wk = w6)
          case first => as_aux_lemma =>
            have hnn := hn.out
            unfold nA at hnn
            have hc : args < 0 ∨ args = 0 ∨ (0 < args ∧ args < 16) ∨ args = 16 ∨ 16 < args := by omega
            clear hn hall HM'
            rcases hc with hc | rfl | ⟨hc, hc2⟩ | rfl | hc
            · have e : n = 0 := by rw [if_pos (by omega)] at hnn; omega
              subst e
              clear hnn
              go_wp2
              go_meet
              case rel => exact ⟨congrArg Value.bool (by first | rfl | (rw [Bool.eq_iff_iff]; simp; done) | (rw [Bool.eq_iff_iff]; simp; omega)), rfl⟩
            · have e : n = 0 := by rw [if_pos (by omega)] at hnn; omega
              subst e
              clear hnn
              go_wp2
              go_meet
              case rel => exact ⟨congrArg Value.bool (by first | rfl | (rw [Bool.eq_iff_iff]; simp; done) | (rw [Bool.eq_iff_iff]; simp; omega)), rfl⟩
            · have e : args = (n : Int) := by rw [if_neg (by omega), if_neg (by omega)] at hnn; omega
              clear hnn
              subst e
              go_wp2
              go_meet
              case rel => exact ⟨congrArg Value.bool (by first | rfl | (rw [Bool.eq_iff_iff]; simp; done) | (rw [Bool.eq_iff_iff]; simp; omega)), rfl⟩
            · have e : n = 16 := by rw [if_neg (by omega), if_pos (by omega)] at hnn; omega
              subst e
              clear hnn
              go_wp2
              go_meet
              case rel => exact ⟨congrArg Value.bool (by first | rfl | (rw [Bool.eq_iff_iff]; simp; done) | (rw [Bool.eq_iff_iff]; simp; omega)), rfl⟩
            · have e : n = 16 := by rw [if_neg (by omega), if_pos (by omega)] at hnn; omega
              subst e
              clear hnn
              go_wp2
              go_meet
              case rel => exact ⟨congrArg Value.bool (by first | rfl | (rw [Bool.eq_iff_iff]; simp; done) | (rw [Bool.eq_iff_iff]; simp; omega)), rfl⟩
          case rest =>
            obtain ⟨rfl, hw7⟩ := hcut
            rw [hw7]
            clear hw7
            have c3 : w6.cell? ⟨w.heap.size, 3, none⟩ = some (.int .i64 c) := HR.out.cell (i := 3) (by decide)
            by_cases hlt2 : m < n
            · have HH : Hid ((∀ j' u, [Value.int .i64 (wrap64 (c + (m : Int)))][j']? = some u → (w6.alloc (.cells #[.int .i64 (wrap64 (c + (m : Int)))] 3)).cell? ((⟨w6.heap.size, 0, none⟩ : Addr).add j') = some u) ∧ (∀ u ∈ [Value.int .i64 (wrap64 (c + (m : Int)))], u.oneCell' = true) ∧ M.length + 1 ≤ maxLen ∧ (M.length + 1) * 8 ≤ 140737488355328 ∧ w.heap.size ≤ (w6.alloc (.cells #[.int .i64 (wrap64 (c + (m : Int)))] 3)).heap.size) := by
                refine ⟨fun j' u hu => ?_, fun u hu => ?_, by unfold maxLen; omega, by omega, by have := HBr.out.size; simp; omega⟩
                · rw [Go.WideShapes.add_plain, Nat.zero_add]
                  exact cell_new w6 _ _ (by rw [← hu]; simp)
                · simp at hu; subst hu; rfl
              go_wp2_with (at_builtin; refine wpList_append_own _ rfl _ _ 37 rfl w.heap.size 3 t0 (.int .i64 0) 1 8 Try.underlying37 ht hz0 hz1 hz2 rfl (by decide) _ _ _ rfl (HO.out.alloc _) ⟨w6.heap.size, 0, none⟩ 1 1 [.int .i64 (wrap64 (c + (m : Int)))] rfl rfl HH.out.1 HH.out.2.1 HH.out.2.2.1 HH.out.2.2.2.1 HH.out.2.2.2.2 ?_)
              · intro v5 w5 ho hg _
                have t := Ty.of_grown (HO.out.alloc (.cells #[.int .i64 (wrap64 (c + (m : Int)))] 3)) hg (Nat.le_refl _)
                have HR5 : Hid (w5.rowIs w.heap.size 23 4 (fun k => (Ins.cs ⟨23, a, b, c⟩).getD k undef)) := t.row (HR.out.alloc _) (by decide)
                have HB5 : Hid (Below w.heap.size w w5) := (HBr.out.alloc HBr.out.size _).grown hg (by have := HBr.out.size; simp; omega) (fun k hk => ((HO.out.alloc (.cells #[.int .i64 (wrap64 (c + (m : Int)))] 3)).lt k hk).1)
                have HO5 : Hid (w5.ownsRow w.heap.size 3 1 v5 (M ++ [wrap64 (c + (m : Int))]).length ((M ++ [wrap64 (c + (m : Int))]).map (Value.int .i64))) := by unfold Hid; simpa using ho
                clear t ho hg HO HR HBr HH c3
                go_wp2_with fail
                go_roundw
                case rel => exact ⟨m + 1, by omega, by go_num, by rw [HM'.out]; exact HO5.out, HR5.out, HB5.out⟩
                case measure => simp [intOf]; omega
            · have e : m = n := by omega
              subst e
              have HOm : Hid (Sw w w6 (.slice av2 M.length cv2) 23 a b c m) := ⟨by rw [hall.out, hM.out]; exact HO.out, HR.out, HBr.out⟩
              clear HO HR HBr c3
              go_wp2_with fail
              go_meet
              case rel => exact HOm
      · clear hk
        have hall : Hid (allL 24 a b c n = argsL c n) := rfl
        go_wp2_with fail
        go_loopw [5, 6] (fun v i wr => ∃ m : Nat, m ≤ n ∧ i = .int .i64 m ∧ wr.ownsRow w.heap.size 3 1 v (argsL c m).length ((argsL c m).map (Value.int .i64)) ∧ wr.rowIs w.heap.size 23 4 (fun k => (Ins.cs ⟨24, a, b, c⟩).getD k undef) ∧ Below w.heap.size w wr) (fun _ i _ => n - (intOf i).toNat)
        case atStart => exact ⟨0, Nat.zero_le _, rfl, World.ownsRow_nil _ _ _ _, box_row w 24 a b c, (Below.refl _ _).alloc (Nat.le_refl _) _⟩
        case round =>
          obtain ⟨m, hm, rfl, hown, hrow, hB⟩ := hrel
          obtain ⟨w6, hw6⟩ : ∃ w6, w6 = wr := ⟨_, rfl⟩
          subst hw6
          obtain ⟨M, hM⟩ : ∃ M, Hid (argsL c m = M) := ⟨_, rfl⟩
          have hMl : M.length ≤ 16 := by rw [← hM.out, argsL_len]; omega
          have HM' : Hid (argsL c (m + 1) = M ++ [wrap64 (c + (m : Int))]) := by unfold Hid; rw [← hM.out]; rfl
          rw [hM.out] at hown
          obtain ⟨av2, cv2, rfl⟩ : ∃ av cv, u5 = .slice av M.length cv := own_len hown
          have HO : Hid (w6.ownsRow w.heap.size 3 1 (.slice av2 M.length cv2) M.length (M.map (Value.int .i64))) := hown
          have HR : Hid (w6.rowIs w.heap.size 23 4 (fun k => (Ins.cs ⟨24, a, b, c⟩).getD k undef)) := hrow
          have HBr : Hid (Below w.heap.size w w6) := hB
          clear hown hrow hB
          go_upto_region 28 with (fail)
          go_cut [61] (fun v wk => v = .bool (decide (m < n)) ∧ wk = w6)
          case first => as_aux_lemma =>
            have hnn := hn.out
            unfold nA at hnn
            have hc : args < 0 ∨ args = 0 ∨ (0 < args ∧ args < 16) ∨ args = 16 ∨ 16 < args := by omega
            clear hn hall HM'
            rcases hc with hc | rfl | ⟨hc, hc2⟩ | rfl | hc
            · have e : n = 0 := by rw [if_pos (by omega)] at hnn; omega
              subst e
              clear hnn
              go_wp2
              go_meet
              case rel => exact ⟨congrArg Value.bool (by first | rfl | (rw [Bool.eq_iff_iff]; simp; done) | (rw [Bool.eq_iff_iff]; simp; omega)), rfl⟩
            · have e : n = 0 := by rw [if_pos (by omega)] at hnn; omega
              subst e
              clear hnn
              go_wp2
              go_meet
              case rel => exact ⟨congrArg Value.bool (by first | rfl | (rw [Bool.eq_iff_iff]; simp; done) | (rw [Bool.eq_iff_iff]; simp; omega)), rfl⟩
            · have e : args = (n : Int) := by rw [if_neg (by omega), if_neg (by omega)] at hnn; omega
              clear hnn
              subst e
              go_wp2
              go_meet
              case rel => exact ⟨congrArg Value.bool (by first | rfl | (rw [Bool.eq_iff_iff]; simp; done) | (rw [Bool.eq_iff_iff]; simp; omega)), rfl⟩
            · have e : n = 16 := by rw [if_neg (by omega), if_pos (by omega)] at hnn; omega
              subst e
              clear hnn
              go_wp2
              go_meet
              case rel => exact ⟨congrArg Value.bool (by first | rfl | (rw [Bool.eq_iff_iff]; simp; done) | (rw [Bool.eq_iff_iff]; simp; omega)), rfl⟩
            · have e : n = 16 := by rw [if_neg (by omega), if_pos (by omega)] at hnn; omega
              subst e
              clear hnn
              go_wp2
              go_meet
              case rel => exact ⟨congrArg Value.bool (by first | rfl | (rw [Bool.eq_iff_iff]; simp; done) | (rw [Bool.eq_iff_iff]; simp; omega)), rfl⟩
          case rest =>
            obtain ⟨rfl, hw7⟩ := hcut
            rw [hw7]
            clear hw7
            have c3 : w6.cell? ⟨w.heap.size, 3, none⟩ = some (.int .i64 c) := HR.out.cell (i := 3) (by decide)
            by_cases hlt2 : m < n
            · have HH : Hid ((∀ j' u, [Value.int .i64 (wrap64 (c + (m : Int)))][j']? = some u → (w6.alloc (.cells #[.int .i64 (wrap64 (c + (m : Int)))] 3)).cell? ((⟨w6.heap.size, 0, none⟩ : Addr).add j') = some u) ∧ (∀ u ∈ [Value.int .i64 (wrap64 (c + (m : Int)))], u.oneCell' = true) ∧ M.length + 1 ≤ maxLen ∧ (M.length + 1) * 8 ≤ 140737488355328 ∧ w.heap.size ≤ (w6.alloc (.cells #[.int .i64 (wrap64 (c + (m : Int)))] 3)).heap.size) := by
                refine ⟨fun j' u hu => ?_, fun u hu => ?_, by unfold maxLen; omega, by omega, by have := HBr.out.size; simp; omega⟩
                · rw [Go.WideShapes.add_plain, Nat.zero_add]
                  exact cell_new w6 _ _ (by rw [← hu]; simp)
                · simp at hu; subst hu; rfl
              go_wp2_with (at_builtin; refine wpList_append_own _ rfl _ _ 37 rfl w.heap.size 3 t0 (.int .i64 0) 1 8 Try.underlying37 ht hz0 hz1 hz2 rfl (by decide) _ _ _ rfl (HO.out.alloc _) ⟨w6.heap.size, 0, none⟩ 1 1 [.int .i64 (wrap64 (c + (m : Int)))] rfl rfl HH.out.1 HH.out.2.1 HH.out.2.2.1 HH.out.2.2.2.1 HH.out.2.2.2.2 ?_)
              · intro v5 w5 ho hg _
                have t := Ty.of_grown (HO.out.alloc (.cells #[.int .i64 (wrap64 (c + (m : Int)))] 3)) hg (Nat.le_refl _)
                have HR5 : Hid (w5.rowIs w.heap.size 23 4 (fun k => (Ins.cs ⟨24, a, b, c⟩).getD k undef)) := t.row (HR.out.alloc _) (by decide)
                have HB5 : Hid (Below w.heap.size w w5) := (HBr.out.alloc HBr.out.size _).grown hg (by have := HBr.out.size; simp; omega) (fun k hk => ((HO.out.alloc (.cells #[.int .i64 (wrap64 (c + (m : Int)))] 3)).lt k hk).1)
                have HO5 : Hid (w5.ownsRow w.heap.size 3 1 v5 (M ++ [wrap64 (c + (m : Int))]).length ((M ++ [wrap64 (c + (m : Int))]).map (Value.int .i64))) := by unfold Hid; simpa using ho
                clear t ho hg HO HR HBr HH c3
                go_wp2_with fail
                go_roundw
                case rel => exact ⟨m + 1, by omega, by go_num, by rw [HM'.out]; exact HO5.out, HR5.out, HB5.out⟩
                case measure => simp [intOf]; omega
            · have e : m = n := by omega
              subst e
              have HOm : Hid (Sw w w6 (.slice av2 M.length cv2) 24 a b c m) := ⟨by rw [hall.out, hM.out]; exact HO.out, HR.out, HBr.out⟩
              clear HO HR HBr c3
              go_wp2_with fail
              go_meet
              case rel => exact HOm
      · clear hk
        go_wp2
        go_meet
        case rel => exact sw_two w 25 a b c a b n rfl
      · clear hk
        go_wp2
        go_meet
        case rel => exact sw_none w 26 a b c n rfl
      · clear hk
        go_wp2
        go_meet
        case rel => exact sw_none w 27 a b c n rfl
      · clear hk
        go_wp2
        go_meet
        case rel => exact sw_none w 28 a b c n rfl
      · clear hk
        go_wp2
        go_meet
        case rel => exact sw_one w 29 a b c a n rfl
  case rest =>
    obtain ⟨A, hA⟩ : ∃ A, Hid (allL o a b c n = A) := ⟨_, rfl⟩
    have hAl : A.length ≤ 18 := by rw [← hA.out]; exact allL_len o a b c n hn16
    have hout : Hid (outL (isA o) A A.length = RL) := by
      have := out_eq o a b c n
      rw [hA.out, hRL.out] at this
      exact this
    have hown := hcut.out.own
    rw [hA.out] at hown
    obtain ⟨w2, hw2⟩ : ∃ w2, w2 = wc := ⟨_, rfl⟩
    subst hw2
    obtain ⟨av, cv, rfl⟩ : ∃ av cv, u5 = .slice av A.length cv := own_len hown
    have HA : Hid (SrcAt w2 (.slice av A.length cv) A) := src_of_own hown
    have HX : Hid (w2.rowIs w.heap.size 23 4 (fun k => (Ins.cs ⟨o, a, b, c⟩).getD k undef)) := hcut.out.box
    have HB : Hid (Below w.heap.size w w2) := hcut.out.low
    clear hcut hown hA hRL
    go_wp2_with fail
    go_loopw [7, 8] (fun v i wr => ∃ m : Nat, m ≤ A.length ∧ i = .int .i64 m ∧ wr.ownsRow w2.heap.size 3 1 v (outL (isA o) A m).length ((outL (isA o) A m).map (Value.int .i64)) ∧ Below w2.heap.size w2 wr) (fun _ i _ => A.length - (intOf i).toNat)
    case atStart => exact ⟨0, Nat.zero_le _, rfl, World.ownsRow_nil _ _ _ _, Below.refl _ _⟩
    case round =>
      obtain ⟨m, hm, rfl, hown, hB⟩ := hrel
      obtain ⟨w6, hw6⟩ : ∃ w6, w6 = wr := ⟨_, rfl⟩
      subst hw6
      have HBr : Hid (Below w2.heap.size w2 w6) := hB
      clear hB
      by_cases hlt : m < A.length
      · obtain ⟨M, hM⟩ : ∃ M, Hid (outL (isA o) A m = M) := ⟨_, rfl⟩
        have hMl : M.length ≤ 18 := by rw [← hM.out]; have := outL_len (isA o) A m; omega
        rw [hM.out] at hown
        obtain ⟨av2, cv2, rfl⟩ : ∃ av cv, u7 = .slice av M.length cv := own_len hown
        have HO : Hid (w6.ownsRow w2.heap.size 3 1 (.slice av2 M.length cv2) M.length (M.map (Value.int .i64))) := hown
        clear hown
        obtain ⟨y, hy⟩ : ∃ y, Hid (A.getD m 0 = y) := ⟨_, rfl⟩
        obtain ⟨z, hz⟩ : ∃ z, Hid (A.getD 0 0 = z) := ⟨_, rfl⟩
        obtain ⟨t, htt⟩ : ∃ t : Bool, Hid (t = true ↔ (m = 0 ∨ ¬ y = z ∨ isA o = true)) := ⟨decide (m = 0 ∨ ¬ y = z ∨ isA o = true), by unfold Hid; simp⟩
        have HN : Hid (outL (isA o) A (m + 1) = if t = true then M ++ [y] else M) := by
          unfold Hid
          show (if m = 0 ∨ ¬ A.getD m 0 = A.getD 0 0 ∨ isA o = true then outL (isA o) A m ++ [A.getD m 0] else outL (isA o) A m) = _
          rw [hy.out, hz.out, hM.out]
          by_cases e : m = 0 ∨ ¬ y = z ∨ isA o = true
          · rw [if_pos e, if_pos (htt.out.2 e)]
          · rw [if_neg e, if_neg (fun g => e (htt.out.1 g))]
        have hloc := HA.out
        rcases hloc with ⟨h0, _⟩ | ⟨b1, o1, c1, hv, hb1, hcs⟩
        · rw [h0] at hlt; simp at hlt
        · cases hv
          have cm : w6.cell? ⟨b1, o1 + m, none⟩ = some (.int .i64 y) := by rw [← hy.out]; exact (HBr.out.cell (p := ⟨b1, o1 + m, none⟩) hb1).trans (hcs m hlt)
          have cz : w6.cell? ⟨b1, o1, none⟩ = some (.int .i64 z) := by rw [← hz.out]; exact (HBr.out.cell (p := ⟨b1, o1, none⟩) hb1).trans (hcs 0 (by omega))
          have co : w6.cell? ⟨w.heap.size, 0, none⟩ = some (.int .i64 o) := (HX.out.of_block (HBr.out.block _ HX.out.lt)).cell (i := 0) (by decide)
          have hmI : (m : Int) < (A.length : Int) := by omega
          have h0I : 0 < A.length := by omega
          clear hy hz hM hcs
          go_upto_region 35 with (fail)
          go_cut [103] (fun v wk => v = .bool t ∧ ∃ q, wk = w6.drewN q)
          case first => as_aux_lemma =>
            have htt' := htt.out
            clear htt HN HO HBr HA HX HB hout
            by_cases hm0 : m = 0
            · have e : t = true := htt'.2 (Or.inl hm0)
              subst e
              clear htt'
              subst hm0
              go_quiet (fail)
              go_wp2
              go_meet
              case rel => exact ⟨rfl, _, rfl⟩
            · by_cases hyz : y = z
              · subst hyz
                by_cases h1 : o = 21
                · subst h1
                  have e : t = true := htt'.2 (Or.inr (Or.inr rfl))
                  subst e
                  clear htt'
                  go_quiet (fail)
                  go_wp2
                  go_meet
                  case rel => exact ⟨rfl, _, rfl⟩
                · by_cases h2 : o = 23
                  · subst h2
                    have e : t = true := htt'.2 (Or.inr (Or.inr rfl))
                    subst e
                    clear htt'
                    go_quiet (fail)
                    go_wp2
                    go_meet
                    case rel => exact ⟨rfl, _, rfl⟩
                  · by_cases h3 : o = 24
                    · subst h3
                      have e : t = true := htt'.2 (Or.inr (Or.inr rfl))
                      subst e
                      clear htt'
                      go_quiet (fail)
                      go_wp2
                      go_meet
                      case rel => exact ⟨rfl, _, rfl⟩
                    · have e : t = false := by
                        cases t with
                        | false => rfl
                        | true =>
                          rcases htt'.1 rfl with g | g | g
                          · exact absurd g hm0
                          · exact absurd rfl g
                          · simp [isA, h1, h2, h3] at g
                      subst e
                      clear htt'
                      go_quiet (fail)
                      go_wp2
                      go_meet
                      case rel => exact ⟨congrArg Value.bool (by simp [hm0, h1, h2, h3]), _, rfl⟩
              · have e : t = true := htt'.2 (Or.inr (Or.inl hyz))
                subst e
                clear htt'
                go_quiet (fail)
                go_wp2
                go_meet
                case rel => exact ⟨rfl, _, rfl⟩
          case rest =>
            obtain ⟨rfl, q, hq⟩ := hcut
            have cm' : wc.cell? ⟨b1, o1 + m, none⟩ = some (.int .i64 y) := by rw [hq]; exact cm
            have HO' : Hid (wc.ownsRow w2.heap.size 3 1 (.slice av2 M.length cv2) M.length (M.map (Value.int .i64))) := by rw [hq]; exact HO.out
            have HB' : Hid (Below w2.heap.size w2 wc) := by rw [hq]; exact below_drewN HBr.out q
            clear hq cm cz co HO HBr htt
            cases t with
            | false =>
              go_wp2_with fail
              go_roundw
              case rel => exact ⟨m + 1, by omega, by go_num, by rw [HN.out]; exact HO'.out, HB'.out⟩
              case measure => simp [intOf]; omega
            | true =>
              have HH : Hid ((∀ j' u, [Value.int .i64 y][j']? = some u → (wc.alloc (.cells #[.int .i64 y] 3)).cell? ((⟨wc.heap.size, 0, none⟩ : Addr).add j') = some u) ∧ (∀ u ∈ [Value.int .i64 y], u.oneCell' = true) ∧ M.length + 1 ≤ maxLen ∧ (M.length + 1) * 8 ≤ 140737488355328 ∧ w2.heap.size ≤ (wc.alloc (.cells #[.int .i64 y] 3)).heap.size) := by
                refine ⟨fun j' u hu => ?_, fun u hu => ?_, by unfold maxLen; omega, by omega, by have := HB'.out.size; simp; omega⟩
                · rw [Go.WideShapes.add_plain, Nat.zero_add]
                  exact cell_new wc _ _ (by rw [← hu]; simp)
                · simp at hu; subst hu; rfl
              go_wp2_with (at_builtin; refine wpList_append_own _ rfl _ _ 37 rfl w2.heap.size 3 t0 (.int .i64 0) 1 8 Try.underlying37 ht hz0 hz1 hz2 rfl (by decide) _ _ _ rfl (HO'.out.alloc _) ⟨wc.heap.size, 0, none⟩ 1 1 [.int .i64 y] rfl rfl HH.out.1 HH.out.2.1 HH.out.2.2.1 HH.out.2.2.2.1 HH.out.2.2.2.2 ?_)
              · intro v5 w5 ho hg _
                have HB5 : Hid (Below w2.heap.size w2 w5) := (HB'.out.alloc HB'.out.size _).grown hg (by have := HB'.out.size; simp; omega) (fun k hk => ((HO'.out.alloc (.cells #[.int .i64 y] 3)).lt k hk).1)
                have HO5 : Hid (w5.ownsRow w2.heap.size 3 1 v5 (M ++ [y]).length ((M ++ [y]).map (Value.int .i64))) := by unfold Hid; simpa using ho
                clear ho hg HO' HB' HH cm'
                go_wp2_with fail
                go_roundw
                case rel => exact ⟨m + 1, by omega, by go_num, by rw [HN.out]; exact HO5.out, HB5.out⟩
                case measure => simp [intOf]; omega
      · have e : m = A.length := by omega
        subst e
        rw [hout.out] at hown
        have HO : Hid (w6.ownsRow w.heap.size 3 1 u7 RL.length (RL.map (Value.int .i64))) := own_base hown HB.out.size
        have HBf : Hid (Below w.heap.size w w6) := HB.out.trans (HBr.out.mono HB.out.size)
        clear hown
        go_wp2_with fail
        go_ret
        exact ⟨_, rfl, HO.out, HBf.out⟩

end Go.Proofs.Ytglalihheppgpaa

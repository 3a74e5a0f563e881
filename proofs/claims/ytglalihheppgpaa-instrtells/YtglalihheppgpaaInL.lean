/- The walk of instr's Reads. -/
import Derived.Test.YtglalihheppgpaaInE
import Derived.Deep.DeepCutAuto
namespace Go.Proofs.Ytglalihheppgpaa
open Go.RowKit

/-! ### slices.Index and slices.Contains over ints -/
theorem index_zero (a : Option Addr) (c : Nat) (x : Int) (w : World) :
    Calls Try.prog 61 #[.slice a 0 c, .int .i64 x] w fun e w' => e = .returned (.int .i64 (-1)) ∧ w' = w := by
  go_enter Try.func61, Try.ntmps61
  go_wp2_with fail
  go_loop [8] (fun i => i = .int .i64 0) (fun _ => 0)
  case atStart => rfl
  case round =>
    obtain rfl := hrel
    go_wp2_with fail
    go_ret
    exact ⟨rfl, rfl⟩
theorem index_core (L : List Int) (b off c : Nat) (x : Int) (w : World) (hl : L.length ≤ 1000) (h : ∀ j, j < L.length → w.cell? ⟨b, off + j, none⟩ = some (.int .i64 (L.getD j 0))) :
    Calls Try.prog 61 #[.slice (some ⟨b, off, none⟩) L.length c, .int .i64 x] w fun e w' => (∃ r : Int, e = .returned (.int .i64 r) ∧ (0 ≤ r ↔ x ∈ L)) ∧ w' = w := by
  have H : Hid (∀ j, j < L.length → w.cell? ⟨b, off + j, none⟩ = some (.int .i64 (L.getD j 0))) := h
  clear h
  go_enter Try.func61, Try.ntmps61
  go_wp2_with fail
  go_loop [8] (fun i => ∃ j : Nat, j ≤ L.length ∧ i = .int .i64 j ∧ ∀ k, k < j → ¬ x = L.getD k 0) (fun i => L.length - (intOf i).toNat)
  case atStart => exact ⟨0, Nat.zero_le _, rfl, fun k hk => absurd hk (by omega)⟩
  case round =>
    obtain ⟨j, hj, rfl, hall⟩ := hrel
    have HA : Hid (∀ k, k < j → ¬ x = L.getD k 0) := hall
    clear hall
    by_cases hlt : j < L.length
    · have hc := H.out j hlt
      have hm : L.getD j 0 ∈ L := by simp [hlt]
      have HM : Hid (L.getD j 0 ∈ L) := hm
      obtain ⟨y, hy⟩ : ∃ y, Hid (L.getD j 0 = y) := ⟨_, rfl⟩
      rw [hy.out] at hc HM
      have hjI : (j : Int) < (L.length : Int) := by omega
      clear hm
      by_cases hxy : x = y
      · subst hxy
        go_wp2_with fail
        go_ret
        exact ⟨⟨_, rfl, fun _ => HM.out, fun _ => by omega⟩, rfl⟩
      · go_wp2_with fail
        go_round
        case rel =>
          refine ⟨j + 1, by omega, by go_num, fun k hk => ?_⟩
          by_cases e : k = j
          · subst e; rw [hy.out]; exact hxy
          · exact HA.out k (by omega)
        case measure => simp [intOf]; omega
    · go_wp2_with fail
      go_ret
      refine ⟨⟨-1, rfl, fun h => absurd h (by decide), fun h => ?_⟩, rfl⟩
      obtain ⟨k, hk, e⟩ := List.mem_iff_getElem.1 h
      exact absurd (by simp [hk, e]) (HA.out k (by omega))
theorem index_any (L : List Int) (v : Value) (x : Int) (w : World) (hl : L.length ≤ 1000) (h : SrcAt w v L) :
    Calls Try.prog 61 #[v, .int .i64 x] w fun e w' => (∃ r : Int, e = .returned (.int .i64 r) ∧ (0 ≤ r ↔ x ∈ L)) ∧ w' = w := by
  by_cases h0 : L = []
  · subst h0
    obtain ⟨a, c, rfl⟩ := h.len
    refine (index_zero a c x w).mono ?_
    rintro e w' ⟨rfl, rfl⟩
    exact ⟨⟨-1, rfl, by simp⟩, rfl⟩
  · rcases h with ⟨h, _⟩ | ⟨b, off, c, rfl, _, h3⟩
    · exact absurd h h0
    · exact index_core L b off c x w hl h3
theorem contains_any (L : List Int) (v : Value) (x : Int) (w : World) (hl : L.length ≤ 1000) (h : SrcAt w v L) :
    Calls Try.prog 31 #[v, .int .i64 x] w fun e w' => e = .returned (.bool (decide (x ∈ L))) ∧ w' = w := by
  go_enter Try.func31, Try.ntmps31
  go_wp2_with fail
  refine (index_any L v x _ hl h).mono ?_
  rintro e w' ⟨⟨r, rfl, hr⟩, rfl⟩
  have HR : Hid (0 ≤ r ↔ x ∈ L) := hr
  clear hr
  go_wp2_with fail
  go_ret
  refine ⟨ret_bool ?_, rfl⟩
  by_cases e : x ∈ L
  · have := HR.out.2 e
    simp [e, this]
  · have : ¬ 0 ≤ r := fun h => e (HR.out.1 h)
    simp [e, this]
theorem contains' {L : List Int} {v : Value} {x : Int} {b : Bool} (w : World) (hl : L.length ≤ 1000) (h : SrcAt w v L) (hb : Hid (decide (x ∈ L) = b)) :
    Calls Try.prog 31 #[v, .int .i64 x] w fun e w' => e = .returned (.bool b) ∧ w' = w := hb.out ▸ contains_any L v x w hl h

/-! ### Reads -/
/-- How many arguments are read: the nearer end of 0 and 16. -/
def nA (args : Int) : Nat := if args ≤ 0 then 0 else if 16 ≤ args then 16 else args.toNat
theorem nA_le (args : Int) : nA args ≤ 16 := by unfold nA; split <;> (try split) <;> omega
def argsL (v : Int) : Nat → List Int
  | 0 => []
  | n + 1 => argsL v n ++ [wrap64 (v + (n : Int))]
theorem argsL_len (v : Int) : ∀ n, (argsL v n).length = n
  | 0 => rfl
  | n + 1 => by simp [argsL, argsL_len v n]
def rdStep (n : Nat) (r v : Int) (l : List Int) : List Int := if r = 2 then (if v ∈ l then l else l ++ [v]) else if r = 4 then l ++ argsL v n else l
def rdTo (n : Nat) (R V : Nat → Int) : Nat → List Int
  | 0 => []
  | j + 1 => rdStep n (R j) (V j) (rdTo n R V j)
theorem rdStep_len (n : Nat) (hn : n ≤ 16) (r v : Int) (l : List Int) : (rdStep n r v l).length ≤ l.length + 16 := by
  unfold rdStep
  split
  · split <;> simp
  · split
    · simp [argsL_len]; omega
    · omega
theorem rdTo_len (n : Nat) (hn : n ≤ 16) (R V : Nat → Int) : ∀ j, (rdTo n R V j).length ≤ 16 * j
  | 0 => by simp [rdTo]
  | j + 1 => by
    have h1 := rdStep_len n hn (R j) (V j) (rdTo n R V j)
    have h2 := rdTo_len n hn R V j
    show (rdStep n (R j) (V j) (rdTo n R V j)).length ≤ _
    omega
def R3 (r0 r1 r2 : Int) (j : Nat) : Int := [r0, r1, r2].getD j 0

set_option maxRecDepth 100000 in
set_option maxHeartbeats 2000000 in
theorem reads_core (o a b c args r0 r1 r2 : Int) (n : Nat) (k : Bool) (h : Hid (ro o = (r0, r1, r2))) (hk : Hid (kn o = k)) (hn : Hid (nA args = n)) (w : World) :
    Calls Try.prog 11 #[.agg #[.int .i64 o, .int .i64 a, .int .i64 b, .int .i64 c], .int .i64 args] w fun e w' => ∃ v, e = .returned v ∧ w'.ownsRow w.heap.size 3 1 v (rdTo n (R3 r0 r1 r2) (R3 a b c) 3).length ((rdTo n (R3 r0 r1 r2) (R3 a b c) 3).map (Value.int .i64)) ∧ Below w.heap.size w w' := by
  obtain ⟨t0, ht, hz0, hz1, hz2⟩ := info_parts Try.info3
  have hn16 : n ≤ 16 := by rw [← hn.out]; exact nA_le _
  go_enter Try.func11, Try.ntmps11
  go_wp2_with fail
  refine (roles_any h hk _).mono ?_
  rintro e w' ⟨rfl, rfl⟩
  obtain ⟨hC, hR, hB, hl⟩ := box_roles w #[.int .i64 o, .int .i64 a, .int .i64 b, .int .i64 c] #[.int .i64 r0, .int .i64 r1, .int .i64 r2] 23 60
  have hrow : (((w.alloc (.cells #[.int .i64 o, .int .i64 a, .int .i64 b, .int .i64 c] 23)).alloc (.cells #[.int .i64 r0, .int .i64 r1, .int .i64 r2] 60)).alloc (.cells #[.int .i64 r0, .int .i64 r1, .int .i64 r2] 60)).rowIs (w.heap.size + 2) 60 3 (fun j => .int .i64 (R3 r0 r1 r2 j)) := by
    have r0' := World.rowIs_alloc ((w.alloc (.cells #[.int .i64 o, .int .i64 a, .int .i64 b, .int .i64 c] 23)).alloc (.cells #[.int .i64 r0, .int .i64 r1, .int .i64 r2] 60)) #[.int .i64 r0, .int .i64 r1, .int .i64 r2] 60 (fun j => .int .i64 (R3 r0 r1 r2 j)) (fun k hk => by
      have : k = 0 ∨ k = 1 ∨ k = 2 := by simp at hk; omega
      rcases this with rfl | rfl | rfl <;> rfl)
    simpa using r0'
  have c0 : (((w.alloc (.cells #[.int .i64 o, .int .i64 a, .int .i64 b, .int .i64 c] 23)).alloc (.cells #[.int .i64 r0, .int .i64 r1, .int .i64 r2] 60)).alloc (.cells #[.int .i64 r0, .int .i64 r1, .int .i64 r2] 60)).cell? ⟨w.heap.size, 0, none⟩ = some (.int .i64 o) := hC 0 _ rfl
  have c1 : (((w.alloc (.cells #[.int .i64 o, .int .i64 a, .int .i64 b, .int .i64 c] 23)).alloc (.cells #[.int .i64 r0, .int .i64 r1, .int .i64 r2] 60)).alloc (.cells #[.int .i64 r0, .int .i64 r1, .int .i64 r2] 60)).cell? ⟨w.heap.size, 1, none⟩ = some (.int .i64 a) := hC 1 _ rfl
  have c2 : (((w.alloc (.cells #[.int .i64 o, .int .i64 a, .int .i64 b, .int .i64 c] 23)).alloc (.cells #[.int .i64 r0, .int .i64 r1, .int .i64 r2] 60)).alloc (.cells #[.int .i64 r0, .int .i64 r1, .int .i64 r2] 60)).cell? ⟨w.heap.size, 2, none⟩ = some (.int .i64 b) := hC 2 _ rfl
  have c3 : (((w.alloc (.cells #[.int .i64 o, .int .i64 a, .int .i64 b, .int .i64 c] 23)).alloc (.cells #[.int .i64 r0, .int .i64 r1, .int .i64 r2] 60)).alloc (.cells #[.int .i64 r0, .int .i64 r1, .int .i64 r2] 60)).cell? ⟨w.heap.size, 3, none⟩ = some (.int .i64 c) := hC 3 _ rfl
  have HD : Hid ((((w.alloc (.cells #[.int .i64 o, .int .i64 a, .int .i64 b, .int .i64 c] 23)).alloc (.cells #[.int .i64 r0, .int .i64 r1, .int .i64 r2] 60)).alloc (.cells #[.int .i64 r0, .int .i64 r1, .int .i64 r2] 60)).rowIs (w.heap.size + 2) 60 3 (fun j => .int .i64 (R3 r0 r1 r2 j))) := hrow
  have HB : Hid (Below w.heap.size w (((w.alloc (.cells #[.int .i64 o, .int .i64 a, .int .i64 b, .int .i64 c] 23)).alloc (.cells #[.int .i64 r0, .int .i64 r1, .int .i64 r2] 60)).alloc (.cells #[.int .i64 r0, .int .i64 r1, .int .i64 r2] 60)) ∧ w.heap.size + 2 < (((w.alloc (.cells #[.int .i64 o, .int .i64 a, .int .i64 b, .int .i64 c] 23)).alloc (.cells #[.int .i64 r0, .int .i64 r1, .int .i64 r2] 60)).alloc (.cells #[.int .i64 r0, .int .i64 r1, .int .i64 r2] 60)).heap.size) := ⟨hB, hl⟩
  clear hC hR hB hl hrow
  go_upto_region 3 with (fail)
  generalize (((w.alloc (.cells #[.int .i64 o, .int .i64 a, .int .i64 b, .int .i64 c] 23)).alloc (.cells #[.int .i64 r0, .int .i64 r1, .int .i64 r2] 60)).alloc (.cells #[.int .i64 r0, .int .i64 r1, .int .i64 r2] 60)) = w2 at *
  generalize hby : w.heap.size + 2 = by2 at *
  go_wp2_with fail
  refine (ops3_any o a b c _).mono ?_
  rintro e w3 ⟨rfl, hB3⟩
  have HD3 : Hid (w3.rowIs by2 60 3 (fun j => .int .i64 (R3 r0 r1 r2 j))) := HD.out.of_block (hB3.block _ HB.out.2)
  have HB3 : Hid (Below w.heap.size w w3) := HB.out.1.trans (hB3.mono (by have := HB.out.2; omega))
  have HY : Hid (w.heap.size ≤ by2) := by unfold Hid; omega
  clear c0 c1 c2 c3 HD HB hB3 hby h hk
  go_wp2_with fail
  go_loopw [7, 19] (fun v i wr => ∃ j : Nat, j ≤ 3 ∧ i = .int .i64 j ∧ wr.ownsRow w.heap.size 3 1 v (rdTo n (R3 r0 r1 r2) (R3 a b c) j).length ((rdTo n (R3 r0 r1 r2) (R3 a b c) j).map (Value.int .i64)) ∧ wr.rowIs by2 60 3 (fun j => .int .i64 (R3 r0 r1 r2 j)) ∧ Below w.heap.size w wr) (fun _ i _ => 3 - (intOf i).toNat)
  case atStart => exact ⟨0, by decide, rfl, World.ownsRow_nil _ _ _ _, HD3.out, HB3.out⟩
  case round =>
    obtain ⟨j, hj, rfl, hown, hrow, hB⟩ := hrel
    by_cases hlt : j < 3
    · have hix : ∀ w, (Instr.index 64 (.agg #[.int .i64 a, .int .i64 b, .int .i64 c]) (.int .i64 (j : Int))).run Try.prog w = .ok (.int .i64 (R3 a b c j)) w := by
        have : j = 0 ∨ j = 1 ∨ j = 2 := by omega
        rcases this with rfl | rfl | rfl
        · exact fun _ => by kernel_rfl
        · exact fun _ => by kernel_rfl
        · exact fun _ => by kernel_rfl
      have hcr := hrow.cell hlt
      obtain ⟨r, hr⟩ : ∃ r, Hid (R3 r0 r1 r2 j = r) := ⟨_, rfl⟩
      obtain ⟨x, hx⟩ : ∃ x, Hid (R3 a b c j = x) := ⟨_, rfl⟩
      obtain ⟨L, hL⟩ : ∃ L, Hid (rdTo n (R3 r0 r1 r2) (R3 a b c) j = L) := ⟨_, rfl⟩
      have hLl : L.length ≤ 48 := by rw [← hL.out]; have := rdTo_len n hn16 (R3 r0 r1 r2) (R3 a b c) j; omega
      have HN : Hid (rdTo n (R3 r0 r1 r2) (R3 a b c) (j + 1) = rdStep n r x L) := by unfold Hid; rw [← hr.out, ← hx.out, ← hL.out]; rfl
      rw [hL.out] at hown
      rw [hx.out] at hix
      simp only [hr.out] at hcr
      have HR : Hid (wr.rowIs by2 60 3 (fun j => .int .i64 (R3 r0 r1 r2 j))) := hrow
      have HBr : Hid (Below w.heap.size w wr) := hB
      have hjI : (j : Int) < 3 := by omega
      obtain ⟨av, cv, rfl⟩ : ∃ av cv, u7 = .slice av L.length cv := own_len hown
      have HO : Hid (wr.ownsRow w.heap.size 3 1 (.slice av L.length cv) L.length (L.map (Value.int .i64))) := hown
      clear hown hrow hB hr hx hL HD3 HB3
      by_cases e2 : r = 2
      · subst e2
        have hs := src_of_own HO.out
        obtain ⟨bb, hbb⟩ : ∃ bb, Hid (decide (x ∈ L) = bb) := ⟨_, rfl⟩
        go_wp2_with fail
        refine (contains' _ (by omega) hs hbb).mono ?_
        rintro e w4 ⟨rfl, hw4⟩
        rw [hw4]
        clear hw4 hs
        cases bb with
        | true =>
          have HE : Hid (rdStep n 2 x L = L) := by
            have := hbb.out
            unfold Hid rdStep
            rw [if_pos rfl, if_pos (by simpa using this)]
          go_wp2_with fail
          go_roundw
          case rel => exact ⟨j + 1, by omega, by go_num, by rw [HN.out, HE.out]; exact HO.out, HR.out, HBr.out⟩
          case measure => simp [intOf]; omega
        | false =>
          have HE : Hid (rdStep n 2 x L = L ++ [x]) := by
            have := hbb.out
            unfold Hid rdStep
            rw [if_pos rfl, if_neg (by simpa using this)]
          have HH : Hid ((∀ j' u, [Value.int .i64 (x)][j']? = some u → (wr.alloc (.cells #[.int .i64 (x)] 3)).cell? ((⟨wr.heap.size, 0, none⟩ : Addr).add j') = some u) ∧ (∀ u ∈ [Value.int .i64 (x)], u.oneCell' = true) ∧ L.length + 1 ≤ maxLen ∧ (L.length + 1) * 8 ≤ 140737488355328 ∧ w.heap.size ≤ (wr.alloc (.cells #[.int .i64 (x)] 3)).heap.size) := by
            refine ⟨fun j' u hu => ?_, fun u hu => ?_, by unfold maxLen; omega, by omega, by have := HBr.out.size; simp; omega⟩
            · rw [Go.WideShapes.add_plain, Nat.zero_add]
              exact cell_new wr _ _ (by rw [← hu]; simp)
            · simp at hu; subst hu; rfl
          go_wp2_with (at_builtin; refine wpList_append_own _ rfl _ _ 37 rfl w.heap.size 3 t0 (.int .i64 0) 1 8 Try.underlying37 ht hz0 hz1 hz2 rfl (by decide) _ _ _ rfl (HO.out.alloc _) ⟨wr.heap.size, 0, none⟩ 1 1 [.int .i64 (x)] rfl rfl HH.out.1 HH.out.2.1 HH.out.2.2.1 HH.out.2.2.2.1 HH.out.2.2.2.2 ?_)
          · intro v5 w5 ho hg _
            have t := Ty.of_grown (HO.out.alloc (.cells #[.int .i64 (x)] 3)) hg (Nat.le_refl _)
            have HR5 : Hid (w5.rowIs by2 60 3 (fun j => .int .i64 (R3 r0 r1 r2 j))) := t.row (HR.out.alloc _) (by decide)
            have HB5 : Hid (Below w.heap.size w w5) := (HBr.out.alloc HBr.out.size _).grown hg (by have := HBr.out.size; simp; omega) (fun k hk => ((HO.out.alloc (.cells #[.int .i64 (x)] 3)).lt k hk).1)
            have HO5 : Hid (w5.ownsRow w.heap.size 3 1 v5 (L ++ [x]).length ((L ++ [x]).map (Value.int .i64))) := by unfold Hid; simpa using ho
            clear t ho hg HO HR HBr HH
            go_wp2_with fail
            go_roundw
            case rel => exact ⟨j + 1, by omega, by go_num, by rw [HN.out, HE.out]; exact HO5.out, HR5.out, HB5.out⟩
            case measure => simp [intOf]; omega
      · by_cases e4 : r = 4
        · subst e4
          have HE : Hid (rdStep n 4 x L = L ++ argsL x n) := by unfold Hid rdStep; rw [if_neg (by decide), if_pos rfl]
          obtain ⟨w6, hw6⟩ : ∃ w6, w6 = wr := ⟨_, rfl⟩
          subst hw6
          go_upto_region 11 with (fail)
          go_cut [40, 41] (fun v i wk => v = .int .i64 (n : Int) ∧ i = .int .i64 0 ∧ wk = w6)
          case first => as_aux_lemma =>
            have hnn := hn.out
            unfold nA at hnn
            have hc : args < 0 ∨ args = 0 ∨ (0 < args ∧ args < 16) ∨ args = 16 ∨ 16 < args := by omega
            rcases hc with hc | rfl | ⟨hc, hc2⟩ | rfl | hc
            · have e : n = 0 := by rw [if_pos (by omega)] at hnn; omega
              subst e
              clear hnn
              go_wp2
              go_meet
              case rel => exact ⟨rfl, rfl, rfl⟩
            · have e : n = 0 := by rw [if_pos (by omega)] at hnn; omega
              subst e
              clear hnn
              go_wp2
              go_meet
              case rel => exact ⟨rfl, rfl, rfl⟩
            · have e : args = (n : Int) := by rw [if_neg (by omega), if_neg (by omega)] at hnn; omega
              clear hnn hn
              subst e
              go_wp2
              go_meet
              case rel => exact ⟨rfl, rfl, rfl⟩
            · have e : n = 16 := by rw [if_neg (by omega), if_pos (by omega)] at hnn; omega
              subst e
              clear hnn
              go_wp2
              go_meet
              case rel => exact ⟨rfl, rfl, rfl⟩
            · have e : n = 16 := by rw [if_neg (by omega), if_pos (by omega)] at hnn; omega
              subst e
              clear hnn
              go_wp2
              go_meet
              case rel => exact ⟨rfl, rfl, rfl⟩
          case rest =>
            obtain ⟨rfl, rfl, hw7⟩ := hcut
            rw [hw7]
            clear hw7
            go_wp2_with fail
            go_loopw [7, 41] (fun v i wk => ∃ m : Nat, m ≤ n ∧ i = .int .i64 m ∧ wk.ownsRow w.heap.size 3 1 v (L ++ argsL x m).length ((L ++ argsL x m).map (Value.int .i64)) ∧ wk.rowIs by2 60 3 (fun j => .int .i64 (R3 r0 r1 r2 j)) ∧ Below w.heap.size w wk) (fun _ i _ => n - (intOf i).toNat)
            case atStart => exact ⟨0, Nat.zero_le _, rfl, by simpa [argsL] using HO.out, HR.out, HBr.out⟩
            case round =>
              obtain ⟨m, hm, rfl, hown, hrow, hB⟩ := hrel
              clear HO HR HBr
              obtain ⟨M, hM⟩ : ∃ M, Hid (L ++ argsL x m = M) := ⟨_, rfl⟩
              have hMl : M.length ≤ 64 := by rw [← hM.out]; simp [argsL_len]; omega
              have HM' : Hid (L ++ argsL x (m + 1) = M ++ [wrap64 (x + (m : Int))]) := by unfold Hid; rw [← hM.out, List.append_assoc]; rfl
              rw [hM.out] at hown
              obtain ⟨av2, cv2, rfl⟩ : ∃ av cv, u7 = .slice av M.length cv := own_len hown
              have HO : Hid (wr.ownsRow w.heap.size 3 1 (.slice av2 M.length cv2) M.length (M.map (Value.int .i64))) := hown
              have HR : Hid (wr.rowIs by2 60 3 (fun j => .int .i64 (R3 r0 r1 r2 j))) := hrow
              have HBr : Hid (Below w.heap.size w wr) := hB
              clear hown hrow hB
              by_cases hlt2 : m < n
              · have hmI : (m : Int) < (n : Int) := by omega
                have HH : Hid ((∀ j' u, [Value.int .i64 (wrap64 (x + (m : Int)))][j']? = some u → (wr.alloc (.cells #[.int .i64 (wrap64 (x + (m : Int)))] 3)).cell? ((⟨wr.heap.size, 0, none⟩ : Addr).add j') = some u) ∧ (∀ u ∈ [Value.int .i64 (wrap64 (x + (m : Int)))], u.oneCell' = true) ∧ M.length + 1 ≤ maxLen ∧ (M.length + 1) * 8 ≤ 140737488355328 ∧ w.heap.size ≤ (wr.alloc (.cells #[.int .i64 (wrap64 (x + (m : Int)))] 3)).heap.size) := by
                  refine ⟨fun j' u hu => ?_, fun u hu => ?_, by unfold maxLen; omega, by omega, by have := HBr.out.size; simp; omega⟩
                  · rw [Go.WideShapes.add_plain, Nat.zero_add]
                    exact cell_new wr _ _ (by rw [← hu]; simp)
                  · simp at hu; subst hu; rfl
                go_wp2_with (at_builtin; refine wpList_append_own _ rfl _ _ 37 rfl w.heap.size 3 t0 (.int .i64 0) 1 8 Try.underlying37 ht hz0 hz1 hz2 rfl (by decide) _ _ _ rfl (HO.out.alloc _) ⟨wr.heap.size, 0, none⟩ 1 1 [.int .i64 (wrap64 (x + (m : Int)))] rfl rfl HH.out.1 HH.out.2.1 HH.out.2.2.1 HH.out.2.2.2.1 HH.out.2.2.2.2 ?_)
                · intro v5 w5 ho hg _
                  have t := Ty.of_grown (HO.out.alloc (.cells #[.int .i64 (wrap64 (x + (m : Int)))] 3)) hg (Nat.le_refl _)
                  have HR5 : Hid (w5.rowIs by2 60 3 (fun j => .int .i64 (R3 r0 r1 r2 j))) := t.row (HR.out.alloc _) (by decide)
                  have HB5 : Hid (Below w.heap.size w w5) := (HBr.out.alloc HBr.out.size _).grown hg (by have := HBr.out.size; simp; omega) (fun k hk => ((HO.out.alloc (.cells #[.int .i64 (wrap64 (x + (m : Int)))] 3)).lt k hk).1)
                  have HO5 : Hid (w5.ownsRow w.heap.size 3 1 v5 (M ++ [wrap64 (x + (m : Int))]).length ((M ++ [wrap64 (x + (m : Int))]).map (Value.int .i64))) := by unfold Hid; simpa using ho
                  clear t ho hg HO HR HBr HH
                  go_wp2_with fail
                  go_roundw
                  case rel => exact ⟨m + 1, by omega, by go_num, by rw [HM'.out]; exact HO5.out, HR5.out, HB5.out⟩
                  case measure => simp [intOf]; omega
              · have e : m = n := by omega
                subst e
                have HOm : Hid (wr.ownsRow w.heap.size 3 1 (.slice av2 M.length cv2) (rdTo m (R3 r0 r1 r2) (R3 a b c) (j + 1)).length ((rdTo m (R3 r0 r1 r2) (R3 a b c) (j + 1)).map (Value.int .i64))) := by unfold Hid; rw [HN.out, HE.out, hM.out]; exact HO.out
                clear HO
                go_wp2_with fail
                go_roundw
                case rel => exact ⟨j + 1, by omega, by go_num, HOm.out, HR.out, HBr.out⟩
                case measure => simp [intOf]; omega
        · have HE : Hid (rdStep n r x L = L) := by unfold Hid rdStep; rw [if_neg e2, if_neg e4]
          go_wp2_with fail
          go_roundw
          case rel => exact ⟨j + 1, by omega, by go_num, by rw [HN.out, HE.out]; exact HO.out, HR.out, HBr.out⟩
          case measure => simp [intOf]; omega
    · have e : j = 3 := by omega
      subst e
      have HO : Hid (wr.ownsRow w.heap.size 3 1 u7 (rdTo n (R3 r0 r1 r2) (R3 a b c) 3).length ((rdTo n (R3 r0 r1 r2) (R3 a b c) 3).map (Value.int .i64))) := hown
      have HBr : Hid (Below w.heap.size w wr) := hB
      clear hown hB hrow
      go_wp2_with fail
      go_ret
      exact ⟨_, rfl, HO.out, HBr.out⟩

end Go.Proofs.Ytglalihheppgpaa

/- The walk of ShapeTells: what is handed in, and the plain functions. -/
import Derived.Test.YtboajgkfienboaaShG
import Derived.Test.YtboajgkfienboaaShI
import Derived.Test.YtboajgkfienboaaShM
import Derived.Test.YtboajgkfienboaaShN
import Derived.Test.YtboajgkfienboaaQi
import Derived.Deep.DeepCutAuto
namespace Go.Proofs.Ytboajgkfienboaa
open Go.RowKit Go.Maps

set_option maxHeartbeats 4000000 in
set_option maxRecDepth 100000 in
theorem tells_many (k n : Int) (a a' : Option Addr) (m m' c c' : Nat) (w : World) (h : 30 < m ∨ 40 < m') :
    Calls Try.prog 3 #[.int .i64 k, .int .i64 n, .slice a m c, .slice a' m' c'] w fun e w' => e = .returned (.bool true) ∧ Below w.heap.size w w' := by
  by_cases h1 : 30 < m
  · have h' : 30 < (m : Int) := by omega
    go_enter Try.func3, Try.ntmps3
    go_wp2_with fail
    refine (alive_any _).mono ?_
    rintro e w1 ⟨rfl, hw1⟩
    go_wp2_with fail
    go_ret
    exact ⟨rfl, hw1⟩
  · have h' : ¬ 30 < (m : Int) := by omega
    have h2' : 40 < (m' : Int) := by omega
    go_enter Try.func3, Try.ntmps3
    go_wp2_with fail
    refine (alive_any _).mono ?_
    rintro e w1 ⟨rfl, hw1⟩
    go_wp2_with fail
    go_ret
    exact ⟨rfl, hw1⟩

theorem loS_want (L : List Int) {k want : Nat} (h : loS L (k + 1) + 2 ^ (k + 1) * want = loS L 16) : loS L k + 2 ^ k * (2 * want + bitN L k) = loS L 16 := by
  rw [← h, loS, Nat.pow_succ, Nat.mul_add]
  have : 2 ^ k * (2 * want) = 2 ^ k * 2 * want := by rw [Nat.mul_assoc]
  rw [this, Nat.mul_comm (2 ^ k) (bitN L k)]
  omega

theorem own_cells {w : World} {base g cap : Nat} {L : List Int} (h : w.ownsRow base 3 1 (.slice (some ⟨g, 0, none⟩) (L.length + 1) cap) (L.length + 1) ((L ++ [-77]).map (Value.int .i64))) :
    ∀ j, j < L.length → w.cell? ⟨g, j, none⟩ = some (.int .i64 (L.getD j 0)) := by
  intro j hj
  have := h.cellAt (g := g) (cap := cap) j (by omega)
  rw [this, List.getElem?_map, List.getElem?_append_left hj]
  simp [hj]
theorem own_src {w : World} {base g cap : Nat} {L : List Int} (h : w.ownsRow base 3 1 (.slice (some ⟨g, 0, none⟩) (L.length + 1) cap) (L.length + 1) ((L ++ [-77]).map (Value.int .i64))) :
    SrcAt w (.slice (some ⟨g, 0, none⟩) L.length cap) L := by
  rw [List.map_append] at h
  exact src_of_own (own_prefix (n := L.length) (m := 1) h (by simp))
theorem own_below {w w' : World} {base : Nat} {v : Value} {n : Nat} {xs : List Value} (h : w.ownsRow base 3 1 v n xs) (hB : Below w.heap.size w w') : w'.ownsRow base 3 1 v n xs := by
  refine ⟨h.1, ?_⟩
  rcases h.2 with h2 | ⟨g, cap, cur, hv, hg, hh, r⟩
  · exact Or.inl h2
  · exact Or.inr ⟨g, cap, cur, hv, hg, (hB.block g (Array.getElem?_eq_some_iff.1 hh).1).trans hh, r⟩
theorem up_false {f k a : Int} (h : Hid (upN f k = a)) (hb : Hid (upB f k = false)) : a = 0 := by
  have := of_decide_eq_false hb.out
  rw [← h.out, upN, if_neg this]
theorem up_true {f k a : Int} (h : Hid (upN f k = a)) (hb : Hid (upB f k = true)) : f ≤ k ∧ k < f + 16 ∧ a = k - f := by
  have := of_decide_eq_true hb.out
  rw [← h.out, upN, if_pos this]
  exact ⟨this.1, this.2, rfl⟩

set_option maxHeartbeats 8000000 in
set_option maxRecDepth 100000 in
theorem tells_core (k n : Int) (Ls : List (List Int)) (M : List Int) (w : World) (a a' : Option Addr) (c c' : Nat) (h30 : Ls.length ≤ 30) (h40 : M.length ≤ 40) (hF : FitA Ls)
    (hS : ShV w (.slice a Ls.length c) Ls) (hM : SrcAt w (.slice a' M.length c') M) {p q f v : Bool} {a1 a2 : Int} (hp : Hid (upB 16 k = p)) (hq : Hid (upB 64 k = q)) (hf : Hid (fldB k n = f)) (hv : Hid (valB k n = v))
    (h1 : Hid (upN 16 k = a1)) (h2 : Hid (upN 64 k = a2)) :
    Calls Try.prog 3 #[.int .i64 k, .int .i64 n, .slice a Ls.length c, .slice a' M.length c'] w fun e w' => e = .returned (.bool true) ∧ Below w.heap.size w w' := by
  have HS : Hid (ShV w (.slice a Ls.length c) Ls) := hS
  have HF : Hid (FitA Ls) := hF
  have HM : Hid (SrcAt w (.slice a' M.length c') M) := hM
  clear hS hF hM
  have h30' : ¬ 30 < (Ls.length : Int) := by omega
  have h40' : ¬ 40 < (M.length : Int) := by omega
  go_enter Try.func3, Try.ntmps3
  go_wp2_with fail
  refine (alive_any _).mono ?_
  rintro e w1 ⟨rfl, hw1⟩
  have HB : Hid (Below w.heap.size w w1) := hw1
  clear hw1
  have HS1 : Hid (ShV w1 (.slice a Ls.length c) Ls) := HS.out.below HB.out
  go_wp2_with fail
  go_loop [9] (fun i => ∃ m : Nat, m ≤ Ls.length ∧ i = .int .i64 m ∧ Hid (∀ j, j < m → (Ls.getD j []).length ≤ 40)) (fun i => Ls.length - (intOf i).toNat)
  case atStart => exact ⟨0, Nat.zero_le _, rfl, fun j hj => absurd hj (by omega)⟩
  case round =>
    obtain ⟨m, hm, rfl, HA⟩ := hrel
    by_cases hml : m < Ls.length
    · obtain ⟨b, off, rfl, hSh⟩ : ∃ b off, a = some ⟨b, off, none⟩ ∧ ShAt w1 b off Ls := by
        rcases HS1.out with ⟨h, _⟩ | ⟨b, off, c', e, h⟩
        · rw [h] at hml; simp at hml
        · simp at e
          exact ⟨b, off, e.1, h⟩
      obtain ⟨fa, fc, hf, _⟩ := hSh.cell m hml
      have HE : Hid ((Ls.getD m []).length ≤ 40 → ∀ j, j < m + 1 → (Ls.getD j []).length ≤ 40) := fun h j hj => by
        by_cases e : j = m
        · rw [e]; exact h
        · exact HA.out j (by omega)
      have hml' : (m : Int) < (Ls.length : Int) := by omega
      clear hSh
      generalize (Ls.getD m []).length = z at *
      by_cases hz : 40 < z
      · have hz' : 40 < (z : Int) := by omega
        go_wp2_with fail
        go_ret
        exact ⟨rfl, HB.out⟩
      · have hz' : ¬ 40 < (z : Int) := by omega
        go_wp2_with fail
        go_round
        case rel => exact ⟨m + 1, by omega, by go_num, HE.out (by omega)⟩
        case measure => simp [intOf]; omega
    · have em : m = Ls.length := by omega
      have H40 : Hid (∀ j, j < Ls.length → (Ls.getD j []).length ≤ 40) := by rw [← em]; exact HA.out
      have hml' : ¬ (m : Int) < (Ls.length : Int) := by omega
      clear HA em
      go_wp2_with fail
      refine (points_any h1 hp _).mono ?_
      rintro e w1' ⟨rfl, rfl⟩
      go_wp2_with fail
      refine (places_any h2 hq _).mono ?_
      rintro e w1' ⟨rfl, rfl⟩
      go_upto_region 10 with (fail)
      go_cut [117] (fun t wr => t = .bool false ∧ wr = w1')
      case first =>
        cases p
        · cases q
          · obtain rfl := up_false h1 hp
            obtain rfl := up_false h2 hq
            go_wp2_with fail
            refine (valid_any hv _).mono ?_
            rintro e w2 ⟨rfl, rfl⟩
            go_wp2_with fail
            refine (refValid_any hv _).mono ?_
            rintro e w2 ⟨rfl, rfl⟩
            go_wp2_with fail
            refine (field_any hf _).mono ?_
            rintro e w2 ⟨rfl, rfl⟩
            go_wp2_with fail
            refine (refField_any hf _).mono ?_
            rintro e w2 ⟨rfl, rfl⟩
            go_wp2_with fail
            refine (isPtr_any hp _).mono ?_
            rintro e w2 ⟨rfl, rfl⟩
            go_wp2_with fail
            refine (isLoc_any hq _).mono ?_
            rintro e w2 ⟨rfl, rfl⟩
            go_wp2_with fail
            go_meet
            case rel => exact ⟨rfl, rfl⟩
          · obtain rfl := up_false h1 hp
            obtain ⟨k1, k2, rfl⟩ := up_true h2 hq
            go_wp2_with fail
            refine (valid_any hv _).mono ?_
            rintro e w2 ⟨rfl, rfl⟩
            go_wp2_with fail
            refine (refValid_any hv _).mono ?_
            rintro e w2 ⟨rfl, rfl⟩
            go_wp2_with fail
            refine (field_any hf _).mono ?_
            rintro e w2 ⟨rfl, rfl⟩
            go_wp2_with fail
            refine (refField_any hf _).mono ?_
            rintro e w2 ⟨rfl, rfl⟩
            go_wp2_with fail
            refine (isPtr_any hp _).mono ?_
            rintro e w2 ⟨rfl, rfl⟩
            go_wp2_with fail
            refine (isLoc_any hq _).mono ?_
            rintro e w2 ⟨rfl, rfl⟩
            go_wp2_with fail
            go_meet
            case rel => exact ⟨rfl, rfl⟩
        · cases q
          · obtain ⟨k1, k2, rfl⟩ := up_true h1 hp
            obtain rfl := up_false h2 hq
            go_wp2_with fail
            refine (valid_any hv _).mono ?_
            rintro e w2 ⟨rfl, rfl⟩
            go_wp2_with fail
            refine (refValid_any hv _).mono ?_
            rintro e w2 ⟨rfl, rfl⟩
            go_wp2_with fail
            refine (field_any hf _).mono ?_
            rintro e w2 ⟨rfl, rfl⟩
            go_wp2_with fail
            refine (refField_any hf _).mono ?_
            rintro e w2 ⟨rfl, rfl⟩
            go_wp2_with fail
            refine (isPtr_any hp _).mono ?_
            rintro e w2 ⟨rfl, rfl⟩
            go_wp2_with fail
            refine (isLoc_any hq _).mono ?_
            rintro e w2 ⟨rfl, rfl⟩
            go_wp2_with fail
            go_meet
            case rel => exact ⟨rfl, rfl⟩
          · obtain ⟨k1, k2, _⟩ := up_true h1 hp
            obtain ⟨k3, k4, _⟩ := up_true h2 hq
            omega
      case rest =>
        obtain ⟨rfl, rfl⟩ := hcut
        clear h1 h2 hp hq hf hv
        go_wp2_with fail
        go_loopw [14] (fun i wr => ∃ m : Nat, m ≤ Ls.length ∧ i = .int .i64 m ∧ Hid (Below w.heap.size w wr)) (fun i _ => Ls.length - (intOf i).toNat)
        case atStart => exact ⟨0, Nat.zero_le _, rfl, HB⟩
        case round =>
          obtain ⟨m, hm, rfl, HW⟩ := hrel
          clear HS1 HB
          by_cases hml : m < Ls.length
          · obtain ⟨b, off, rfl, hSh⟩ : ∃ b off, a = some ⟨b, off, none⟩ ∧ ShAt w b off Ls := by
              rcases HS.out with ⟨h, _⟩ | ⟨b, off, c', e, h⟩
              · rw [h] at hml; simp at hml
              · simp at e
                exact ⟨b, off, e.1, h⟩
            have HSr : Hid (ShAt wr b off Ls) := hSh.below HW.out
            clear hSh
            obtain ⟨fa, fc, hcl, hx⟩ := HSr.out.cell m hml
            have HX : Hid (SrcAt wr (.slice fa (Ls.getD m []).length fc) (Ls.getD m [])) := hx
            clear hx
            have hL40 : (Ls.getD m []).length ≤ 40 := H40.out m hml
            obtain ⟨L, hL⟩ : ∃ L, Hid (Ls.getD m [] = L) := ⟨_, rfl⟩
            rw [hL.out] at hcl HX hL40
            have hml' : (m : Int) < (Ls.length : Int) := by omega
            go_wp2_with fail
            refine (lent_any L fa fc _ (by omega) HX.out).mono ?_
            rintro e w2 ⟨g, cap, rfl, hown, hB2⟩
            have HO : Hid (w2.ownsRow wr.heap.size 3 1 (.slice (some ⟨g, 0, none⟩) (L.length + 1) cap) (L.length + 1) ((L ++ [-77]).map (Value.int .i64))) := hown
            have HB2 : Hid (Below wr.heap.size wr w2) := hB2
            have hcl2 : w2.cell? ⟨b, off + m, none⟩ = some (.slice fa L.length fc) := (hB2.cell (p := ⟨b, off + m, none⟩) HSr.out.lt).trans hcl
            clear hown hB2
            go_wp2_with fail
            have HO3 : Hid ((w2.alloc (.cells #[.slice (some ⟨g, 0, none⟩) L.length cap] 26)).ownsRow wr.heap.size 3 1 (.slice (some ⟨g, 0, none⟩) (L.length + 1) cap) (L.length + 1) ((L ++ [-77]).map (Value.int .i64))) := HO.out.alloc _
            have HB3 : Hid (Below wr.heap.size wr (w2.alloc (.cells #[.slice (some ⟨g, 0, none⟩) L.length cap] 26))) := HB2.out.alloc HB2.out.size _
            have hbox : (w2.alloc (.cells #[.slice (some ⟨g, 0, none⟩) L.length cap] 26)).cell? ⟨w2.heap.size, 0, none⟩ = some (.slice (some ⟨g, 0, none⟩) L.length cap) := by simp
            have hsb : w2.heap.size < (w2.alloc (.cells #[.slice (some ⟨g, 0, none⟩) L.length cap] 26)).heap.size := by simp
            clear HO HB2 hcl2
            generalize (w2.alloc (.cells #[.slice (some ⟨g, 0, none⟩) L.length cap] 26)) = w3 at *
            generalize w2.heap.size = sb at *
            have hcl3 : w3.cell? ⟨b, off + m, none⟩ = some (.slice fa L.length fc) := (HB3.out.cell (p := ⟨b, off + m, none⟩) HSr.out.lt).trans hcl
            have HCG : Hid (∀ j, j < L.length → w3.cell? ⟨g, j, none⟩ = some (.int .i64 (L.getD j 0))) := own_cells HO3.out
            clear hcl
            go_loop [17, 18] (fun s i => ∃ (kk want : Nat), kk ≤ 16 ∧ i = .int .i64 ((kk : Int) - 1) ∧ s = .int .i64 (want : Int) ∧ Hid (loS L kk + 2 ^ kk * want = loS L 16)) (fun _ i => (intOf i + 1).toNat)
            case atStart => exact ⟨16, 0, Nat.le_refl _, rfl, rfl, by show _ = _; simp⟩
            case round =>
              obtain ⟨kk, want, hkk, rfl, rfl, HWT⟩ := hrel
              have hwant : want ≤ 65535 := by
                have h1 := HWT.out
                have h2 := loS_lt L 16
                have h3 : 1 * want ≤ 2 ^ kk * want := Nat.mul_le_mul_right _ (Nat.one_le_two_pow)
                omega
              cases kk with
              | succ j =>
                have ej : ((j + 1 : Nat) : Int) - 1 = (j : Int) := by omega
                rw [ej]
                clear ej
                have HWN := loS_want L HWT.out
                have hj16 : j < 16 := by omega
                by_cases hjl : j < L.length
                · have hcj := HCG.out j hjl
                  have hb1 : bitN L j = if upB 16 (L.getD j 0) = true then 1 else 0 := by unfold bitN; simp [hjl]
                  obtain ⟨pb, hpb⟩ : ∃ pb, Hid (upB 16 (L.getD j 0) = pb) := ⟨_, rfl⟩
                  rw [hb1, hpb.out] at HWN
                  have HWN' : Hid (loS L j + 2 ^ j * (2 * want + if pb = true then 1 else 0) = loS L 16) := HWN
                  clear HWN hb1 HWT
                  generalize L.getD j 0 = x at *
                  have hjl' : (j : Int) < (L.length : Int) := by omega
                  cases pb
                  · go_wp2_with fail
                    refine (isPtr_any hpb _).mono ?_
                    rintro e w4 ⟨rfl, rfl⟩
                    go_wp2_with fail
                    go_round
                    case rel => exact ⟨j, 2 * want, by omega, by go_num, by go_num, HWN'⟩
                    case measure => simp [intOf]
                  · go_wp2_with fail
                    refine (isPtr_any hpb _).mono ?_
                    rintro e w4 ⟨rfl, rfl⟩
                    go_wp2_with fail
                    go_round
                    case rel => exact ⟨j, 2 * want + 1, by omega, by go_num, by go_num, HWN'⟩
                    case measure => simp [intOf]
                · have hb1 : bitN L j = 0 := by unfold bitN; rw [if_neg (by omega)]
                  rw [hb1] at HWN
                  have HWN' : Hid (loS L j + 2 ^ j * (2 * want + 0) = loS L 16) := HWN
                  clear HWN hb1 HWT
                  have hjl' : ¬ (j : Int) < (L.length : Int) := by omega
                  go_wp2_with fail
                  go_round
                  case rel => exact ⟨j, 2 * want, by omega, by go_num, by go_num, HWN'⟩
                  case measure => simp [intOf]
              | zero =>
                have HLO : Hid (loS L 16 = want) := by
                  have := HWT.out
                  have e0 : loS L 0 = 0 := rfl
                  rw [e0, Nat.pow_zero, Nat.one_mul, Nat.zero_add] at this
                  exact this.symm
                clear HWT
                go_upto_region 24 with (fail)
                obtain ⟨hcap1, hcap2, _⟩ := own_cap HO3.out
                let I : World → Prop := fun w' => Below w3.heap.size w3 w'
                have hI : I w3.drew := (Below.refl _ _).drew
                haveI : Nonempty (InW I) := ⟨⟨_, hI⟩⟩
                have c1 : ∀ z : InW I, z.w.cell? ⟨sb, 0, none⟩ = some (.slice (some ⟨g, 0, none⟩) L.length cap) := fun z => (z.h.cell (p := ⟨sb, 0, none⟩) hsb).trans hbox
                have hSr3 := HSr.out.below HB3.out
                have c2 : ∀ z : InW I, z.w.cell? ⟨b, off + m, none⟩ = some (.slice fa L.length fc) := fun z => (z.h.cell (p := ⟨b, off + m, none⟩) hSr3.lt).trans hcl3
                have hX3 : SrcAt w3 (.slice fa L.length fc) L := HX.out.below HB3.out
                have hLs : SrcAt w3 (.slice (some ⟨g, 0, none⟩) L.length cap) L := own_src HO3.out
                have hP : Hid (∀ z : InW I, Calls Try.prog 16 #[.agg #[.slice (some ⟨g, 0, none⟩) L.length cap]] z.w fun e w' => e = .returned (.int .u16 (want : Int)) ∧ I w') := fun z =>
                  (pointers_any HLO (some ⟨g, 0, none⟩) cap z.w (by omega) hcap2 (hLs.below z.h)).mono fun e w' ⟨he, hw⟩ => ⟨he, z.h.trans (hw.mono z.h.size)⟩
                have hS1 : Hid (∀ z : InW I, Calls Try.prog 17 #[.agg #[.slice (some ⟨g, 0, none⟩) L.length cap], .agg #[.slice fa L.length fc]] z.w fun e w' => e = .returned (.bool true) ∧ I w') := fun z =>
                  (sameShape (L := L) (M := L) (decide_eq_true rfl) (some ⟨g, 0, none⟩) fa cap fc z.w (by unfold maxLen; omega) (hLs.below z.h) (hX3.below z.h)).mono fun e w' ⟨he, hw⟩ => ⟨he, z.h.trans (hw.mono z.h.size)⟩
                have hSt : Hid (∀ z : InW I, Calls Try.prog 19 #[.slice (some ⟨g, 0, none⟩) L.length cap, .slice fa L.length fc] z.w fun e w' => e = .returned (.bool true) ∧ I w') := fun z =>
                  (stays_any L _ g cap wr.heap.size z.w (by omega) (own_below HO3.out z.h) (hX3.below z.h)).mono fun e w' ⟨he, q, hw⟩ => ⟨he, by rw [hw]; exact ⟨z.h.os, z.h.tape, z.h.output, z.h.size, z.h.block⟩⟩
                have hIB : Hid (∀ z : InW I, Below w.heap.size w z.w) := fun z => (HW.out.trans (HB3.out.mono HW.out.size)).trans (z.h.mono (Nat.le_trans HW.out.size HB3.out.size))
                by_cases hm0 : m = 0
                · have hgt : decide (0 < (m : Int)) = false := decide_eq_false (by omega)
                  have hgt2 : decide (0 < m) = false := decide_eq_false (by omega)
                  clear_value I
                  clear hSr3 hX3 hLs HLO HCG HSr HX HB3 HO3 hbox hcl3 hm0
                  refine wp_region_in (by kernel_rfl) (by kernel_rfl) hI ?_
                  repeat (go_big_quiet_step (first
                    | (go_at_call 16; exact callIn (hP.out _))
                    | (go_at_call 17; exact callIn (hS1.out _))
                    | (go_at_call 19; exact callIn (hSt.out _))))
                  refine wpQuiet_nil ?_
                  rintro _ ⟨z, rfl⟩
                  clear hP hS1 hSt c1 c2 hI
                  go_wp2_with fail
                  go_roundw
                  case rel => exact ⟨m + 1, by omega, by go_num, hIB.out z⟩
                  case measure => simp [intOf]; omega
                · have hgt : decide (0 < (m : Int)) = true := decide_eq_true (by omega)
                  have hgt2 : decide (0 < m) = true := decide_eq_true (by omega)
                  obtain ⟨m', hm'⟩ : ∃ m', Hid (m = m' + 1) := ⟨m - 1, by show _ = _; omega⟩
                  have em1 : (m : Int) - 1 = (m' : Int) := by have := hm'.out; omega
                  have hm1 : m' < Ls.length := by have := hm'.out; omega
                  obtain ⟨ga, gc, hcl4, hX4⟩ := hSr3.cell m' hm1
                  have hN40 := H40.out m' hm1
                  generalize Ls.getD m' [] = N at *
                  have c3 : ∀ z : InW I, z.w.cell? ⟨b, off + m', none⟩ = some (.slice ga N.length gc) := fun z => (z.h.cell (p := ⟨b, off + m', none⟩) hSr3.lt).trans hcl4
                  obtain ⟨s, hs⟩ : ∃ s, Hid (decide (L = N) = s) := ⟨_, rfl⟩
                  have hS2 : Hid (∀ z : InW I, Calls Try.prog 17 #[.agg #[.slice fa L.length fc], .agg #[.slice ga N.length gc]] z.w fun e w' => e = .returned (.bool s) ∧ I w') := fun z =>
                    (sameShape hs fa ga fc gc z.w (by unfold maxLen; omega) (hX3.below z.h) (hX4.below z.h)).mono fun e w' ⟨he, hw⟩ => ⟨he, z.h.trans (hw.mono z.h.size)⟩
                  have hG : Hid (∀ z : InW I, Calls Try.prog 18 #[.slice fa L.length fc, .slice ga N.length gc] z.w fun e w' => e = .returned (.bool s) ∧ I w') := fun z =>
                    (sameG hs _ _ z.w (by unfold maxLen; omega) (hX3.below z.h) (hX4.below z.h)).mono fun e w' ⟨he, q, hw⟩ => ⟨he, by rw [hw]; exact ⟨z.h.os, z.h.tape, z.h.output, z.h.size, z.h.block⟩⟩
                  clear_value I
                  clear hSr3 hX3 hLs HLO HCG HSr HX HB3 HO3 hbox hcl3 hm0 hX4 hcl4 hs
                  refine wp_region_in (by kernel_rfl) (by kernel_rfl) hI ?_
                  repeat (go_big_quiet_step (first
                    | (go_at_call 16; exact callIn (hP.out _))
                    | (go_at_call 17; first | with_reducible exact callIn (hS1.out _) | with_reducible exact callIn (hS2.out _))
                    | (go_at_call 18; exact callIn (hG.out _))
                    | (go_at_call 19; exact callIn (hSt.out _))))
                  refine wpQuiet_nil ?_
                  rintro _ ⟨z, rfl⟩
                  clear hP hS1 hSt hS2 hG c1 c2 c3 hI
                  go_wp2_with fail
                  go_roundw
                  case rel => exact ⟨m + 1, by omega, by go_num, hIB.out z⟩
                  case measure => simp [intOf]; omega
          · have hml' : ¬ (m : Int) < (Ls.length : Int) := by omega
            have HMr : Hid (SrcAt wr (.slice a' M.length c') M) := HM.out.below HW.out
            have HSr : Hid (ShV wr (.slice a Ls.length c) Ls) := HS.out.below HW.out
            have HK : Hid (∀ x ∈ M, wd1 Ls x ≤ 40) := fun x _ => by
              unfold wd1
              split
              · exact H40.out _ (by omega)
              · omega
            go_wp2_with fail
            refine (lent_any M a' c' _ (by omega) HMr.out).mono ?_
            rintro e w2 ⟨g, cap, rfl, hown, hB2⟩
            have HO2 : Hid (w2.ownsRow wr.heap.size 3 1 (.slice (some ⟨g, 0, none⟩) (M.length + 1) cap) (M.length + 1) ((M ++ [-77]).map (Value.int .i64))) := hown
            have HW2 : Hid (Below w.heap.size w w2) := HW.out.trans (hB2.mono HW.out.size)
            have HM2 : Hid (SrcAt w2 (.slice a' M.length c') M) := HMr.out.below hB2
            have HS2 : Hid (ShV w2 (.slice a Ls.length c) Ls) := HSr.out.below hB2
            clear hown hB2 HMr HSr HW HM HS H40
            obtain ⟨er, her⟩ : ∃ er, Hid (chkN Ls = er) := ⟨_, rfl⟩
            obtain ⟨wn, hwn⟩ : ∃ wn, Hid (wordsN Ls M = wn) := ⟨_, rfl⟩
            go_wp2_with fail
            refine (check_any her _ _ HF.out HS2.out).mono ?_
            rintro e w3 ⟨rfl, hB3⟩
            have HO3 : Hid (w3.ownsRow wr.heap.size 3 1 (.slice (some ⟨g, 0, none⟩) (M.length + 1) cap) (M.length + 1) ((M ++ [-77]).map (Value.int .i64))) := own_below HO2.out hB3
            have HW3 : Hid (Below w.heap.size w w3) := HW2.out.trans (hB3.mono HW2.out.size)
            have HM3 : Hid (SrcAt w3 (.slice a' M.length c') M) := HM2.out.below hB3
            have HS3 : Hid (ShV w3 (.slice a Ls.length c) Ls) := HS2.out.below hB3
            clear hB3 HO2 HM2 HS2
            go_wp2_with fail
            refine (refShapes_any her _ _ HS3.out).mono ?_
            rintro e w4 ⟨rfl, rfl⟩
            go_wp2_with fail
            refine (words_any hwn _ _ _ HS3.out (own_src HO3.out) (by omega) HK.out).mono ?_
            rintro e w4 ⟨rfl, rfl⟩
            go_wp2_with fail
            refine (refWords_any hwn _ _ _ HS3.out HM3.out (by omega) HK.out).mono ?_
            rintro e w4 ⟨rfl, rfl⟩
            go_wp2_with fail
            refine (stays_any M _ g cap wr.heap.size _ (by omega) HO3.out HM3.out).mono ?_
            rintro e w5 ⟨rfl, q', hq'⟩
            have HW5 : Hid (Below w.heap.size w w5) := by
              have h1 := HW3.out
              rw [hq']
              exact ⟨h1.os, h1.tape, h1.output, h1.size, h1.block⟩
            clear hq'
            go_wp2_with fail
            go_ret
            exact ⟨rfl, HW5.out⟩

theorem tells_walk (k n : Int) (Ls : List (List Int)) (M : List Int) (v u : Value) (w : World) (hF : FitA Ls) (hS : ShV w v Ls) (hM : SrcAt w u M) :
    Calls Try.prog 3 #[.int .i64 k, .int .i64 n, v, u] w fun e w' => e = .returned (.bool true) ∧ Below w.heap.size w w' := by
  obtain ⟨a, c, rfl⟩ := hS.len
  obtain ⟨a', c', rfl⟩ := hM.len
  by_cases h : 30 < Ls.length ∨ 40 < M.length
  · exact tells_many k n a a' _ _ c c' w h
  · exact tells_core k n Ls M w a a' c c' (by omega) (by omega) hF hS hM rfl rfl rfl rfl rfl rfl

end Go.Proofs.Ytboajgkfienboaa

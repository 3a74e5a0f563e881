/- The walk of ShapeOne. -/
import Derived.Test.YtboajgkfienboaaShG
import Derived.Test.YtboajgkfienboaaShI
namespace Go.Proofs.Ytboajgkfienboaa
open Go.RowKit Go.Maps

def oneB (n : Int) (L : List Int) : Bool := decide (1 ≤ L.length) && decide (L.length ≤ 16) && L.all (fun x => fldB x n)
def okF (Ls : List (List Int)) : Nat → Bool
  | 0 => decide (Ls.length ≤ 16)
  | i + 1 => okF Ls i && oneB Ls.length (Ls.getD i [])
def sumF (Ls : List (List Int)) : Nat → Nat
  | 0 => 0
  | i + 1 => sumF Ls i + (Ls.getD i []).length
theorem one_zero (n : Int) (L : List Int) : decide (oneN L n = 0) = oneB n L := by
  unfold oneN oneB
  have hc : L.countP (fun x => fldB x n) ≤ L.length := List.countP_le_length
  by_cases h1 : 1 ≤ L.length
  · by_cases h2 : L.length ≤ 16
    · rw [if_neg (by omega)]
      simp only [h1, h2, decide_true, Bool.true_and]
      by_cases h3 : L.all (fun x => fldB x n) = true
      · rw [h3]
        have : L.countP (fun x => fldB x n) = L.length := List.countP_eq_length.2 (List.all_eq_true.1 h3)
        rw [if_neg (by omega)]
        rfl
      · have h4 : ¬ L.countP (fun x => fldB x n) = L.length := fun e => h3 (List.all_eq_true.2 (List.countP_eq_length.1 e))
        rw [if_pos (by omega)]
        simp only [Bool.not_eq_true] at h3
        rw [h3]
        rfl
    · rw [if_pos (by omega)]
      simp [h2]
  · rw [if_pos (by omega)]
    simp [h1]
theorem first_zero (n : Int) : ∀ Ls : List (List Int), (firstN n Ls = 0) ↔ ∀ L ∈ Ls, oneN L n = 0
  | [] => by simp [firstN]
  | L :: r => by
    rw [firstN]
    by_cases h : oneN L n = 0
    · rw [if_pos h, first_zero n r]
      simp [h]
    · rw [if_neg h]
      simp [h]
theorem ok_all (Ls : List (List Int)) : ∀ i, i ≤ Ls.length → okF Ls i = (decide (Ls.length ≤ 16) && (Ls.take i).all (fun L => oneB Ls.length L))
  | 0, _ => by simp [okF]
  | i + 1, h => by
    have hi : i < Ls.length := by omega
    have e : Ls.getD i [] = Ls[i] := by simp [hi]
    rw [okF, ok_all Ls i (by omega), e, List.take_succ_eq_append_getElem hi, List.all_append, List.all_cons, List.all_nil, Bool.and_true, Bool.and_assoc]
theorem chk_ok (Ls : List (List Int)) : (chkN Ls == 0) = okF Ls Ls.length := by
  rw [ok_all Ls Ls.length (Nat.le_refl _), List.take_length]
  unfold chkN
  by_cases h : 16 < Ls.length
  · rw [if_pos h]
    have : ¬ Ls.length ≤ 16 := by omega
    simp [this]
  · rw [if_neg h]
    have h' : Ls.length ≤ 16 := by omega
    rw [decide_eq_true h', Bool.true_and, Bool.eq_iff_iff]
    simp only [beq_iff_eq, first_zero, List.all_eq_true, ← one_zero, decide_eq_true_eq]
theorem sum_le {Ls : List (List Int)} : ∀ {i : Nat}, (∀ j, j < i → (Ls.getD j []).length ≤ 40) → sumF Ls i ≤ 40 * i
  | 0, _ => by simp [sumF]
  | i + 1, h => by
    have h1 := sum_le (Ls := Ls) (i := i) fun j hj => h j (by omega)
    have h2 := h i (by omega)
    rw [sumF]
    omega

set_option maxHeartbeats 4000000 in
theorem shOne_many (a : Option Addr) (n c : Nat) (w : World) (h : 20 < n) :
    Calls Try.prog 5 #[.slice a n c] w fun e w' => e = .returned (.bool true) ∧ Below w.heap.size w w' := by
  have h' : 20 < (n : Int) := by omega
  go_enter Try.func5, Try.ntmps5
  go_wp2_with fail
  refine (alive_any _).mono ?_
  rintro e w1 ⟨rfl, hw1⟩
  go_wp2_with fail
  go_ret
  exact ⟨rfl, hw1⟩

theorem all_snoc (n : Int) (L : List Int) (k : Nat) (h : k < L.length) : (L.take (k + 1)).all (fun x => fldB x n) = ((L.take k).all (fun x => fldB x n) && fldB (L.getD k 0) n) := by
  rw [take_snocD L k h, List.all_append, List.all_cons, List.all_nil, Bool.and_true]

theorem ways (o : Bool) (n : Nat) (o2 : Bool) (h : (o && decide (1 ≤ n) && decide (n ≤ 16)) = o2) :
    (o = false ∧ o2 = false) ∨ (o = true ∧ n < 1 ∧ o2 = false) ∨ (o = true ∧ 16 < n ∧ o2 = false) ∨ (o = true ∧ 1 ≤ n ∧ n ≤ 16 ∧ o2 = true) := by
  subst h
  cases o
  · exact Or.inl ⟨rfl, rfl⟩
  · by_cases h1 : 1 ≤ n
    · by_cases h2 : n ≤ 16
      · exact Or.inr (Or.inr (Or.inr ⟨rfl, h1, h2, by simp [h1, h2]⟩))
      · exact Or.inr (Or.inr (Or.inl ⟨rfl, by omega, by simp [h2]⟩))
    · exact Or.inr (Or.inl ⟨rfl, by omega, by simp [h1]⟩)

set_option maxHeartbeats 8000000 in
set_option maxRecDepth 100000 in
theorem shOne_core (Ls : List (List Int)) (w : World) (a : Option Addr) (c : Nat) (h20 : Ls.length ≤ 20) (hF : FitA Ls) (h : ShV w (.slice a Ls.length c) Ls) :
    Calls Try.prog 5 #[.slice a Ls.length c] w fun e w' => e = .returned (.bool true) ∧ Below w.heap.size w w' := by
  have HS : Hid (ShV w (.slice a Ls.length c) Ls) := h
  have HF : Hid (FitA Ls) := hF
  clear h hF
  have h20' : ¬ 20 < (Ls.length : Int) := by omega
  go_enter Try.func5, Try.ntmps5
  go_wp2_with fail
  refine (alive_any _).mono ?_
  rintro e w1 ⟨rfl, hw1⟩
  have HB : Hid (Below w.heap.size w w1) := hw1
  clear hw1
  obtain ⟨o0, ho0⟩ : ∃ o0, (decide ((Ls.length : Int) ≤ 16)) = o0 := ⟨_, rfl⟩
  have HO0 : Hid (okF Ls 0 = o0) := by
    show okF Ls 0 = o0
    rw [← ho0, okF]
    exact decide_eq_decide.2 (by omega)
  go_wp2_with fail
  clear ho0
  go_loopw [3, 4, 5] (fun o s i wr => ∃ k : Nat, k ≤ Ls.length ∧ i = .int .i64 k ∧ o = .bool (okF Ls k) ∧ s = .int .i64 (sumF Ls k) ∧ Hid (Below w.heap.size w wr) ∧ Hid (∀ j, j < k → (Ls.getD j []).length ≤ 40))
    (fun _ _ i _ => Ls.length - (intOf i).toNat)
  case atStart => exact ⟨0, Nat.zero_le _, rfl, by rw [HO0.out], rfl, HB, fun j hj => absurd hj (by omega)⟩
  case round =>
    obtain ⟨k, hk, rfl, rfl, rfl, HW, H40⟩ := hrel
    clear HB HO0
    by_cases hlt : k < Ls.length
    · obtain ⟨b, off, hab, hSh⟩ : ∃ b off, a = some ⟨b, off, none⟩ ∧ ShAt w b off Ls := by
        rcases HS.out with ⟨h, _⟩ | ⟨b, off, c', e, h⟩
        · rw [h] at hlt; simp at hlt
        · simp at e
          exact ⟨b, off, e.1, h⟩
      subst hab
      have HS1 : Hid (ShV wr (.slice (some ⟨b, off, none⟩) Ls.length c) Ls) := Or.inr ⟨b, off, c, rfl, hSh.below HW.out⟩
      obtain ⟨fa, fc, hf, hx⟩ := (hSh.below HW.out).cell k hlt
      have HX : Hid (SrcAt wr (.slice fa (Ls.getD k []).length fc) (Ls.getD k [])) := hx
      have hsum : sumF Ls k ≤ 800 := by have := sum_le H40.out; omega
      have HSN : Hid (sumF Ls (k + 1) = sumF Ls k + (Ls.getD k []).length) := rfl
      have HON : Hid (okF Ls (k + 1) = (okF Ls k && oneB Ls.length (Ls.getD k []))) := rfl
      have HW1 : Hid (wordsN Ls [(k : Int)] = (Ls.getD k []).length) := by
        show wordsN _ _ = _
        rw [wordsN, wordsN, wd1, if_pos ⟨by omega, by omega⟩]
        simp
      have HD1 : Hid (wd1 Ls (k : Int) = (Ls.getD k []).length) := by
        show wd1 _ _ = _
        rw [wd1, if_pos ⟨by omega, by omega⟩]
        simp
      have H40' : Hid ((Ls.getD k []).length ≤ 40 → ∀ j, j < k + 1 → (Ls.getD j []).length ≤ 40) := fun h j hj => by
        by_cases e : j = k
        · rw [e]; exact h
        · exact H40.out j (by omega)
      clear hx hSh
      generalize Ls.getD k [] = L at *
      generalize okF Ls k = o at *
      generalize sumF Ls k = s0 at *
      by_cases hL : 40 < L.length
      · have hL' : 40 < (L.length : Int) := by omega
        go_wp2_with fail
        go_ret
        exact ⟨rfl, HW.out⟩
      · have hL' : ¬ 40 < (L.length : Int) := by omega
        obtain ⟨o2, ho2⟩ : ∃ o2, Hid ((o && decide (1 ≤ L.length) && decide (L.length ≤ 16)) = o2) := ⟨_, rfl⟩
        have HO2 : Hid (okF Ls (k + 1) = (o2 && L.all (fun x => fldB x Ls.length))) := by
          show okF _ _ = _
          rw [HON.out, ← ho2.out, oneB]
          simp only [Bool.and_assoc]
        have hcases := ways o L.length o2 ho2.out
        clear HON
        clear ho2
        rcases hcases with ⟨rfl, rfl⟩ | ⟨rfl, h1, rfl⟩ | ⟨rfl, h1, rfl⟩ | ⟨rfl, h1, h2, rfl⟩
        · go_wp2_with fail
          go_loop [3, 6] (fun v i => ∃ (m : Nat) (q : Bool), m ≤ L.length ∧ i = .int .i64 m ∧ v = .bool q ∧ Hid (q = (false && (L.take m).all (fun x => fldB x Ls.length)))) (fun _ i => L.length - (intOf i).toNat)
          case atStart => exact ⟨0, _, Nat.zero_le _, rfl, rfl, by show _ = _; simp⟩
          case round =>
            obtain ⟨m, q, hm, rfl, rfl, HQ⟩ := hrel
            by_cases hml : m < L.length
            · have hml' : (m : Int) < (L.length : Int) := by omega
              have HQ2 : Hid ((false && (L.take (m + 1)).all (fun x => fldB x Ls.length)) = (q && fldB (L.getD m 0) Ls.length)) := by
                show _ = _
                rw [all_snoc _ L m hml, HQ.out, Bool.and_assoc]
              cases q
              · go_wp2_with fail
                go_round
                case rel => exact ⟨m + 1, false, by omega, by go_num, rfl, by show _ = _; rw [HQ2.out]; rfl⟩
                case measure => simp [intOf]; omega
              · obtain ⟨fb, fo, rfl, hcf⟩ : ∃ fb fo, fa = some ⟨fb, fo, none⟩ ∧ wr.cell? ⟨fb, fo + m, none⟩ = some (.int .i64 (L.getD m 0)) := by
                  rcases HX.out with ⟨h, _⟩ | ⟨fb, fo, c', e, _, h⟩
                  · rw [h] at hml; simp at hml
                  · simp at e
                    exact ⟨fb, fo, e.1, h m hml⟩
                obtain ⟨p, hp⟩ : ∃ p, Hid (fldB (L.getD m 0) Ls.length = p) := ⟨_, rfl⟩
                rw [hp.out] at HQ2
                generalize L.getD m 0 = x at *
                go_wp2_with fail
                refine (refField_any hp _).mono ?_
                rintro e w2 ⟨rfl, rfl⟩
                go_wp2_with fail
                go_round
                case rel => exact ⟨m + 1, p, by omega, by go_num, rfl, by show _ = _; rw [HQ2.out]; rfl⟩
                case measure => simp [intOf]; omega
            · have em : m = L.length := by omega
              have HQ3 : Hid (okF Ls (k + 1) = q) := by
                show _ = _
                rw [HO2.out, HQ.out, em, List.take_length]
              have hml' : ¬ (m : Int) < (L.length : Int) := by omega
              go_wp2_with fail
              refine (words_any (Ls := Ls) (M := [(k : Int)]) HW1 _ _ _ (HS1.out.below ((Below.refl _ _).alloc (Nat.le_refl _) _)) ?src (by simp) ?bnd).mono ?_
              case src =>
                refine Or.inr ⟨wr.heap.size, 0, 1, rfl, by simp, fun j hj => ?_⟩
                match j, hj with
                | 0, _ => simp
              case bnd => intro x hx; simp at hx; subst hx; rw [HD1.out]; omega
              rintro e w2 ⟨rfl, hw2⟩
              have HB2 : Hid (Below w.heap.size w w2) := by rw [hw2]; exact HW.out.alloc HW.out.size _
              clear hw2
              go_wp2_with fail
              go_roundw
              case rel => exact ⟨k + 1, by omega, by go_num, by rw [HQ3.out], by rw [HSN.out]; go_num, HB2, H40'.out (by omega)⟩
              case measure => simp [intOf]; omega
        · have h1' : (L.length : Int) < 1 := by omega
          have H1 : Hid (L.length < 1) := h1
          clear h1
          go_wp2_with fail
          go_loop [3, 6] (fun v i => ∃ (m : Nat) (q : Bool), m ≤ L.length ∧ i = .int .i64 m ∧ v = .bool q ∧ Hid (q = (false && (L.take m).all (fun x => fldB x Ls.length)))) (fun _ i => L.length - (intOf i).toNat)
          case atStart => exact ⟨0, _, Nat.zero_le _, rfl, rfl, by show _ = _; simp⟩
          case round =>
            obtain ⟨m, q, hm, rfl, rfl, HQ⟩ := hrel
            by_cases hml : m < L.length
            · exact absurd hml (by have := H1.out; omega)
            · have em : m = L.length := by omega
              have HQ3 : Hid (okF Ls (k + 1) = q) := by
                show _ = _
                rw [HO2.out, HQ.out, em, List.take_length]
              have hml' : ¬ (m : Int) < (L.length : Int) := by omega
              go_wp2_with fail
              refine (words_any (Ls := Ls) (M := [(k : Int)]) HW1 _ _ _ (HS1.out.below ((Below.refl _ _).alloc (Nat.le_refl _) _)) ?src (by simp) ?bnd).mono ?_
              case src =>
                refine Or.inr ⟨wr.heap.size, 0, 1, rfl, by simp, fun j hj => ?_⟩
                match j, hj with
                | 0, _ => simp
              case bnd => intro x hx; simp at hx; subst hx; rw [HD1.out]; omega
              rintro e w2 ⟨rfl, hw2⟩
              have HB2 : Hid (Below w.heap.size w w2) := by rw [hw2]; exact HW.out.alloc HW.out.size _
              clear hw2
              go_wp2_with fail
              go_roundw
              case rel => exact ⟨k + 1, by omega, by go_num, by rw [HQ3.out], by rw [HSN.out]; go_num, HB2, H40'.out (by omega)⟩
              case measure => simp [intOf]; omega
        · have h1' : 1 ≤ (L.length : Int) := by omega
          have h2' : ¬ (L.length : Int) ≤ 16 := by omega
          go_wp2_with fail
          go_loop [3, 6] (fun v i => ∃ (m : Nat) (q : Bool), m ≤ L.length ∧ i = .int .i64 m ∧ v = .bool q ∧ Hid (q = (false && (L.take m).all (fun x => fldB x Ls.length)))) (fun _ i => L.length - (intOf i).toNat)
          case atStart => exact ⟨0, _, Nat.zero_le _, rfl, rfl, by show _ = _; simp⟩
          case round =>
            obtain ⟨m, q, hm, rfl, rfl, HQ⟩ := hrel
            by_cases hml : m < L.length
            · have hml' : (m : Int) < (L.length : Int) := by omega
              have HQ2 : Hid ((false && (L.take (m + 1)).all (fun x => fldB x Ls.length)) = (q && fldB (L.getD m 0) Ls.length)) := by
                show _ = _
                rw [all_snoc _ L m hml, HQ.out, Bool.and_assoc]
              cases q
              · go_wp2_with fail
                go_round
                case rel => exact ⟨m + 1, false, by omega, by go_num, rfl, by show _ = _; rw [HQ2.out]; rfl⟩
                case measure => simp [intOf]; omega
              · obtain ⟨fb, fo, rfl, hcf⟩ : ∃ fb fo, fa = some ⟨fb, fo, none⟩ ∧ wr.cell? ⟨fb, fo + m, none⟩ = some (.int .i64 (L.getD m 0)) := by
                  rcases HX.out with ⟨h, _⟩ | ⟨fb, fo, c', e, _, h⟩
                  · rw [h] at hml; simp at hml
                  · simp at e
                    exact ⟨fb, fo, e.1, h m hml⟩
                obtain ⟨p, hp⟩ : ∃ p, Hid (fldB (L.getD m 0) Ls.length = p) := ⟨_, rfl⟩
                rw [hp.out] at HQ2
                generalize L.getD m 0 = x at *
                go_wp2_with fail
                refine (refField_any hp _).mono ?_
                rintro e w2 ⟨rfl, rfl⟩
                go_wp2_with fail
                go_round
                case rel => exact ⟨m + 1, p, by omega, by go_num, rfl, by show _ = _; rw [HQ2.out]; rfl⟩
                case measure => simp [intOf]; omega
            · have em : m = L.length := by omega
              have HQ3 : Hid (okF Ls (k + 1) = q) := by
                show _ = _
                rw [HO2.out, HQ.out, em, List.take_length]
              have hml' : ¬ (m : Int) < (L.length : Int) := by omega
              go_wp2_with fail
              refine (words_any (Ls := Ls) (M := [(k : Int)]) HW1 _ _ _ (HS1.out.below ((Below.refl _ _).alloc (Nat.le_refl _) _)) ?src (by simp) ?bnd).mono ?_
              case src =>
                refine Or.inr ⟨wr.heap.size, 0, 1, rfl, by simp, fun j hj => ?_⟩
                match j, hj with
                | 0, _ => simp
              case bnd => intro x hx; simp at hx; subst hx; rw [HD1.out]; omega
              rintro e w2 ⟨rfl, hw2⟩
              have HB2 : Hid (Below w.heap.size w w2) := by rw [hw2]; exact HW.out.alloc HW.out.size _
              clear hw2
              go_wp2_with fail
              go_roundw
              case rel => exact ⟨k + 1, by omega, by go_num, by rw [HQ3.out], by rw [HSN.out]; go_num, HB2, H40'.out (by omega)⟩
              case measure => simp [intOf]; omega
        · have h1' : 1 ≤ (L.length : Int) := by omega
          have h2' : (L.length : Int) ≤ 16 := by omega
          go_wp2_with fail
          go_loop [3, 6] (fun v i => ∃ (m : Nat) (q : Bool), m ≤ L.length ∧ i = .int .i64 m ∧ v = .bool q ∧ Hid (q = (true && (L.take m).all (fun x => fldB x Ls.length)))) (fun _ i => L.length - (intOf i).toNat)
          case atStart => exact ⟨0, _, Nat.zero_le _, rfl, rfl, by show _ = _; simp⟩
          case round =>
            obtain ⟨m, q, hm, rfl, rfl, HQ⟩ := hrel
            by_cases hml : m < L.length
            · have hml' : (m : Int) < (L.length : Int) := by omega
              have HQ2 : Hid ((true && (L.take (m + 1)).all (fun x => fldB x Ls.length)) = (q && fldB (L.getD m 0) Ls.length)) := by
                show _ = _
                rw [all_snoc _ L m hml, HQ.out, Bool.and_assoc]
              cases q
              · go_wp2_with fail
                go_round
                case rel => exact ⟨m + 1, false, by omega, by go_num, rfl, by show _ = _; rw [HQ2.out]; rfl⟩
                case measure => simp [intOf]; omega
              · obtain ⟨fb, fo, rfl, hcf⟩ : ∃ fb fo, fa = some ⟨fb, fo, none⟩ ∧ wr.cell? ⟨fb, fo + m, none⟩ = some (.int .i64 (L.getD m 0)) := by
                  rcases HX.out with ⟨h, _⟩ | ⟨fb, fo, c', e, _, h⟩
                  · rw [h] at hml; simp at hml
                  · simp at e
                    exact ⟨fb, fo, e.1, h m hml⟩
                obtain ⟨p, hp⟩ : ∃ p, Hid (fldB (L.getD m 0) Ls.length = p) := ⟨_, rfl⟩
                rw [hp.out] at HQ2
                generalize L.getD m 0 = x at *
                go_wp2_with fail
                refine (refField_any hp _).mono ?_
                rintro e w2 ⟨rfl, rfl⟩
                go_wp2_with fail
                go_round
                case rel => exact ⟨m + 1, p, by omega, by go_num, rfl, by show _ = _; rw [HQ2.out]; rfl⟩
                case measure => simp [intOf]; omega
            · have em : m = L.length := by omega
              have HQ3 : Hid (okF Ls (k + 1) = q) := by
                show _ = _
                rw [HO2.out, HQ.out, em, List.take_length]
              have hml' : ¬ (m : Int) < (L.length : Int) := by omega
              go_wp2_with fail
              refine (words_any (Ls := Ls) (M := [(k : Int)]) HW1 _ _ _ (HS1.out.below ((Below.refl _ _).alloc (Nat.le_refl _) _)) ?src (by simp) ?bnd).mono ?_
              case src =>
                refine Or.inr ⟨wr.heap.size, 0, 1, rfl, by simp, fun j hj => ?_⟩
                match j, hj with
                | 0, _ => simp
              case bnd => intro x hx; simp at hx; subst hx; rw [HD1.out]; omega
              rintro e w2 ⟨rfl, hw2⟩
              have HB2 : Hid (Below w.heap.size w w2) := by rw [hw2]; exact HW.out.alloc HW.out.size _
              clear hw2
              go_wp2_with fail
              go_roundw
              case rel => exact ⟨k + 1, by omega, by go_num, by rw [HQ3.out], by rw [HSN.out]; go_num, HB2, H40'.out (by omega)⟩
              case measure => simp [intOf]; omega
    · have ek : k = Ls.length := by omega
      have HOK : Hid ((chkN Ls == 0) = okF Ls k) := by
        show _ = _
        rw [ek]; exact chk_ok Ls
      have hsum : sumF Ls k ≤ 800 := by have := sum_le H40.out; omega
      have HSK : Hid (sumF Ls k = sumF Ls Ls.length) := by rw [ek]; exact rfl
      have HA40 : Hid (∀ j, j < Ls.length → (Ls.getD j []).length ≤ 40) := by rw [ek] at H40; exact H40
      have HS1 : Hid (ShV wr (.slice a Ls.length c) Ls) := HS.out.below HW.out
      have hlt' : ¬ (k : Int) < (Ls.length : Int) := by omega
      clear H40 HS ek
      generalize okF Ls k = o at *
      generalize sumF Ls k = s0 at *
      go_wp2_with fail
      go_loop [7, 8] (fun n i => ∃ m : Nat, m ≤ Ls.length ∧ i = .int .i64 m ∧ n = .int .i64 (sumF Ls m)) (fun _ i => Ls.length - (intOf i).toNat)
      case atStart => exact ⟨0, Nat.zero_le _, rfl, rfl⟩
      case round =>
        obtain ⟨m, hm, rfl, rfl⟩ := hrel
        by_cases hml : m < Ls.length
        · obtain ⟨b, off, rfl, hSh⟩ : ∃ b off, a = some ⟨b, off, none⟩ ∧ ShAt wr b off Ls := by
            rcases HS1.out with ⟨h, _⟩ | ⟨b, off, c', e, h⟩
            · rw [h] at hml; simp at hml
            · simp at e
              exact ⟨b, off, e.1, h⟩
          obtain ⟨fa, fc, hf, _⟩ := hSh.cell m hml
          have h40 := HA40.out m hml
          have hsm : sumF Ls m ≤ 800 := by
            have := sum_le (Ls := Ls) (i := m) (fun j hj => HA40.out j (by omega))
            omega
          have HSN : Hid (sumF Ls (m + 1) = sumF Ls m + (Ls.getD m []).length) := rfl
          clear hSh
          generalize (Ls.getD m []).length = q at *
          generalize sumF Ls m = s1 at *
          have hml' : (m : Int) < (Ls.length : Int) := by omega
          go_wp2_with fail
          go_round
          case rel => exact ⟨m + 1, by omega, by go_num, by rw [HSN.out]; go_num⟩
          case measure => simp [intOf]; omega
        · have em : m = Ls.length := by omega
          have es : sumF Ls m = s0 := by rw [em, HSK.out]
          rw [es]
          have hml' : ¬ (m : Int) < (Ls.length : Int) := by omega
          clear es em
          obtain ⟨s, hs⟩ : ∃ s, Hid (chkN Ls = s) := ⟨_, rfl⟩
          rw [hs.out] at HOK
          obtain rfl := HOK.out
          go_wp2_with fail
          refine (check_any hs _ _ HF.out HS1.out).mono ?_
          rintro e w2 ⟨rfl, hw2⟩
          have HB2 : Hid (Below w.heap.size w w2) := HW.out.trans (hw2.mono HW.out.size)
          have HS2 : Hid (ShV w2 (.slice a Ls.length c) Ls) := HS1.out.below hw2
          clear hw2 HS1
          go_wp2_with fail
          refine (words_any (Ls := Ls) (M := [-1, (Ls.length : Int)]) (s := 0) ?ww _ _ _ (HS2.out.below ((Below.refl _ _).alloc (Nat.le_refl _) _)) ?src (by simp) ?bnd).mono ?_
          case ww =>
            show wordsN _ _ = _
            rw [wordsN, wordsN, wordsN, wd1, wd1, if_neg (by omega), if_neg (by omega)]
          case src =>
            refine Or.inr ⟨w2.heap.size, 0, 2, rfl, by simp, fun j hj => ?_⟩
            match j, hj with
            | 0, _ => simp
            | 1, _ => simp
          case bnd =>
            intro x hx
            simp at hx
            rcases hx with rfl | rfl
            · rw [wd1, if_neg (by omega)]; omega
            · rw [wd1, if_neg (by omega)]; omega
          rintro e w3 ⟨rfl, hw3⟩
          have HB3 : Hid (Below w.heap.size w w3) := by rw [hw3]; exact HB2.out.alloc HB2.out.size _
          clear hw3
          go_wp2_with fail
          go_ret
          exact ⟨ret_bool (by simp), HB3.out⟩

theorem shOne_walk (Ls : List (List Int)) (v : Value) (w : World) (hF : FitA Ls) (h : ShV w v Ls) :
    Calls Try.prog 5 #[v] w fun e w' => e = .returned (.bool true) ∧ Below w.heap.size w w' := by
  obtain ⟨a, c, rfl⟩ := h.len
  by_cases h20 : 20 < Ls.length
  · exact shOne_many a _ c w h20
  · exact shOne_core Ls w a c (by omega) hF h

end Go.Proofs.Ytboajgkfienboaa

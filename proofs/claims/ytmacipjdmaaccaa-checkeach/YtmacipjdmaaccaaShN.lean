/- The walk of the document's own Shapes. -/
import Derived.Test.YtmacipjdmaaccaaShE
namespace Go.Proofs.Ytmacipjdmaaccaa
open Go.RowKit Go.Maps

theorem one_bad {L : List Int} {n : Int} {m : Nat} (h1 : 1 ≤ L.length) (h2 : L.length ≤ 16) (hm : m < L.length) (h : fldB (L.getD m 0) n = false) : oneN L n = 3 := by
  unfold oneN
  rw [if_neg (by omega), if_pos]
  have hc : L.countP (fun x => fldB x n) ≤ L.length := List.countP_le_length
  have : ¬ L.countP (fun x => fldB x n) = L.length := fun e => by
    have := (List.countP_eq_length.1 e) (L.getD m 0) (by rw [List.getD, List.getElem?_eq_getElem hm]; exact List.getElem_mem hm)
    rw [h] at this
    cases this
  omega
theorem one_good {L : List Int} {n : Int} (h1 : 1 ≤ L.length) (h2 : L.length ≤ 16) (h : ∀ m, m < L.length → fldB (L.getD m 0) n = true) : oneN L n = 0 := by
  unfold oneN
  rw [if_neg (by omega), if_neg]
  have : L.countP (fun x => fldB x n) = L.length := List.countP_eq_length.2 fun x hx => by
    obtain ⟨j, hj, rfl⟩ := List.mem_iff_getElem.1 hx
    simpa [hj] using h j hj
  omega

theorem refShapes_none (a : Option Addr) (c : Nat) (w : World) :
    Calls Try.prog 14 #[.slice a 0 c] w fun e w' => e = .returned (.int .i64 0) ∧ w' = w := by
  go_enter Try.func14, Try.ntmps14
  go_wp2_with fail
  go_loop [3] (fun i => i = .int .i64 0) (fun _ => 0)
  case atStart => rfl
  case round =>
    obtain rfl := hrel
    go_wp2_with fail
    go_ret
    exact ⟨rfl, rfl⟩
theorem refShapes_many (a : Option Addr) (k c : Nat) (w : World) (h : 16 < k) :
    Calls Try.prog 14 #[.slice a k c] w fun e w' => e = .returned (.int .i64 1) ∧ w' = w := by
  have h2 : 16 < (k : Int) := by omega
  go_enter Try.func14, Try.ntmps14
  go_wp2_with fail
  go_ret
  exact ⟨rfl, rfl⟩

set_option maxHeartbeats 2000000 in
set_option maxRecDepth 100000 in
theorem refShapes_core (Ls : List (List Int)) (w : World) {b off c : Nat} (h16 : Ls.length ≤ 16) (h : ShAt w b off Ls) :
    Calls Try.prog 14 #[.slice (some ⟨b, off, none⟩) Ls.length c] w fun e w' => e = .returned (.int .i64 (firstN Ls.length Ls)) ∧ w' = w := by
  have HS : Hid (ShAt w b off Ls) := h
  clear h
  have h16' : ¬ 16 < (Ls.length : Int) := by omega
  go_enter Try.func14, Try.ntmps14
  go_wp2_with fail
  go_loop [3] (fun i => ∃ k : Nat, k ≤ Ls.length ∧ i = .int .i64 k ∧ Hid (∀ j, j < k → oneN (Ls.getD j []) Ls.length = 0))
    (fun i => Ls.length - (intOf i).toNat)
  case atStart => exact ⟨0, Nat.zero_le _, rfl, fun j hj => absurd hj (by omega)⟩
  case round =>
    obtain ⟨k, hk, rfl, HA⟩ := hrel
    by_cases hlt : k < Ls.length
    · obtain ⟨fa, fc, h1, h2⟩ := HS.out.cell k hlt
      have HX : Hid (SrcAt w (.slice fa (Ls.getD k []).length fc) (Ls.getD k [])) := h2
      clear h2
      have HE : Hid (∀ s, oneN (Ls.getD k []) Ls.length = s → ¬ s = 0 → firstN Ls.length Ls = s) := fun s hs h0 => by rw [first_at hlt HA.out (by rw [hs]; exact h0), hs]
      have HE2 : Hid (oneN (Ls.getD k []) Ls.length = 0 → ∀ j, j < k + 1 → oneN (Ls.getD j []) Ls.length = 0) := fun h0 j hj => by
        by_cases e : j = k
        · rw [e, h0]
        · exact HA.out j (by omega)
      generalize Ls.getD k [] = L at *
      have hlt' : (k : Int) < (Ls.length : Int) := by omega
      by_cases hl1 : L.length < 1
      · have hl1' : (L.length : Int) < 1 := by omega
        have HR : Hid (firstN Ls.length Ls = 1) := HE.out 1 (by unfold oneN; rw [if_pos (Or.inl hl1)]) (by omega)
        have Hl : Hid (L.length < 1) := hl1
        clear hl1
        go_wp2_with fail
        go_ret
        exact ⟨ret_int HR.out.symm, rfl⟩
      · by_cases hl2 : 16 < L.length
        · have hl1' : ¬ (L.length : Int) < 1 := by omega
          have hl2' : 16 < (L.length : Int) := by omega
          have HR : Hid (firstN Ls.length Ls = 1) := HE.out 1 (by unfold oneN; rw [if_pos (Or.inr hl2)]) (by omega)
          go_wp2_with fail
          go_ret
          exact ⟨ret_int HR.out.symm, rfl⟩
        · have hl1' : ¬ (L.length : Int) < 1 := by omega
          have hl2' : ¬ 16 < (L.length : Int) := by omega
          obtain ⟨fb, fo, rfl, hcf⟩ : ∃ fb fo, fa = some ⟨fb, fo, none⟩ ∧ Hid (∀ m, m < L.length → w.cell? ⟨fb, fo + m, none⟩ = some (.int .i64 (L.getD m 0))) := by
            rcases HX.out with ⟨h, _⟩ | ⟨fb, fo, c', e, _, h⟩
            · rw [h] at hl1; simp at hl1
            · simp at e
              exact ⟨fb, fo, e.1, h⟩
          clear HX
          go_wp2_with fail
          go_loop [4] (fun i => ∃ m : Nat, m ≤ L.length ∧ i = .int .i64 m ∧ Hid (∀ j, j < m → fldB (L.getD j 0) Ls.length = true)) (fun i => L.length - (intOf i).toNat)
          case atStart => exact ⟨0, Nat.zero_le _, rfl, fun j hj => absurd hj (by omega)⟩
          case round =>
            obtain ⟨m, hm, rfl, HB⟩ := hrel
            by_cases hml : m < L.length
            · have hcm := hcf.out m hml
              have hml' : (m : Int) < (L.length : Int) := by omega
              have HBd : Hid (fldB (L.getD m 0) Ls.length = false → firstN Ls.length Ls = 3) := fun h => HE.out 3 (one_bad (by omega) (by omega) hml h) (by omega)
              have HGd : Hid (fldB (L.getD m 0) Ls.length = true → ∀ j, j < m + 1 → fldB (L.getD j 0) Ls.length = true) := fun h j hj => by
                by_cases e : j = m
                · rw [e]; exact h
                · exact HB.out j (by omega)
              obtain ⟨p, hp⟩ : ∃ p, Hid (fldB (L.getD m 0) Ls.length = p) := ⟨_, rfl⟩
              cases p
              · have HR : Hid (firstN Ls.length Ls = 3) := HBd.out hp.out
                clear HBd HGd
                generalize L.getD m 0 = x at *
                go_wp2_with fail
                refine (refField_any hp _).mono ?_
                rintro e w2 ⟨rfl, rfl⟩
                go_wp2_with fail
                go_ret
                exact ⟨ret_int HR.out.symm, rfl⟩
              · have HR : Hid (∀ j, j < m + 1 → fldB (L.getD j 0) Ls.length = true) := HGd.out hp.out
                clear HBd HGd
                generalize L.getD m 0 = x at *
                go_wp2_with fail
                refine (refField_any hp _).mono ?_
                rintro e w2 ⟨rfl, rfl⟩
                go_wp2_with fail
                go_round
                case rel => exact ⟨m + 1, by omega, by go_num, HR⟩
                case measure => simp [intOf]; omega
            · have em : m = L.length := by omega
              have HR : Hid (∀ j, j < k + 1 → oneN (Ls.getD j []) Ls.length = 0) := HE2.out (one_good (by omega) (by omega) (by rw [← em]; exact HB.out))
              have hml' : ¬ (m : Int) < (L.length : Int) := by omega
              go_wp2_with fail
              go_round
              case rel => exact ⟨k + 1, by omega, by go_num, HR⟩
              case measure => simp [intOf]; omega
    · go_wp2_with fail
      go_ret
      have e : k = Ls.length := by omega
      exact ⟨ret_int (first_none (fun j hj => HA.out j (by omega))).symm, rfl⟩

theorem refShapes_any {Ls : List (List Int)} {s : Int} (hs : Hid (chkN Ls = s)) (v : Value) (w : World) (h : ShV w v Ls) :
    Calls Try.prog 14 #[v] w fun e w' => e = .returned (.int .i64 s) ∧ w' = w := by
  obtain rfl := hs.out
  by_cases h16 : 16 < Ls.length
  · obtain ⟨a, c, rfl⟩ := h.len
    rw [chkN, if_pos h16]
    exact refShapes_many a _ c w h16
  · rw [chkN, if_neg h16]
    rcases h with ⟨rfl, a, c, rfl⟩ | ⟨b, off, c, rfl, h⟩
    · exact refShapes_none a c w
    · exact refShapes_core Ls w (by omega) h

end Go.Proofs.Ytmacipjdmaaccaa

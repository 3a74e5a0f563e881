/- Lists of shapes in memory; the walk of Check. -/
import Derived.Test.YtmjappcjfjajmaaShD
namespace Go.Proofs.Ytmjappcjfjajmaa
open Go.RowKit Go.Maps

theorem one_any (L : List Int) (n : Int) (a : Option Addr) (c : Nat) (w : World) (hF : FitL L) (h : SrcAt w (.slice a L.length c) L) {s : Int} (hs : Hid (oneN L n = s)) :
    Calls Try.prog 88 #[.agg #[.slice a L.length c], .int .i64 n] w fun e w' => e = .returned (.int .i64 s) ∧ Below w.heap.size w w' := by
  obtain rfl := hs.out
  by_cases h0 : L.length < 1
  · have e0 : L.length = 0 := by omega
    have e1 : oneN L n = 1 := by unfold oneN; rw [if_pos (Or.inl h0)]
    rw [e1, e0]
    exact one_none a c n w
  · by_cases h16 : 16 < L.length
    · have e1 : oneN L n = 1 := by unfold oneN; rw [if_pos (Or.inr h16)]
      rw [e1]
      exact one_many a _ c n w h16
    · rcases h with ⟨h, _⟩ | ⟨b, off, c', h1, h2, h3⟩
      · rw [h] at h0; simp at h0
      · simp at h1
        obtain ⟨rfl, rfl⟩ := h1
        exact one_core L n w (by omega) (by omega) hF h2 h3

/-- At block b, from off on, lie the shapes whose fields are Ls. -/
structure ShAt (w : World) (b off : Nat) (Ls : List (List Int)) : Prop where
  lt : b < w.heap.size
  cell : ∀ j, j < Ls.length → ∃ a c, w.cell? ⟨b, off + j, none⟩ = some (.slice a (Ls.getD j []).length c) ∧ SrcAt w (.slice a (Ls.getD j []).length c) (Ls.getD j [])
/-- The value v is a list of the shapes Ls. -/
def ShV (w : World) (v : Value) (Ls : List (List Int)) : Prop :=
  (Ls = [] ∧ ∃ a c, v = .slice a 0 c) ∨ ∃ b off c, v = .slice (some ⟨b, off, none⟩) Ls.length c ∧ ShAt w b off Ls
def FitA (Ls : List (List Int)) : Prop := ∀ L ∈ Ls, FitL L
theorem FitA.at {Ls : List (List Int)} (h : FitA Ls) (j : Nat) : FitL (Ls.getD j []) := by
  by_cases hj : j < Ls.length
  · rw [List.getD, List.getElem?_eq_getElem hj]
    exact h _ (List.getElem_mem hj)
  · rw [List.getD, List.getElem?_eq_none (by omega)]
    intro n hn
    simp at hn
theorem ShAt.below {w w' : World} {b off : Nat} {Ls : List (List Int)} (h : ShAt w b off Ls) (hB : Below w.heap.size w w') : ShAt w' b off Ls :=
  ⟨Nat.lt_of_lt_of_le h.lt hB.size, fun j hj => by
    obtain ⟨a, c, h1, h2⟩ := h.cell j hj
    exact ⟨a, c, (hB.cell (p := ⟨b, off + j, none⟩) h.lt).trans h1, h2.below hB⟩⟩
theorem ShV.below {w w' : World} {v : Value} {Ls : List (List Int)} (h : ShV w v Ls) (hB : Below w.heap.size w w') : ShV w' v Ls := by
  rcases h with h | ⟨b, off, c, h1, h2⟩
  · exact Or.inl h
  · exact Or.inr ⟨b, off, c, h1, h2.below hB⟩
theorem ShV.len {w : World} {v : Value} {Ls : List (List Int)} (h : ShV w v Ls) : ∃ a c, v = .slice a Ls.length c := by
  rcases h with ⟨rfl, a, c, rfl⟩ | ⟨b, off, c, rfl, _⟩
  · exact ⟨a, c, rfl⟩
  · exact ⟨_, _, rfl⟩

/-- The first error of shapes, where there are n. -/
def firstN (n : Int) : List (List Int) → Int
  | [] => 0
  | L :: r => if oneN L n = 0 then firstN n r else oneN L n
theorem first_at {n : Int} : ∀ {Ls : List (List Int)} {k : Nat}, k < Ls.length → (∀ j, j < k → oneN (Ls.getD j []) n = 0) → ¬ oneN (Ls.getD k []) n = 0 → firstN n Ls = oneN (Ls.getD k []) n
  | [], _, h, _, _ => by simp at h
  | L :: r, 0, _, _, h0 => by
    have h0' : ¬ oneN L n = 0 := by simpa using h0
    simp [firstN, h0']
  | L :: r, k + 1, h, ha, h0 => by
    have h1 := ha 0 (by omega)
    have h1' : oneN L n = 0 := by simpa using h1
    rw [firstN, if_pos h1']
    have := first_at (n := n) (Ls := r) (k := k) (by simpa using h) (fun j hj => by simpa using ha (j + 1) (by omega)) (by simpa using h0)
    simpa using this
theorem first_none {n : Int} : ∀ {Ls : List (List Int)}, (∀ j, j < Ls.length → oneN (Ls.getD j []) n = 0) → firstN n Ls = 0
  | [], _ => rfl
  | L :: r, ha => by
    have h1 := ha 0 (by simp)
    have h1' : oneN L n = 0 := by simpa using h1
    rw [firstN, if_pos h1']
    exact first_none fun j hj => by simpa using ha (j + 1) (by simpa using hj)
def chkN (Ls : List (List Int)) : Int := if 16 < Ls.length then 1 else firstN Ls.length Ls

theorem check_none (a : Option Addr) (c : Nat) (w : World) :
    Calls Try.prog 78 #[.slice a 0 c] w fun e w' => e = .returned (.int .i64 0) ∧ Below w.heap.size w w' := by
  go_enter Try.func78, Try.ntmps78
  go_wp2_with fail
  go_loop [11] (fun i => i = .int .i64 0) (fun _ => 0)
  case atStart => rfl
  case round =>
    obtain rfl := hrel
    go_wp2_with fail
    go_ret
    exact ⟨rfl, Below.refl _ _⟩
theorem check_many (a : Option Addr) (k c : Nat) (w : World) (h : 16 < k) :
    Calls Try.prog 78 #[.slice a k c] w fun e w' => e = .returned (.int .i64 1) ∧ Below w.heap.size w w' := by
  have h2 : 16 < (k : Int) := by omega
  go_enter Try.func78, Try.ntmps78
  go_wp2_with fail
  go_ret
  exact ⟨rfl, Below.refl _ _⟩

set_option maxHeartbeats 2000000 in
theorem check_core (Ls : List (List Int)) (w : World) {b off c : Nat} (h16 : Ls.length ≤ 16) (hF : FitA Ls) (h : ShAt w b off Ls) :
    Calls Try.prog 78 #[.slice (some ⟨b, off, none⟩) Ls.length c] w fun e w' => e = .returned (.int .i64 (firstN Ls.length Ls)) ∧ Below w.heap.size w w' := by
  have HS : Hid (ShAt w b off Ls) := h
  have HF : Hid (FitA Ls) := hF
  clear h hF
  have h16' : ¬ 16 < (Ls.length : Int) := by omega
  go_enter Try.func78, Try.ntmps78
  go_wp2_with fail
  go_loopw [11] (fun i wr => ∃ k : Nat, k ≤ Ls.length ∧ i = .int .i64 k ∧ Hid (Below w.heap.size w wr) ∧ Hid (∀ j, j < k → oneN (Ls.getD j []) Ls.length = 0))
    (fun i _ => Ls.length - (intOf i).toNat)
  case atStart => exact ⟨0, Nat.zero_le _, rfl, Below.refl _ _, fun j hj => absurd hj (by omega)⟩
  case round =>
    obtain ⟨k, hk, rfl, HB, HA⟩ := hrel
    by_cases hlt : k < Ls.length
    · obtain ⟨fa, fc, h1, h2⟩ := (HS.out.below HB.out).cell k hlt
      have HX : Hid (SrcAt wr (.slice fa (Ls.getD k []).length fc) (Ls.getD k [])) := h2
      clear h2
      obtain ⟨s, hs⟩ : ∃ s, Hid (oneN (Ls.getD k []) Ls.length = s) := ⟨_, rfl⟩
      have HFk := HF.out.at k
      have HFk' : Hid (FitL (Ls.getD k [])) := HFk
      clear HFk
      have HE : Hid (¬ s = 0 → firstN Ls.length Ls = s) := fun h0 => by rw [first_at hlt HA.out (by rw [hs.out]; exact h0), hs.out]
      have HE2 : Hid (s = 0 → ∀ j, j < k + 1 → oneN (Ls.getD j []) Ls.length = 0) := fun h0 j hj => by
        by_cases e : j = k
        · rw [e, hs.out, h0]
        · exact HA.out j (by omega)
      generalize Ls.getD k [] = L at *
      by_cases h0 : s = 0
      · go_wp2_with fail
        refine (one_any L _ fa fc _ HFk'.out (HX.out.alloc _) hs).mono ?_
        rintro e w' ⟨rfl, hw⟩
        have HW : Hid (Below w.heap.size w w') := (HB.out.alloc HB.out.size _).trans (hw.mono (by have := HB.out.size; simp; omega))
        clear hw
        go_wp2_with fail
        go_roundw
        case rel => exact ⟨k + 1, by omega, by go_num, HW, HE2.out h0⟩
        case measure => simp [intOf]; omega
      · go_wp2_with fail
        refine (one_any L _ fa fc _ HFk'.out (HX.out.alloc _) hs).mono ?_
        rintro e w' ⟨rfl, hw⟩
        have HW : Hid (Below w.heap.size w w') := (HB.out.alloc HB.out.size _).trans (hw.mono (by have := HB.out.size; simp; omega))
        clear hw
        go_wp2_with fail
        go_ret
        exact ⟨ret_int (HE.out h0).symm, HW.out⟩
    · go_wp2_with fail
      go_ret
      have e : k = Ls.length := by omega
      exact ⟨ret_int (first_none (fun j hj => HA.out j (by omega))).symm, HB.out⟩

theorem check_any {Ls : List (List Int)} {s : Int} (hs : Hid (chkN Ls = s)) (v : Value) (w : World) (hF : FitA Ls) (h : ShV w v Ls) :
    Calls Try.prog 78 #[v] w fun e w' => e = .returned (.int .i64 s) ∧ Below w.heap.size w w' := by
  obtain rfl := hs.out
  by_cases h16 : 16 < Ls.length
  · obtain ⟨a, c, rfl⟩ := h.len
    rw [chkN, if_pos h16]
    exact check_many a _ c w h16
  · rw [chkN, if_neg h16]
    rcases h with ⟨rfl, a, c, rfl⟩ | ⟨b, off, c, rfl, h⟩
    · exact check_none a c w
    · exact check_core Ls w (by omega) hF h

end Go.Proofs.Ytmjappcjfjajmaa

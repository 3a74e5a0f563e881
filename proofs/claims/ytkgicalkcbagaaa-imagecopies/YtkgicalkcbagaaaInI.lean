/- Bytes of instructions, read again; the walk of chapter 9's alive. -/
import Derived.Test.YtkgicalkcbagaaaInH
namespace Go.Proofs.Ytkgicalkcbagaaa
open Go.RowKit

theorem gb_nums (xs : List Int) (j : Nat) (x : Int) (h : xs[j]? = some x) (hx : 0 ≤ x ∧ x < 256) : gb (strOfNums xs) j = x := by
  unfold gb
  have e : (strOfNums xs).data[j]? = some (UInt8.ofNat x.toNat) := by
    rw [← Array.getElem?_toList, strOfNums_data, List.getElem?_map, h]
    rfl
  rw [e]
  simp
  omega
theorem layN_at : ∀ (L : List Ins) (j : Nat) (i : Ins), L[j]? = some i → ∀ k, k < 7 → (layN L)[7 * j + k]? = (insN i)[k]?
  | [], j, i, h, k, hk => by simp at h
  | x :: L, 0, i, h, k, hk => by
    simp at h; subst h
    have : (layN (x :: L)) = insN x ++ layN L := by simp [layN]
    rw [this, Nat.mul_zero, Nat.zero_add, List.getElem?_append_left (by simpa [insN] using hk)]
  | x :: L, j + 1, i, h, k, hk => by
    have e : (layN (x :: L)) = insN x ++ layN L := by simp [layN]
    have hl : (insN x).length = 7 := rfl
    rw [e, List.getElem?_append_right (by rw [hl]; omega), hl]
    have := layN_at L j i (by simpa using h) k hk
    rw [← this]
    congr 1
    omega
theorem fit_parts {i : Ins} (h : fit i = true) : (0 ≤ i.o ∧ i.o < 30) ∧ (0 ≤ i.a ∧ i.a < 256) ∧ (0 ≤ i.c ∧ i.c < 256) ∧ wrap32 i.b = i.b := by
  unfold fit fitB kn byB at h
  simp only [Bool.and_eq_true, decide_eq_true_eq, beq_iff_eq] at h
  obtain ⟨⟨⟨⟨h1, h2⟩, h3⟩, h4⟩, _⟩ := h
  exact ⟨h1, h2, h3, h4⟩
theorem insOf_lay {L : List Ins} {j : Nat} {i : Ins} (h : L[j]? = some i) (hf : fit i = true) : insOf (layS L) (7 * j) = i := by
  obtain ⟨h1, h2, h3, h4⟩ := fit_parts hf
  have g : ∀ k x, k < 7 → (insN i)[k]? = some x → 0 ≤ x ∧ x < 256 → gb (layS L) (7 * j + k) = x := fun k x hk hx hr => gb_nums _ _ _ ((layN_at L j i h k hk).trans hx) hr
  have g0 := g 0 _ (by decide) rfl (by omega)
  have g1 := g 1 _ (by decide) rfl (by omega)
  have g2 := g 2 _ (by decide) rfl (by omega)
  have g3 := g 3 (byN i.b 0) (by decide) rfl (byN_range _ _)
  have g4 := g 4 (byN i.b 1) (by decide) rfl (byN_range _ _)
  have g5 := g 5 (byN i.b 2) (by decide) rfl (byN_range _ _)
  have g6 := g 6 (byN i.b 3) (by decide) rfl (byN_range _ _)
  have hb : rdN (fun k => gb (layS L) (7 * j + 3 + k)) = i.b := by
    show wrap32 (gb (layS L) (7 * j + 3 + 0) + 256 * gb (layS L) (7 * j + 3 + 1) + 65536 * gb (layS L) (7 * j + 3 + 2) + 16777216 * gb (layS L) (7 * j + 3 + 3)) = i.b
    rw [show 7 * j + 3 + 0 = 7 * j + 3 from rfl, show 7 * j + 3 + 1 = 7 * j + 4 from rfl, show 7 * j + 3 + 2 = 7 * j + 5 from rfl, show 7 * j + 3 + 3 = 7 * j + 6 from rfl, g3, g4, g5, g6, byN_sum, h4]
  unfold insOf
  rw [hb, g1, g2]
  rw [Nat.add_zero] at g0
  rw [g0]
  obtain ⟨o, a, b, c⟩ := i
  simp at h1 h2 h3
  simp
  omega
theorem layS_size (L : List Ins) : (layS L).size = 7 * L.length := by unfold layS; rw [strOfNums_size, layN_len]

theorem rdL_of {s : ByteArray} {M : List Ins} (h : ∀ (j : Nat) i, M[j]? = some i → insOf s (7 * j) = i) : ∀ k, k ≤ M.length → rdL s k = M.take k
  | 0, _ => rfl
  | k + 1, hk => by
    have hj := List.getElem?_eq_getElem (show k < M.length by omega)
    show rdL s k ++ [insOf s (7 * k)] = _
    rw [rdL_of h k (by omega), h k _ hj, List.take_succ_eq_append_getElem (by omega)]
theorem rd_lay {s : ByteArray} {M : List Ins} (hs : s.size = 7 * M.length) (h : ∀ (j : Nat) i, M[j]? = some i → insOf s (7 * j) = i) (hf : M.all fit = true) : readR s = M ∧ readE s = 0 := by
  have e : s.size / 7 = M.length := by omega
  have e2 : s.size % 7 = 0 := by omega
  have e3 : rdL s M.length = M := by rw [rdL_of h _ (Nat.le_refl _), List.take_length]
  have ok : rdOk s = true := by
    unfold rdOk
    rw [e, e2, e3, hf]; rfl
  unfold readR readE
  rw [ok, e, e3]
  exact ⟨rfl, rfl⟩
theorem rd_whole {L : List Ins} (hf : L.all fit = true) : readR (layS L) = L ∧ readE (layS L) = 0 :=
  rd_lay (layS_size L) (fun _ i hj => insOf_lay hj (List.all_eq_true.1 hf i (List.mem_of_getElem? hj))) hf
theorem rd_part {L : List Ins} {m : Nat} (hm : m ≤ L.length) (hf : L.all fit = true) : readR ((layS L).extract 0 (7 * m)) = L.take m ∧ readE ((layS L).extract 0 (7 * m)) = 0 := by
  have hsz := layS_size L
  refine rd_lay (by rw [ByteArray.size_extract, hsz, List.length_take]; omega) (fun j i hj => ?_) ?_
  · have hjm : j < m := by
      have := (List.getElem?_eq_some_iff.1 hj).1
      rw [List.length_take] at this; omega
    have hj' : L[j]? = some i := by rw [List.getElem?_take] at hj; simpa [hjm] using hj
    have hi := insOf_lay hj' (List.all_eq_true.1 hf i (List.mem_of_getElem? hj'))
    rw [← hi]
    have g : ∀ y, y < 7 * m → gb ((layS L).extract 0 (7 * m)) y = gb (layS L) y := fun y hy => by
      have := gb_extract (layS L) 0 (7 * m) y (by omega) (by omega)
      rwa [Nat.zero_add] at this
    unfold insOf rdN
    rw [g _ (by omega), g _ (by omega), g _ (by omega)]
    simp only []
    rw [g _ (by omega), g _ (by omega), g _ (by omega), g _ (by omega)]
  · rw [List.all_eq_true]
    exact fun x hx => List.all_eq_true.1 hf x (List.mem_of_mem_take hx)
theorem rd_cut {s : ByteArray} (h : s.size % 7 ≠ 0) : readR s = [] ∧ readE s = 2 := by
  have hb : rdOk s = false := by unfold rdOk; rw [decide_eq_false h]; rfl
  unfold readR readE
  rw [hb]
  exact ⟨rfl, rfl⟩

/-! ### alive -/
def aIns : Ins := ⟨1, 1, -1, 0⟩
theorem a_lay : layR [aIns] = ⟨#[1, 1, 0, 255, 255, 255, 255]⟩ := by decide +kernel
theorem a_layE : layE [aIns] = 0 := by decide +kernel
theorem a_fit : [aIns].all fit = true := by decide +kernel
theorem a_read : readR ⟨#[1, 1, 0, 255, 255, 255, 255]⟩ = [aIns] ∧ readE ⟨#[1, 1, 0, 255, 255, 255, 255]⟩ = 0 := by
  have h := rd_whole a_fit
  have e : layS [aIns] = ⟨#[1, 1, 0, 255, 255, 255, 255]⟩ := by
    have := a_lay
    unfold layR at this
    rwa [if_pos a_fit] at this
  rw [e] at h
  exact h

end Go.Proofs.Ytkgicalkcbagaaa

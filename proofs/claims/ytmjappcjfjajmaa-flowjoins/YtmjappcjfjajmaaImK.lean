/- Lists of ints, and of instructions, held against each other: by the library, by the document. -/
import Derived.Test.YtmjappcjfjajmaaImA
import Derived.Laws.StructEq
namespace Go.Proofs.Ytmjappcjfjajmaa
open Go.RowKit

/-- A call answers a bool: whether p. -/
def BoolIs (e : Ending) (p : Prop) : Prop := ∃ s, e = .returned (.bool s) ∧ (s = true ↔ p)

theorem eq_of_all {L M : List Int} (hl : L.length = M.length) (h : ∀ j, j < L.length → L.getD j 0 = M.getD j 0) : L = M := by
  refine List.ext_getElem hl fun j h1 h2 => ?_
  have := h j h1
  simpa [h1, h2] using this

theorem equal_len (a a' : Option Addr) (n n' c c' : Nat) (w : World) (h : ¬ n = n') :
    Calls Try.prog 75 #[.slice a n c, .slice a' n' c'] w fun e w' => e = .returned (.bool false) ∧ ∃ q, w' = w.drewN q := by
  have h' : ¬ (n : Int) = (n' : Int) := by omega
  go_enter Try.func75, Try.ntmps75
  go_wp2_with fail
  go_ret
  exact ⟨rfl, 0, rfl⟩
theorem equal_zero (a a' : Option Addr) (c c' : Nat) (w : World) :
    Calls Try.prog 75 #[.slice a 0 c, .slice a' 0 c'] w fun e w' => e = .returned (.bool true) ∧ ∃ q, w' = w.drewN q := by
  go_enter Try.func75, Try.ntmps75
  go_wp2
  go_loop [13] (fun i => i = .int .i64 0) (fun _ => 0)
  case atStart => rfl
  case round =>
    obtain rfl := hrel
    go_wp2
    go_ret
    exact ⟨rfl, 0, rfl⟩

set_option maxHeartbeats 400000 in
theorem equal_core (L M : List Int) (w : World) {b off c b' off' c' : Nat} (hlM : M.length = L.length) (hlen : L.length ≤ maxLen)
    (h1 : ∀ j, j < L.length → w.cell? ⟨b, off + j, none⟩ = some (.int .i64 (L.getD j 0))) (h2 : ∀ j, j < L.length → w.cell? ⟨b', off' + j, none⟩ = some (.int .i64 (M.getD j 0))) :
    Calls Try.prog 75 #[.slice (some ⟨b, off, none⟩) L.length c, .slice (some ⟨b', off', none⟩) L.length c'] w fun e w' => e = .returned (.bool (decide (L = M))) ∧ ∃ q, w' = w.drewN q := by
  unfold maxLen at hlen
  have H1 : Hid (∀ j, j < L.length → w.cell? ⟨b, off + j, none⟩ = some (.int .i64 (L.getD j 0))) := h1
  have H2 : Hid (∀ j, j < L.length → w.cell? ⟨b', off' + j, none⟩ = some (.int .i64 (M.getD j 0))) := h2
  have HL : Hid (M.length = L.length) := hlM
  clear h1 h2 hlM
  go_enter Try.func75, Try.ntmps75
  go_wp2
  go_loopw [13] (fun i wr => ∃ j : Nat, j ≤ L.length ∧ i = .int .i64 j ∧ (∃ q, wr = w.drewN q) ∧ Hid (∀ m, m < j → L.getD m 0 = M.getD m 0)) (fun i _ => L.length - (intOf i).toNat)
  case atStart => exact ⟨0, Nat.zero_le _, rfl, ⟨0, rfl⟩, fun m hm => absurd hm (by omega)⟩
  case round =>
    obtain ⟨j, hj, rfl, hq, HA⟩ := hrel
    by_cases hlt : j < L.length
    · have e1 : wr.cell? ⟨b, off + j, none⟩ = some (.int .i64 (L.getD j 0)) := by obtain ⟨q, rfl⟩ := hq; exact H1.out j hlt
      have e2 : wr.cell? ⟨b', off' + j, none⟩ = some (.int .i64 (M.getD j 0)) := by obtain ⟨q, rfl⟩ := hq; exact H2.out j hlt
      have HQ : Hid (∃ q, wr = w.drewN q) := hq
      have HE : Hid (L.getD j 0 = M.getD j 0 → ∀ m, m < j + 1 → L.getD m 0 = M.getD m 0) := fun h m hm => by
        by_cases e : m = j
        · rw [e]; exact h
        · exact HA.out m (by omega)
      have HN : Hid (¬ L.getD j 0 = M.getD j 0 → decide (L = M) = false) := fun h => decide_eq_false (fun e => h (by rw [e]))
      clear hq H1 H2
      generalize L.getD j 0 = k at *
      generalize M.getD j 0 = k' at *
      have hlt' : (j : Int) < (L.length : Int) := by omega
      by_cases hkk : k = k'
      · subst hkk
        have HE' : Hid (∀ m, m < j + 1 → L.getD m 0 = M.getD m 0) := HE.out rfl
        clear HE HN
        go_upto_region 6 with (fail)
        go_quiet (fail)
        go_wp2
        go_roundw
        case rel => exact ⟨j + 1, by omega, by go_num, drewN_more HQ.out _, HE'⟩
        case measure => simp [intOf]; omega
      · go_upto_region 6 with (fail)
        go_quiet (fail)
        go_wp2
        go_ret
        exact ⟨ret_bool (HN.out hkk).symm, drewN_more HQ.out _⟩
    · go_wp2
      go_ret
      have e : j = L.length := by omega
      exact ⟨ret_bool (decide_eq_true (eq_of_all HL.out.symm (by rw [← e]; exact HA.out))).symm, hq⟩

theorem equal_any {L M : List Int} {s : Bool} (hs : Hid (decide (L = M) = s)) (v v' : Value) (w : World) (hlen : L.length ≤ maxLen) (h1 : SrcAt w v L) (h2 : SrcAt w v' M) :
    Calls Try.prog 75 #[v, v'] w fun e w' => e = .returned (.bool s) ∧ ∃ q, w' = w.drewN q := by
  obtain rfl := hs.out
  by_cases hl : L.length = M.length
  · by_cases h0 : L = []
    · subst h0
      obtain rfl : M = [] := List.eq_nil_of_length_eq_zero (by simpa using hl.symm)
      obtain ⟨a, c, rfl⟩ := h1.len
      obtain ⟨a', c', rfl⟩ := h2.len
      exact equal_zero a a' c c' w
    · rcases h1 with ⟨h, _⟩ | ⟨b, off, c, rfl, _, h3⟩
      · exact absurd h h0
      · rcases h2 with ⟨h, _⟩ | ⟨b', off', c', rfl, _, h4⟩
        · subst h; exact absurd (List.eq_nil_of_length_eq_zero (by simpa using hl)) h0
        · rw [← hl] at h4 ⊢
          exact equal_core L M w hl.symm hlen h3 h4
  · obtain ⟨a, c, rfl⟩ := h1.len
    obtain ⟨a', c', rfl⟩ := h2.len
    rw [decide_eq_false (fun e => hl (by rw [e]))]
    exact equal_len a a' _ _ c c' w hl

theorem SrcJ.someI {P : Nat → Prop} {w : World} {a : Option Addr} {n c j : Nat} {L : List Ins} {i : Ins} (h : SrcJ P w (.slice a n c) L) (hj : L[j]? = some i) : ∃ b off, a = some ⟨b, off, none⟩ ∧ b < w.heap.size ∧ InsAt w b (off + j * 4) i := by
  rcases h with ⟨rfl, _⟩ | ⟨b, off, c', h1, hP, h2, h3⟩
  · simp at hj
  · cases h1
    exact ⟨b, off, rfl, h2, h3 j i hj⟩

theorem eq_of_allI {L M : List Ins} (hl : L.length = M.length) (h : ∀ j : Nat, j < L.length → L[j]? = M[j]?) : L = M := by
  refine List.ext_getElem? fun j => ?_
  by_cases hj : j < L.length
  · exact h j hj
  · rw [List.getElem?_eq_none (by omega), List.getElem?_eq_none (by omega)]
/-- Two instructions are alike, or one of their four numbers is another one. -/
theorem ins_ne {i k : Ins} : i = k ∨ (i.o ≠ k.o ∨ (i.o = k.o ∧ i.a ≠ k.a) ∨ (i.o = k.o ∧ i.a = k.a ∧ i.b ≠ k.b) ∨ (i.o = k.o ∧ i.a = k.a ∧ i.b = k.b ∧ i.c ≠ k.c)) := by
  obtain ⟨a, b, c, d⟩ := i
  obtain ⟨a', b', c', d'⟩ := k
  by_cases h1 : a = a' <;> by_cases h2 : b = b' <;> by_cases h3 : c = c' <;> by_cases h4 : d = d' <;> simp [h1, h2, h3, h4]
theorem ins_ne' {i k : Ins} (h : i.o ≠ k.o ∨ (i.o = k.o ∧ i.a ≠ k.a) ∨ (i.o = k.o ∧ i.a = k.a ∧ i.b ≠ k.b) ∨ (i.o = k.o ∧ i.a = k.a ∧ i.b = k.b ∧ i.c ≠ k.c)) : i ≠ k := by
  rintro rfl
  rcases h with h | ⟨_, h⟩ | ⟨_, _, h⟩ | ⟨_, _, _, h⟩ <;> exact h rfl

end Go.Proofs.Ytmjappcjfjajmaa

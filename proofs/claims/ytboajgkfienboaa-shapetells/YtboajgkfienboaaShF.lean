/- The walk of Pointers. -/
import Derived.Test.YtboajgkfienboaaShE
import Derived.Laws.BitsAllLaws
namespace Go.Proofs.Ytboajgkfienboaa
open Go.RowKit Go.Maps

def bitN (L : List Int) (i : Nat) : Nat := if i < L.length ∧ upB 16 (L.getD i 0) = true then 1 else 0
def loS (L : List Int) : Nat → Nat
  | 0 => 0
  | j + 1 => loS L j + bitN L j * 2 ^ j
theorem bit_le (L : List Int) (i : Nat) : bitN L i ≤ 1 := by unfold bitN; split <;> omega
theorem loS_lt (L : List Int) : ∀ j, loS L j < 2 ^ j
  | 0 => by simp [loS]
  | j + 1 => by
    have h1 := loS_lt L j
    have h2 := bit_le L j
    have : bitN L j * 2 ^ j ≤ 1 * 2 ^ j := Nat.mul_le_mul_right _ h2
    rw [loS, Nat.pow_succ]
    omega
theorem loS_past (L : List Int) {m : Nat} (h : L.length ≤ m) : ∀ d, loS L (m + d) = loS L m
  | 0 => rfl
  | d + 1 => by
    show loS L (m + d) + bitN L (m + d) * 2 ^ (m + d) = _
    rw [loS_past L h d]
    have : bitN L (m + d) = 0 := by unfold bitN; rw [if_neg (by omega)]
    rw [this]
    omega
theorem loS_min (L : List Int) {m : Nat} (h : min L.length 16 = m) : loS L m = loS L 16 := by
  by_cases h1 : L.length ≤ 16
  · have e : m = L.length := by omega
    have := loS_past L (m := L.length) (Nat.le_refl _) (16 - L.length)
    rw [e, ← this]
    congr 1
    omega
  · have : m = 16 := by omega
    rw [this]
theorem or_pow {a j : Nat} (h : a < 2 ^ j) : a ||| 2 ^ j = a + 2 ^ j := by
  have := Nat.two_pow_add_eq_or_of_lt h 1
  rw [Nat.or_comm, Nat.add_comm]
  simpa using this.symm

theorem mask_step {lo k : Nat} (hk : k < 16) (h : lo < 2 ^ k) : bits BinOp.or IntKind.u16 (lo : Int) (IntKind.u16.wrap (2 ^ k)) = ((lo + 2 ^ k : Nat) : Int) := by
  have h2 : 2 ^ k ≤ 2 ^ 15 := Nat.pow_le_pow_right (by decide) (by omega)
  have e : IntKind.u16.wrap (2 ^ k) = ((2 ^ k : Nat) : Int) := by
    unfold IntKind.wrap
    have h3 : ((2 : Int) ^ k) = ((2 ^ k : Nat) : Int) := by simp
    rw [h3]
    generalize 2 ^ k = m at *
    simp [IntKind.bits, IntKind.signed]
    omega
  rw [e, u16_or_nat lo (2 ^ k) (by omega) (by omega), or_pow h]

set_option maxHeartbeats 1000000 in
theorem pointers_few (L : List Int) (w : World) {b off c : Nat} (hm : L.length ≤ 16) (hcap : L.length ≤ c) (hmax : c ≤ maxLen) (hb : b < w.heap.size)
    (hc : ∀ j, j < L.length → w.cell? ⟨b, off + j, none⟩ = some (.int .i64 (L.getD j 0))) :
    Calls Try.prog 16 #[.agg #[.slice (some ⟨b, off, none⟩) L.length c]] w fun e w' => e = .returned (.int .u16 (loS L 16 : Nat)) ∧ Below w.heap.size w w' := by
  have HC : Hid (∀ j, j < L.length → w.cell? ⟨b, off + j, none⟩ = some (.int .i64 (L.getD j 0))) := hc
  have HM : Hid (loS L L.length = loS L 16) := loS_min L (by omega)
  have hm' : ¬ 16 < (L.length : Int) := by omega
  unfold maxLen at hmax
  clear hc
  go_enter Try.func16, Try.ntmps16
  go_wp2_with fail
  go_loopw [3, 16] (fun v i wr => ∃ k : Nat, k ≤ L.length ∧ i = .int .i64 k ∧ v = .int .u16 (loS L k : Nat) ∧ Hid (Below w.heap.size w wr))
    (fun _ i _ => L.length - (intOf i).toNat)
  case atStart => exact ⟨0, Nat.zero_le _, rfl, rfl, (Below.refl _ _).alloc (Nat.le_refl _) _⟩
  case round =>
    obtain ⟨k, hk, rfl, rfl, HB⟩ := hrel
    by_cases hlt : k < L.length
    · have hcx : wr.cell? ⟨b, off + k, none⟩ = some (.int .i64 (L.getD k 0)) := (HB.out.cell (p := ⟨b, off + k, none⟩) hb).trans (HC.out k hlt)
      have HL : Hid (loS L (k + 1) = loS L k + bitN L k * 2 ^ k) := rfl
      have hlo := loS_lt L k
      have hb1 : bitN L k = if upB 16 (L.getD k 0) = true then 1 else 0 := by unfold bitN; simp [hlt]
      have HB1 : Hid (bitN L k = if upB 16 (L.getD k 0) = true then 1 else 0) := hb1
      clear hb1 HC
      generalize L.getD k 0 = x at *
      generalize loS L k = lo at *
      obtain ⟨s, hs⟩ : ∃ s, Hid (upN 16 x = s) := ⟨_, rfl⟩
      obtain ⟨p, hp⟩ : ∃ p, Hid (upB 16 x = p) := ⟨_, rfl⟩
      rw [hp.out] at HB1
      cases p
      · go_wp2_with fail
        refine (points_any hs hp _).mono ?_
        rintro e w' ⟨rfl, rfl⟩
        go_wp2_with fail
        go_roundw
        case rel => exact ⟨k + 1, by omega, by go_num, by rw [HL.out, HB1.out]; simp, HB⟩
        case measure => simp [intOf]; omega
      · go_wp2_with fail
        refine (points_any hs hp _).mono ?_
        rintro e w' ⟨rfl, rfl⟩
        go_wp2_with fail
        refine ⟨⟨k + 1, by omega, by go_num, ?_, HB⟩, by simp [intOf]; omega⟩
        rw [mask_step (by omega) hlo, HL.out, HB1.out]
        simp
    · go_wp2_with fail
      go_ret
      have e : k = L.length := by omega
      exact ⟨ret_int (by rw [e, HM.out]), HB.out⟩

set_option maxHeartbeats 1000000 in
theorem pointers_many (L : List Int) (w : World) {b off c : Nat} (hm : 16 < L.length) (hcap : L.length ≤ c) (hmax : c ≤ maxLen) (hb : b < w.heap.size)
    (hc : ∀ j, j < L.length → w.cell? ⟨b, off + j, none⟩ = some (.int .i64 (L.getD j 0))) :
    Calls Try.prog 16 #[.agg #[.slice (some ⟨b, off, none⟩) L.length c]] w fun e w' => e = .returned (.int .u16 (loS L 16 : Nat)) ∧ Below w.heap.size w w' := by
  have HC : Hid (∀ j, j < L.length → w.cell? ⟨b, off + j, none⟩ = some (.int .i64 (L.getD j 0))) := hc
  have hm' : 16 < (L.length : Int) := by omega
  unfold maxLen at hmax
  clear hc
  go_enter Try.func16, Try.ntmps16
  go_wp2_with fail
  go_loopw [3, 16] (fun v i wr => ∃ k : Nat, k ≤ 16 ∧ i = .int .i64 k ∧ v = .int .u16 (loS L k : Nat) ∧ Hid (Below w.heap.size w wr))
    (fun _ i _ => 16 - (intOf i).toNat)
  case atStart => exact ⟨0, Nat.zero_le _, rfl, rfl, (Below.refl _ _).alloc (Nat.le_refl _) _⟩
  case round =>
    obtain ⟨k, hk, rfl, rfl, HB⟩ := hrel
    by_cases hlt : k < 16
    · have hltL : k < L.length := by omega
      have hcx : wr.cell? ⟨b, off + k, none⟩ = some (.int .i64 (L.getD k 0)) := (HB.out.cell (p := ⟨b, off + k, none⟩) hb).trans (HC.out k hltL)
      have HL : Hid (loS L (k + 1) = loS L k + bitN L k * 2 ^ k) := rfl
      have hlo := loS_lt L k
      have hb1 : bitN L k = if upB 16 (L.getD k 0) = true then 1 else 0 := by unfold bitN; simp [hltL]
      have HB1 : Hid (bitN L k = if upB 16 (L.getD k 0) = true then 1 else 0) := hb1
      clear hb1 HC
      generalize L.getD k 0 = x at *
      generalize loS L k = lo at *
      obtain ⟨s, hs⟩ : ∃ s, Hid (upN 16 x = s) := ⟨_, rfl⟩
      obtain ⟨p, hp⟩ : ∃ p, Hid (upB 16 x = p) := ⟨_, rfl⟩
      rw [hp.out] at HB1
      cases p
      · go_wp2_with fail
        refine (points_any hs hp _).mono ?_
        rintro e w' ⟨rfl, rfl⟩
        go_wp2_with fail
        go_roundw
        case rel => exact ⟨k + 1, by omega, by go_num, by rw [HL.out, HB1.out]; simp, HB⟩
        case measure => simp [intOf]; omega
      · go_wp2_with fail
        refine (points_any hs hp _).mono ?_
        rintro e w' ⟨rfl, rfl⟩
        go_wp2_with fail
        refine ⟨⟨k + 1, by omega, by go_num, ?_, HB⟩, by simp [intOf]; omega⟩
        rw [mask_step (by omega) hlo, HL.out, HB1.out]
        simp
    · go_wp2_with fail
      go_ret
      have e : k = 16 := by omega
      exact ⟨ret_int (by rw [e]), HB.out⟩

theorem pointers_none (a : Option Addr) (c : Nat) (w : World) :
    Calls Try.prog 16 #[.agg #[.slice a 0 c]] w fun e w' => e = .returned (.int .u16 0) ∧ Below w.heap.size w w' := by
  go_enter Try.func16, Try.ntmps16
  go_wp2_with fail
  go_loop [3, 16] (fun v i => i = .int .i64 0 ∧ v = .int .u16 0) (fun _ _ => 0)
  case atStart => exact ⟨rfl, rfl⟩
  case round =>
    obtain ⟨rfl, rfl⟩ := hrel
    go_wp2_with fail
    go_ret
    exact ⟨rfl, (Below.refl _ _).alloc (Nat.le_refl _) _⟩

theorem pointers_any {L : List Int} {s : Nat} (hs : Hid (loS L 16 = s)) (a : Option Addr) (c : Nat) (w : World) (hcap : L.length ≤ c) (hmax : c ≤ maxLen) (h : SrcAt w (.slice a L.length c) L) :
    Calls Try.prog 16 #[.agg #[.slice a L.length c]] w fun e w' => e = .returned (.int .u16 (s : Int)) ∧ Below w.heap.size w w' := by
  obtain rfl := hs.out
  rcases h with ⟨rfl, _⟩ | ⟨b, off, c', h1, h2, h3⟩
  · exact pointers_none a c w
  · simp at h1
    obtain ⟨rfl, rfl⟩ := h1
    by_cases hm : L.length ≤ 16
    · exact pointers_few L w hm hcap hmax h2 h3
    · exact pointers_many L w (by omega) hcap hmax h2 h3

end Go.Proofs.Ytboajgkfienboaa

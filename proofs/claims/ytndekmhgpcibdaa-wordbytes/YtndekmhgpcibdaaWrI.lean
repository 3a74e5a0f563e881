/- The walk of WordSame. -/
import Derived.Test.YtndekmhgpcibdaaWrH
namespace Go.Proofs.Ytndekmhgpcibdaa
open Go.RowKit

theorem drewN_more {w wr : World} (h : ∃ q, wr = w.drewN q) (n : Nat) : ∃ q, wr.drewN n = w.drewN q := by
  obtain ⟨q, rfl⟩ := h
  exact ⟨q + n, by simp [World.drewN, Nat.add_assoc]⟩

/-- The first j bytes are the same. -/
def samB (a b : Int) (j : Nat) : Bool := decide (∀ x, x < j → byN a x = byN b x)
theorem samB_zero (a b : Int) : samB a b 0 = true := by simp [samB]
theorem samB_step (a b : Int) (j : Nat) (h : samB a b j = true) : samB a b (j + 1) = (byN a j == byN b j) := by
  simp only [samB, decide_eq_true_eq] at h
  rw [Bool.eq_iff_iff]
  simp only [samB, decide_eq_true_eq, beq_iff_eq]
  constructor
  · intro g; exact g j (by omega)
  · intro g x hx
    by_cases e : x = j
    · subst e; exact g
    · exact h x (by omega)
theorem byN_w32 (a : Int) (j : Nat) (h : j < 4) : byN (wrap32 a) j = byN a j := by
  unfold byN wrap32
  have : j = 0 ∨ j = 1 ∨ j = 2 ∨ j = 3 := by omega
  rcases this with rfl | rfl | rfl | rfl <;> simp only [Nat.mul_zero, Nat.mul_one, Nat.reduceMul, Int.pow_zero, Int.ediv_one, Int.reducePow] <;> omega
theorem samB_false (a b : Int) (j : Nat) (hj : j ≤ 4) (h : samB a b j = false) : (wrap32 a == wrap32 b) = false := by
  simp only [samB, decide_eq_false_iff_not] at h
  rw [beq_eq_false_iff_ne]
  intro e
  apply h
  intro x hx
  rw [← byN_w32 a x (by omega), e, byN_w32 b x (by omega)]
theorem samB_four (a b : Int) (h : samB a b 4 = true) : wrap32 a = wrap32 b := by
  simp only [samB, decide_eq_true_eq] at h
  rw [← byN_sum a, ← byN_sum b, h 0 (by omega), h 1 (by omega), h 2 (by omega), h 3 (by omega)]

set_option maxHeartbeats 1000000 in
theorem same_walk (a b : Int) (w : World) :
    Calls Try.prog 8 #[.int .i64 a, .int .i64 b] w fun e w' => e = .returned (.bool true) ∧ Below w.heap.size w w' := by
  go_enter Try.func8, Try.ntmps8
  go_wp2_with fail
  refine (alive_any _).mono ?_
  rintro e w0 ⟨rfl, rfl⟩
  go_wp2_with fail
  refine (bytes_any _ _).mono ?_
  rintro e w1 ⟨rfl, r1, b1⟩
  have R1 : Hid _ := r1
  have B1 : Hid _ := b1
  clear r1 b1
  go_wp2_with fail
  refine (bytes_any _ _).mono ?_
  rintro e w2 ⟨rfl, r2, b2⟩
  have L1 := World.rowIs.lt R1.out
  have C1 : Hid (∀ j, j < 4 → w2.cell? ⟨w0.heap.size, j, none⟩ = some (.int .u8 (byN a j))) := fun j hj => (World.rowIs.of_block R1.out (b2.block _ L1)).cell hj
  have C2 : Hid (∀ j, j < 4 → w2.cell? ⟨w1.heap.size, j, none⟩ = some (.int .u8 (byN b j))) := fun j hj => r2.cell hj
  have B2 : Hid (Below w0.heap.size w0 w2) := B1.out.trans ⟨b2.os, b2.tape, b2.output, b2.size, fun k hk => b2.block k (by have := B1.out.size; omega)⟩
  clear R1 B1 r2 b2 L1
  generalize hp : w0.heap.size = p1 at *
  have hp : Hid _ := hp
  generalize w1.heap.size = p2 at *
  go_wp2_with fail
  go_loopw [7, 8] (fun s i wr => ∃ j : Nat, j ≤ 4 ∧ i = .int .i64 j ∧ s = .bool (samB a b j) ∧ ∃ q, wr = w2.drewN q) (fun _ i _ => 4 - (intOf i).toNat)
  case atStart => exact ⟨0, Nat.zero_le _, rfl, by rw [samB_zero], 0, rfl⟩
  case round =>
    obtain ⟨j, hj, rfl, rfl, hq⟩ := hrel
    have HQ : Hid _ := hq
    have c1 : Hid (∀ j, j < 4 → wr.cell? ⟨p1, j, none⟩ = some (.int .u8 (byN a j))) := by obtain ⟨q, rfl⟩ := hq; exact C1
    have c2 : Hid (∀ j, j < 4 → wr.cell? ⟨p2, j, none⟩ = some (.int .u8 (byN b j))) := by obtain ⟨q, rfl⟩ := hq; exact C2
    have bw : Hid (Below p1 w0 wr) := by obtain ⟨q, rfl⟩ := hq; exact ⟨B2.out.os, B2.out.tape, B2.out.output, B2.out.size, B2.out.block⟩
    clear hq C1 C2 B2
    by_cases hs : samB a b j = true
    · by_cases hlt : j < 4
      · have h1 := c1.out j hlt
        have h2 := c2.out j hlt
        have HS : Hid _ := samB_step a b j hs
        generalize byN a j = x at *
        generalize byN b j = y at *
        go_upto_region 8 with (fail)
        go_quiet (fail)
        go_wp2
        exact ⟨⟨j + 1, by omega, by go_num, by rw [HS.out], drewN_more HQ.out _⟩, by simp [intOf]; omega⟩
      · have e : j = 4 := by omega
        subst e
        have hF := samB_four a b hs
        generalize hn : wrap32 a = n at *
        have hn : Hid _ := hn
        have hm : Hid _ := hF.symm
        clear hF
        go_wp2_with fail
        refine (of_any' hn.out _).mono ?_
        rintro e w' ⟨rfl, rfl⟩
        go_wp2_with fail
        refine (of_any' hm.out _).mono ?_
        rintro e w' ⟨rfl, rfl⟩
        go_wp2_with fail
        go_ret
        exact ⟨rfl, by rw [hp.out]; exact bw⟩
    · have hs : samB a b j = false := by simpa using hs
      have hF := samB_false a b j hj hs
      generalize hn : wrap32 a = n at *
      have hn : Hid _ := hn
      generalize hm : wrap32 b = m at *
      have hm : Hid _ := hm
      go_wp2_with fail
      refine (of_any' hn.out _).mono ?_
      rintro e w' ⟨rfl, rfl⟩
      go_wp2_with fail
      refine (of_any' hm.out _).mono ?_
      rintro e w' ⟨rfl, rfl⟩
      go_wp2_with fail
      go_ret
      exact ⟨rfl, by rw [hp.out]; exact bw⟩

end Go.Proofs.Ytndekmhgpcibdaa

/- The walk of Bytes: a new row of four bytes. -/
import Derived.Test.YtndekmhgpcibdaaWrE
import Derived.Deep.OwnRows
import Derived.Deep.QuietTactic
import Derived.BigQuiet
namespace Go.Proofs.Ytndekmhgpcibdaa
open Go.RowKit

/-- The j-th byte of a number. -/
def byN (v : Int) (j : Nat) : Int := v / 2 ^ (8 * j) % 256
theorem byN_range (v : Int) (j : Nat) : 0 ≤ byN v j ∧ byN v j < 256 := by unfold byN; omega
theorem byN_u32 (v : Int) (j : Nat) (h : j < 4) : IntKind.u32.wrap v / 2 ^ (8 * j) % 256 = byN v j := by
  rw [IntKind.wrap_u32]
  unfold byN
  have : j = 0 ∨ j = 1 ∨ j = 2 ∨ j = 3 := by omega
  rcases this with rfl | rfl | rfl | rfl <;> simp only [Nat.mul_zero, Nat.mul_one, Nat.reduceMul, Int.pow_zero, Int.ediv_one, Int.reducePow] <;> omega
theorem byN_sum (v : Int) : wrap32 (byN v 0 + 256 * byN v 1 + 65536 * byN v 2 + 16777216 * byN v 3) = wrap32 v := by
  unfold byN wrap32
  simp only [Nat.mul_zero, Nat.mul_one, Nat.reduceMul, Int.pow_zero, Int.ediv_one, Int.reducePow]
  omega

theorem Try.info5 : (Try.prog.info? 5).map (fun i => (i.zero, i.size, i.bytes)) = some (some (.int .u8 0), 1, 1) := by kernel_rfl

def byRow (v : Int) (j x : Nat) : Value := .int .u8 (if x < j then byN v x else 0)

set_option maxHeartbeats 1000000 in
theorem bytes_any (v : Int) (w : World) :
    Calls Try.prog 17 #[.int .i64 v] w fun e w' => e = .returned (.slice (some ⟨w.heap.size, 0, none⟩) 4 4) ∧
      w'.rowIs w.heap.size 5 4 (fun j => .int .u8 (byN v j)) ∧ Below w.heap.size w w' := by
  have hmk : ∀ w : World, Sem.run Try.prog (Instr.makeSlice 28 (.int .i64 4) (.int .i64 4)) w = .ok (.slice (some ⟨w.heap.size, 0, none⟩) 4 4) (w.alloc (.cells (madeCells #[.int .u8 0] 4) 5)) :=
    run_make_row' (P := Try.prog) 28 5 (.int .u8 0) 1 Try.underlying28 Try.info5 rfl .i64 .i64 4 (by omega) (by omega)
  have hrow : Hid ((w.alloc (.cells (madeCells #[.int .u8 0] 4) 5)).rowIs w.heap.size 5 4 (byRow v 0)) := (World.rowIs_made w (.int .u8 0) 4 5).congr fun i _ => by simp [byRow]
  have hbel : Hid (Below w.heap.size w (w.alloc (.cells (madeCells #[.int .u8 0] 4) 5))) := (Below.refl w.heap.size w).alloc (Nat.le_refl _) _
  go_enter Try.func17, Try.ntmps17
  go_wp2_with fail
  go_loopw [11] (fun i wr => ∃ j : Nat, j ≤ 4 ∧ i = .int .i64 j ∧ wr.rowIs w.heap.size 5 4 (byRow v j) ∧ Below w.heap.size w wr) (fun i _ => 4 - (intOf i).toNat)
  case atStart => exact ⟨0, Nat.zero_le _, rfl, hrow, hbel⟩
  case round =>
    obtain ⟨j, hj, rfl, hr, hb⟩ := hrel
    clear hrow hbel hmk
    by_cases hlt : j < 4
    · have hc := hr.cell hlt
      have hf := hr.frozen j
      have HR : Hid _ := hr
      have HB : Hid _ := hb
      clear hr hb
      have hu : Hid (v % 4294967296 / 2 ^ (8 * j) % 256 = byN v j) := by have := byN_u32 v j hlt; rwa [IntKind.wrap_u32] at this
      go_wp2_with fail
      refine ⟨⟨j + 1, by omega, by go_num, ?_, HB.out.setCell (Nat.le_refl _) _⟩, by simp [intOf]; omega⟩
      rw [hu.out]
      refine (World.rowIs.set HR.out j _).congr fun i _ => ?_
      by_cases e : i = j
      · subst e; simp [byRow]
      · rw [if_neg e]
        unfold byRow
        by_cases e2 : i < j
        · rw [if_pos e2, if_pos (by omega)]
        · rw [if_neg e2, if_neg (by omega)]
    · go_wp2_with fail
      go_ret
      have e : j = 4 := by omega
      subst e
      exact ⟨rfl, hr.congr fun i hi => by simp [byRow, hi], hb⟩

end Go.Proofs.Ytndekmhgpcibdaa

/- The walks of the document's Bytes and Word. -/
import Derived.Test.YtndekmhgpcibdaaWrI
import Derived.Laws.BytesArg
import Derived.Laws.IdiomStrings
namespace Go.Proofs.Ytndekmhgpcibdaa
open Go.RowKit

/-- The four bytes of a number, as a string. -/
def byS (v : Int) : ByteArray := strOfNums [byN v 0, byN v 1, byN v 2, byN v 3]
theorem Try.under8 : Try.prog.underlying 5 = some (.int .u8) := by kernel_rfl

theorem byN_parts (v n : Int) (h : n = v % 4294967296) : n % 256 = byN v 0 ∧ n / 256 % 256 = byN v 1 ∧ n / 65536 % 256 = byN v 2 ∧ n / 16777216 % 256 = byN v 3 := by
  unfold byN
  simp only [Nat.mul_zero, Nat.mul_one, Nat.reduceMul, Int.pow_zero, Int.ediv_one, Int.reducePow]
  omega

theorem row4_string (w : World) (b c : Nat) (x0 x1 x2 x3 : Int) (h : ∀ j, j < 4 → w.cell? ⟨b, j, none⟩ = some (.int .u8 ([x0, x1, x2, x3].getD j 0))) :
    (convert 28 9 (.slice (some ⟨b, 0, none⟩) 4 c)).run Try.prog w = .ok (.string (strOfNums [x0, x1, x2, x3])) w :=
  run_convert_bytes_arg w 28 5 Try.underlying28 Try.under8 b 0 4 c [x0, x1, x2, x3] rfl (fun i hi => by rw [Nat.zero_add]; exact h i hi) 9 (by kernel_rfl)

set_option maxHeartbeats 1000000 in
theorem refBytes_any (v : Int) (w : World) :
    Calls Try.prog 19 #[.int .i64 v] w fun e w' => e = .returned (.string (byS v)) ∧ w' = w.alloc (.cells #[.int .u8 (byN v 0), .int .u8 (byN v 1), .int .u8 (byN v 2), .int .u8 (byN v 3)] 5) := by
  have hb := i64_and32 v
  obtain ⟨p0, p1, p2, p3⟩ := byN_parts v _ rfl
  have r0 := byN_range v 0
  have r1 := byN_range v 1
  have r2 := byN_range v 2
  have r3 := byN_range v 3
  have hs : Hid (byS v = strOfNums [byN v 0, byN v 1, byN v 2, byN v 3]) := rfl
  have hn : 0 ≤ v % 4294967296 := by omega
  have hn' : v % 4294967296 < 4294967296 := by omega
  generalize byS v = S at *
  generalize v % 4294967296 = n at *
  generalize byN v 0 = x0 at *
  generalize byN v 1 = x1 at *
  generalize byN v 2 = x2 at *
  generalize byN v 3 = x3 at *
  have hcv : (convert 28 9 (.slice (some ⟨w.heap.size, 0, none⟩) 4 4)).run Try.prog (w.alloc (.cells #[.int .u8 x0, .int .u8 x1, .int .u8 x2, .int .u8 x3] 5)) = .ok (.string S) (w.alloc (.cells #[.int .u8 x0, .int .u8 x1, .int .u8 x2, .int .u8 x3] 5)) := by
    rw [hs.out]
    refine row4_string _ _ _ _ _ _ _ fun j hj => ?_
    refine World.rowIs.cell (t := 5) (n := 4) (f := fun j => .int .u8 ([x0, x1, x2, x3].getD j 0)) (World.rowIs_alloc w _ _ _ fun i hi => ?_) hj
    have : i = 0 ∨ i = 1 ∨ i = 2 ∨ i = 3 := by simp at hi; omega
    rcases this with rfl | rfl | rfl | rfl <;> rfl
  go_enter Try.func19, Try.ntmps19
  go_wp2_with fail
  go_ret
  exact ⟨rfl, rfl⟩

set_option maxHeartbeats 1000000 in
theorem refWord_any (s : ByteArray) (x0 x1 x2 x3 y : Int) (w : World) (g0 : 0 ≤ x0 ∧ x0 < 256) (g1 : 0 ≤ x1 ∧ x1 < 256) (g2 : 0 ≤ x2 ∧ x2 < 256) (g3 : 0 ≤ x3 ∧ x3 < 256)
    (h0 : ∀ w, (Instr.index 9 (.string s) (.int .i64 0)).run Try.prog w = .ok (.int .u8 x0) w) (h1 : ∀ w, (Instr.index 9 (.string s) (.int .i64 1)).run Try.prog w = .ok (.int .u8 x1) w)
    (h2 : ∀ w, (Instr.index 9 (.string s) (.int .i64 2)).run Try.prog w = .ok (.int .u8 x2) w) (h3 : ∀ w, (Instr.index 9 (.string s) (.int .i64 3)).run Try.prog w = .ok (.int .u8 x3) w)
    (hy : Hid (wrap32 (x0 + 256 * x1 + 65536 * x2 + 16777216 * x3) = y)) :
    Calls Try.prog 20 #[.string s] w fun e w' => e = .returned (.int .i64 y) ∧ ∃ q, w' = w.drewN q := by
  go_enter Try.func20, Try.ntmps20
  go_upto_region 1 with (fail)
  go_quiet ((go_at_call 13; refine Calls.quiet_of_same (refOf_any' hy.out _)))
  go_wp2
  go_ret
  exact ⟨rfl, _, rfl⟩

end Go.Proofs.Ytndekmhgpcibdaa

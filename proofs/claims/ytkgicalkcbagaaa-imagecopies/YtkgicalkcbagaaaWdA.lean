/- Package word and the document's own words on it: Of, Bytes, Read (out of WrA, WrE, WrG, WrH, WrJ, without the rest of their seat). -/
import Derived.Test.YtkgicalkcbagaaaLsB
import Derived.Laws.BytesArg
import Derived.Laws.IdiomStrings
namespace Go.Proofs.Ytkgicalkcbagaaa
open Go.RowKit

theorem ret_int {k : IntKind} {a b : Int} (h : a = b) : Ending.returned (.int k a) = .returned (.int k b) := by rw [h]
theorem ret_pair {k : IntKind} {a b : Int} {c : Bool} (h : a = b) : Ending.returned (.tuple #[.int k a, .bool c]) = .returned (.tuple #[.int k b, .bool c]) := by rw [h]
theorem w32_range (n : Int) : -2147483648 ≤ wrap32 n ∧ wrap32 n ≤ 2147483647 := by unfold wrap32; omega
theorem w32_idem (n : Int) : wrap32 (wrap32 n) = wrap32 n := by unfold wrap32; omega
theorem w32_id (n : Int) (h : -2147483648 ≤ n ∧ n ≤ 2147483647) : wrap32 n = n := by unfold wrap32; omega
theorem w64_w32 (n : Int) : wrap64 (wrap32 n) = wrap32 n := by unfold wrap64 wrap32; omega
theorem of_any (a : Int) (w : World) :
    Calls Try.prog 53 #[.int .i64 a] w fun e w' => e = .returned (.int .i64 (wrap32 a)) ∧ w' = w := by
  have h := w32_range a
  go_enter Try.func53, Try.ntmps53
  go_wp2
  go_ret
  exact ⟨ret_int (by first | rfl | omega), rfl⟩
theorem i64_and32 (n : Int) : bits .and .i64 n 4294967295 = n % 4294967296 := by
  have h1 : (BitVec.ofInt 64 4294967295).toNat = 2 ^ 32 - 1 := by decide
  have key : (BitVec.ofInt 64 n &&& BitVec.ofInt 64 4294967295).toNat = (n % ((2 ^ 64 : Nat) : Int)).toNat % 2 ^ 32 := by
    rw [BitVec.toNat_and, BitVec.toNat_ofInt, h1, Nat.and_two_pow_sub_one_eq_mod]
  show IntKind.i64.wrap ((BitVec.ofInt 64 n &&& BitVec.ofInt 64 4294967295).toNat : Nat) = n % 4294967296
  rw [key, IntKind.wrap_i64]
  omega
theorem refOf_any (a : Int) (w : World) :
    Calls Try.prog 36 #[.int .i64 a] w fun e w' => e = .returned (.int .i64 (wrap32 a)) ∧ w' = w := by
  have hb := i64_and32 a
  have hw : Hid (wrap32 a = if a % 4294967296 ≥ 2147483648 then a % 4294967296 - 4294967296 else a % 4294967296) := by
    show wrap32 a = _
    unfold wrap32; split <;> omega
  have h0 : 0 ≤ a % 4294967296 := by omega
  have h1 : a % 4294967296 < 4294967296 := by omega
  generalize a % 4294967296 = n at *
  by_cases h : n ≥ 2147483648
  · go_enter Try.func36, Try.ntmps36
    go_wp2
    go_ret
    exact ⟨ret_int (by rw [hw.out, if_pos h]), rfl⟩
  · go_enter Try.func36, Try.ntmps36
    go_wp2
    go_ret
    exact ⟨ret_int (by rw [hw.out, if_neg (by omega)]), rfl⟩
theorem refOf_any' {a n : Int} (h : wrap32 a = n) (w : World) :
    Calls Try.prog 36 #[.int .i64 a] w fun e w' => e = .returned (.int .i64 n) ∧ w' = w := h ▸ refOf_any a w
/-- The j-th byte of a number. -/
def byN (v : Int) (j : Nat) : Int := v / 2 ^ (8 * j) % 256
theorem byN_range (v : Int) (j : Nat) : 0 ≤ byN v j ∧ byN v j < 256 := by unfold byN; omega
theorem byN_u32 (v : Int) (j : Nat) (h : j < 4) : IntKind.u32.wrap v / 2 ^ (8 * j) % 256 = byN v j := by
  rw [IntKind.wrap_u32]
  unfold byN
  have : j = 0 ∨ j = 1 ∨ j = 2 ∨ j = 3 := by omega
  rcases this with rfl | rfl | rfl | rfl <;> simp only [Nat.mul_zero, Nat.mul_one, Nat.reduceMul, Int.pow_zero, Int.ediv_one, Int.reducePow] <;> omega
theorem byN_sum (v : Int) : wrap32 (byN v 0 + 256 * byN v 1 + 65536 * byN v 2 + 16777216 * byN v 3) = wrap32 v := by
  unfold byN wrap32
  simp only [Nat.mul_zero, Nat.mul_one, Nat.reduceMul, Int.pow_zero, Int.ediv_one, Int.reducePow]
  omega
theorem Try.info5 : (Try.prog.info? 5).map (fun i => (i.zero, i.size, i.bytes)) = some (some (.int .u8 0), 1, 1) := by kernel_rfl
def byRow (v : Int) (j x : Nat) : Value := .int .u8 (if x < j then byN v x else 0)
set_option maxHeartbeats 1000000 in
theorem bytes_any (v : Int) (w : World) :
    Calls Try.prog 49 #[.int .i64 v] w fun e w' => e = .returned (.slice (some ⟨w.heap.size, 0, none⟩) 4 4) ∧
      w'.rowIs w.heap.size 5 4 (fun j => .int .u8 (byN v j)) ∧ Below w.heap.size w w' := by
  have hmk : ∀ w : World, Sem.run Try.prog (Instr.makeSlice 50 (.int .i64 4) (.int .i64 4)) w = .ok (.slice (some ⟨w.heap.size, 0, none⟩) 4 4) (w.alloc (.cells (madeCells #[.int .u8 0] 4) 5)) :=
    run_make_row' (P := Try.prog) 50 5 (.int .u8 0) 1 Try.underlying50 Try.info5 rfl .i64 .i64 4 (by omega) (by omega)
  have hrow : Hid ((w.alloc (.cells (madeCells #[.int .u8 0] 4) 5)).rowIs w.heap.size 5 4 (byRow v 0)) := (World.rowIs_made w (.int .u8 0) 4 5).congr fun i _ => by simp [byRow]
  have hbel : Hid (Below w.heap.size w (w.alloc (.cells (madeCells #[.int .u8 0] 4) 5))) := (Below.refl w.heap.size w).alloc (Nat.le_refl _) _
  go_enter Try.func49, Try.ntmps49
  go_wp2_with fail
  go_loopw [11] (fun i wr => ∃ j : Nat, j ≤ 4 ∧ i = .int .i64 j ∧ wr.rowIs w.heap.size 5 4 (byRow v j) ∧ Below w.heap.size w wr) (fun i _ => 4 - (intOf i).toNat)
  case atStart => exact ⟨0, Nat.zero_le _, rfl, hrow, hbel⟩
  case round =>
    obtain ⟨j, hj, rfl, hr, hb⟩ := hrel
    clear hrow hbel hmk
    by_cases hlt : j < 4
    · have hc := hr.cell hlt
      have hf := hr.frozen j
      have HR : Hid _ := hr
      have HB : Hid _ := hb
      clear hr hb
      have hu : Hid (v % 4294967296 / 2 ^ (8 * j) % 256 = byN v j) := by have := byN_u32 v j hlt; rwa [IntKind.wrap_u32] at this
      go_wp2_with fail
      refine ⟨⟨j + 1, by omega, by go_num, ?_, HB.out.setCell (Nat.le_refl _) _⟩, by simp [intOf]; omega⟩
      rw [hu.out]
      refine (World.rowIs.set HR.out j _).congr fun i _ => ?_
      by_cases e : i = j
      · subst e; simp [byRow]
      · rw [if_neg e]
        unfold byRow
        by_cases e2 : i < j
        · rw [if_pos e2, if_pos (by omega)]
        · rw [if_neg e2, if_neg (by omega)]
    · go_wp2_with fail
      go_ret
      have e : j = 4 := by omega
      subst e
      exact ⟨rfl, hr.congr fun i hi => by simp [byRow, hi], hb⟩
/-- The number of the first j bytes. -/
def accN (g : Nat → Int) : Nat → Int
  | 0 => 0
  | j + 1 => accN g j + g j * 2 ^ (8 * j)
theorem accN_range (g : Nat → Int) (hg : ∀ j, 0 ≤ g j ∧ g j < 256) : ∀ j, 0 ≤ accN g j ∧ accN g j < 2 ^ (8 * j)
  | 0 => by simp [accN]
  | j + 1 => by
    have ih := accN_range g hg j
    have h := hg j
    have e : (2 : Int) ^ (8 * (j + 1)) = 256 * 2 ^ (8 * j) := by rw [Nat.mul_add, Int.pow_add, Int.mul_comm]; rfl
    have hp : (0 : Int) < 2 ^ (8 * j) := Int.pow_pos (by decide)
    rw [e]
    show 0 ≤ accN g j + g j * 2 ^ (8 * j) ∧ accN g j + g j * 2 ^ (8 * j) < 256 * 2 ^ (8 * j)
    generalize accN g j = x at *
    generalize (2 : Int) ^ (8 * j) = m at *
    have h1 : 0 ≤ g j * m := Int.mul_nonneg h.1 (by omega)
    have h2 : g j * m ≤ 255 * m := Int.mul_le_mul_of_nonneg_right (by omega) (by omega)
    omega
theorem acc_step (g : Nat → Int) (hg : ∀ j, 0 ≤ g j ∧ g j < 256) (j : Nat) (h : j < 4) : bits .or .u32 (accN g j) (g j * 2 ^ (8 * j) % 4294967296) = accN g (j + 1) := by
  have hr := accN_range g hg j
  have hr' := accN_range g hg (j + 1)
  have h4 : (2 : Int) ^ (8 * (j + 1)) ≤ 2 ^ 32 := by
    have : j = 0 ∨ j = 1 ∨ j = 2 ∨ j = 3 := by omega
    rcases this with rfl | rfl | rfl | rfl <;> decide
  have hs : accN g (j + 1) = accN g j + g j * 2 ^ (8 * j) := rfl
  have hp : (0 : Int) < 2 ^ (8 * j) := Int.pow_pos (by decide)
  have h1 : 0 ≤ g j * 2 ^ (8 * j) := Int.mul_nonneg (hg j).1 (by omega)
  have e32 : (2 : Int) ^ 32 = 4294967296 := by decide
  have h0 : (g j * 2 ^ (8 * j)) % 2 ^ (8 * j) = 0 := Int.mul_emod_left _ _
  rw [hs]
  rw [hs] at hr'
  clear hs
  generalize g j * 2 ^ (8 * j) = y at *
  have ey : y % 4294967296 = y := by omega
  have hc : bits .or .u32 (accN g j) y = bits .or .u32 y (accN g j) := by simp only [bits, BitVec.or_comm]
  rw [ey, hc, bits_join .u32 32 (by decide) (fun n h₀ h₁ => by rw [IntKind.wrap_u32]; omega) (8 * j) y _ h1 h0 (by omega) hr.1 hr.2 (by omega)]
  omega
def rdN (g : Nat → Int) : Int := wrap32 (g 0 + 256 * g 1 + 65536 * g 2 + 16777216 * g 3)
theorem acc_four (g : Nat → Int) : wrap32 (accN g 4) = rdN g := by
  unfold rdN
  simp only [accN, Nat.mul_zero, Nat.mul_one, Nat.reduceMul, Int.pow_zero, Int.reducePow]
  congr 1; omega
theorem read_short (a : Option Addr) (n c : Nat) (w : World) (h : n < 4) :
    Calls Try.prog 55 #[.slice a n c] w fun e w' => e = .returned (.tuple #[.int .i64 0, .bool false]) ∧ w' = w := by
  go_enter Try.func55, Try.ntmps55
  go_wp2_with fail
  go_ret2
  exact ⟨rfl, rfl⟩
set_option maxHeartbeats 1000000 in
theorem read_any (b n c : Nat) (g : Nat → Int) (w : World) (hn : 4 ≤ n) (hc : n ≤ c) (hcs : ∀ j, j < 4 → w.cell? ⟨b, j, none⟩ = some (.int .u8 (g j))) (hg : ∀ j, 0 ≤ g j ∧ g j < 256) :
    Calls Try.prog 55 #[.slice (some ⟨b, 0, none⟩) n c] w fun e w' => e = .returned (.tuple #[.int .i64 (rdN g), .bool true]) ∧ w' = w := by
  have HC : Hid _ := hcs
  have HG : Hid _ := hg
  clear hcs hg
  go_enter Try.func55, Try.ntmps55
  go_wp2_with fail
  go_loop [4, 13] (fun u i => ∃ j : Nat, j ≤ 4 ∧ i = .int .i64 j ∧ u = .int .u32 (accN g j)) (fun _ i => 4 - (intOf i).toNat)
  case atStart => exact ⟨0, Nat.zero_le _, rfl, rfl⟩
  case round =>
    obtain ⟨j, hj, rfl, rfl⟩ := hrel
    by_cases hlt : j < 4
    · have hcell := HC.out j hlt
      have HS : Hid (bits .or .u32 (accN g j) (g j * 2 ^ (8 * j) % 4294967296) = accN g (j + 1)) := acc_step g HG.out j hlt
      have h1 := HG.out j
      generalize hx : accN g j = x at *
      have hx : Hid _ := hx
      generalize hy : accN g (j + 1) = y at *
      have HY : Hid _ := hy
      clear hy
      generalize hz : g j = z at *
      have hz : Hid _ := hz
      go_wp2_with fail
      go_round
      case rel => exact ⟨j + 1, by omega, by go_num, by rw [HY.out, ← HS.out]⟩
      case measure => simp [intOf]; omega
    · have e : j = 4 := by omega
      subst e
      have HF : Hid (wrap32 (accN g 4) = rdN g) := acc_four g
      generalize accN g 4 = x at *
      go_wp2_with fail
      go_ret2
      exact ⟨ret_pair (by rw [w64_w32, HF.out]), rfl⟩
theorem byN_w32 (a : Int) (j : Nat) (h : j < 4) : byN (wrap32 a) j = byN a j := by
  unfold byN wrap32
  have : j = 0 ∨ j = 1 ∨ j = 2 ∨ j = 3 := by omega
  rcases this with rfl | rfl | rfl | rfl <;> simp only [Nat.mul_zero, Nat.mul_one, Nat.reduceMul, Int.pow_zero, Int.ediv_one, Int.reducePow] <;> omega
/-- The four bytes of a number, as a string. -/
def byS (v : Int) : ByteArray := strOfNums [byN v 0, byN v 1, byN v 2, byN v 3]
theorem Try.under8 : Try.prog.underlying 5 = some (.int .u8) := by kernel_rfl

theorem byN_parts (v n : Int) (h : n = v % 4294967296) : n % 256 = byN v 0 ∧ n / 256 % 256 = byN v 1 ∧ n / 65536 % 256 = byN v 2 ∧ n / 16777216 % 256 = byN v 3 := by
  unfold byN
  simp only [Nat.mul_zero, Nat.mul_one, Nat.reduceMul, Int.pow_zero, Int.ediv_one, Int.reducePow]
  omega

theorem row4_string (w : World) (b c : Nat) (x0 x1 x2 x3 : Int) (h : ∀ j, j < 4 → w.cell? ⟨b, j, none⟩ = some (.int .u8 ([x0, x1, x2, x3].getD j 0))) :
    (convert 50 9 (.slice (some ⟨b, 0, none⟩) 4 c)).run Try.prog w = .ok (.string (strOfNums [x0, x1, x2, x3])) w :=
  run_convert_bytes_arg w 50 5 Try.underlying50 Try.under8 b 0 4 c [x0, x1, x2, x3] rfl (fun i hi => by rw [Nat.zero_add]; exact h i hi) 9 (by kernel_rfl)

set_option maxHeartbeats 1000000 in
theorem refBytes_any (v : Int) (w : World) :
    Calls Try.prog 38 #[.int .i64 v] w fun e w' => e = .returned (.string (byS v)) ∧ w' = w.alloc (.cells #[.int .u8 (byN v 0), .int .u8 (byN v 1), .int .u8 (byN v 2), .int .u8 (byN v 3)] 5) := by
  have hb := i64_and32 v
  obtain ⟨p0, p1, p2, p3⟩ := byN_parts v _ rfl
  have r0 := byN_range v 0
  have r1 := byN_range v 1
  have r2 := byN_range v 2
  have r3 := byN_range v 3
  have hs : Hid (byS v = strOfNums [byN v 0, byN v 1, byN v 2, byN v 3]) := rfl
  have hn : 0 ≤ v % 4294967296 := by omega
  have hn' : v % 4294967296 < 4294967296 := by omega
  generalize byS v = S at *
  generalize v % 4294967296 = n at *
  generalize byN v 0 = x0 at *
  generalize byN v 1 = x1 at *
  generalize byN v 2 = x2 at *
  generalize byN v 3 = x3 at *
  have hcv : (convert 50 9 (.slice (some ⟨w.heap.size, 0, none⟩) 4 4)).run Try.prog (w.alloc (.cells #[.int .u8 x0, .int .u8 x1, .int .u8 x2, .int .u8 x3] 5)) = .ok (.string S) (w.alloc (.cells #[.int .u8 x0, .int .u8 x1, .int .u8 x2, .int .u8 x3] 5)) := by
    rw [hs.out]
    refine row4_string _ _ _ _ _ _ _ fun j hj => ?_
    refine World.rowIs.cell (t := 5) (n := 4) (f := fun j => .int .u8 ([x0, x1, x2, x3].getD j 0)) (World.rowIs_alloc w _ _ _ fun i hi => ?_) hj
    have : i = 0 ∨ i = 1 ∨ i = 2 ∨ i = 3 := by simp at hi; omega
    rcases this with rfl | rfl | rfl | rfl <;> rfl
  go_enter Try.func38, Try.ntmps38
  go_wp2_with fail
  go_ret
  exact ⟨rfl, rfl⟩

set_option maxHeartbeats 1000000 in
theorem refWord_any (s : ByteArray) (x0 x1 x2 x3 y : Int) (w : World) (g0 : 0 ≤ x0 ∧ x0 < 256) (g1 : 0 ≤ x1 ∧ x1 < 256) (g2 : 0 ≤ x2 ∧ x2 < 256) (g3 : 0 ≤ x3 ∧ x3 < 256)
    (h0 : ∀ w, (Instr.index 9 (.string s) (.int .i64 0)).run Try.prog w = .ok (.int .u8 x0) w) (h1 : ∀ w, (Instr.index 9 (.string s) (.int .i64 1)).run Try.prog w = .ok (.int .u8 x1) w)
    (h2 : ∀ w, (Instr.index 9 (.string s) (.int .i64 2)).run Try.prog w = .ok (.int .u8 x2) w) (h3 : ∀ w, (Instr.index 9 (.string s) (.int .i64 3)).run Try.prog w = .ok (.int .u8 x3) w)
    (hy : Hid (wrap32 (x0 + 256 * x1 + 65536 * x2 + 16777216 * x3) = y)) :
    Calls Try.prog 41 #[.string s] w fun e w' => e = .returned (.int .i64 y) ∧ ∃ q, w' = w.drewN q := by
  go_enter Try.func41, Try.ntmps41
  go_upto_region 1 with (fail)
  go_quiet ((go_at_call 36; refine Calls.quiet_of_same (refOf_any' hy.out _)))
  go_wp2
  go_ret
  exact ⟨rfl, _, rfl⟩

end Go.Proofs.Ytkgicalkcbagaaa

/- The walks of math/bits' two functions on the road: OnesCount64, TrailingZeros64. -/
import Derived.Test.YtfkimmbnmcgjiaaDoorRows
import Derived.Test.YtfkimmbnmcgjiaaDoorSvP
import Derived.WalkKit
import Derived.WalkSpells
import Derived.Shelf.Spec.TrailingZeros
namespace Go.Proofs.YtfkimmbnmcgjiaaDoor
open Go.RowKit

set_option maxHeartbeats 400000 in
theorem ones_core (x a b x1 c d x2 s x3 x4 x5 x6 r : Int) (w : World)
    (e1 : bits BinOp.and IntKind.u64 (x / 2) 6148914691236517205 = a) (e2 : bits BinOp.and IntKind.u64 x 6148914691236517205 = b) (e3 : IntKind.u64.wrap (a + b) = x1)
    (e4 : bits BinOp.and IntKind.u64 (x1 / 4) 3689348814741910323 = c) (e5 : bits BinOp.and IntKind.u64 x1 3689348814741910323 = d) (e6 : IntKind.u64.wrap (c + d) = x2)
    (e7 : IntKind.u64.wrap (x2 / 16 + x2) = s) (e8 : bits BinOp.and IntKind.u64 s 1085102592571150095 = x3)
    (e9 : IntKind.u64.wrap (x3 + x3 / 256) = x4) (e10 : IntKind.u64.wrap (x4 + x4 / 65536) = x5) (e11 : IntKind.u64.wrap (x5 + x5 / 4294967296) = x6)
    (e12 : bits BinOp.and IntKind.i64 (wrap64 x6) 127 = r) :
    Calls Tryd.prog 60 #[.int .u64 x] w fun e w' => e = .returned (.int .i64 r) ∧ w' = w := by
  go_enter Tryd.func60, Tryd.ntmps60
  go_wp2
  go_ret
  exact ⟨rfl, rfl⟩

theorem wrap_nat (n : Nat) (h : n < 18446744073709551616) : IntKind.u64.wrap (n : Int) = (n : Int) := by rw [IntKind.wrap_u64]; omega
theorem wrap_add2 (a b : Nat) (h : a + b < 18446744073709551616) : IntKind.u64.wrap ((a : Int) + (b : Int)) = ((a + b : Nat) : Int) := by rw [IntKind.wrap_u64]; omega
theorem wrap64_nat (n : Nat) (h : n < 9223372036854775808) : wrap64 (n : Int) = (n : Int) := by
  rw [← IntWalk.i64_left, IntKind.wrap_i64]; omega

theorem and_lit (a m : Nat) (M : Int) (hM : (m : Int) = M) (ha : a < 18446744073709551616) (hm : m < 18446744073709551616) : bits .and .u64 (a : Int) M = ((a &&& m : Nat) : Int) := by
  rw [← hM]; exact u64_and_nat a m ha hm

theorem ones_any (x : Nat) (hx : x < 18446744073709551616) (w : World) :
    Calls Tryd.prog 60 #[.int .u64 x] w fun e w' => e = .returned (.int .i64 (cnt x.testBit 64 : Nat)) ∧ w' = w := by
  obtain ⟨A, B, _, D, E⟩ := swar 8 x (by have : (256 : Nat) ^ 8 = 18446744073709551616 := by decide
                                         omega)
  have p8 : (256 : Nat) ^ 8 = 18446744073709551616 := by decide
  rw [p8] at A B D
  have r1 : rep 85 8 = 6148914691236517205 := by decide
  have r2 : rep 51 8 = 3689348814741910323 := by decide
  have r3 : rep 15 8 = 1085102592571150095 := by decide
  rw [r3] at E
  have f1 : s1 8 x = (x / 2 &&& 6148914691236517205) + (x &&& 6148914691236517205) := by unfold s1; rw [r1]
  have f2 : s2 8 (s1 8 x) = (s1 8 x / 4 &&& 3689348814741910323) + (s1 8 x &&& 3689348814741910323) := by
    show (s1 8 x / 4 &&& rep 51 8) + (s1 8 x &&& rep 51 8) = _
    rw [r2]
  generalize s1 8 x = x1 at *
  generalize s2 8 x1 = x2 at *
  obtain ⟨G1, G2, G3, G4⟩ := sums x _ _ _ rfl rfl rfl
  generalize onesB 8 x = x3 at *
  generalize cnt x.testBit 64 = r at *
  clear r1 r2 r3 p8
  have q1 : ((x : Int) / 2) = ((x / 2 : Nat) : Int) := by omega
  have q2 : ((x1 : Int) / 4) = ((x1 / 4 : Nat) : Int) := by omega
  have q3 : ((x2 : Int) / 16) = ((x2 / 16 : Nat) : Int) := by omega
  have q4 : ∀ n : Nat, ((n : Int) / 256) = ((n / 256 : Nat) : Int) := fun n => by omega
  have q5 : ∀ n : Nat, ((n : Int) / 65536) = ((n / 65536 : Nat) : Int) := fun n => by omega
  have q6 : ∀ n : Nat, ((n : Int) / 4294967296) = ((n / 4294967296 : Nat) : Int) := fun n => by omega
  refine ones_core x _ _ x1 _ _ x2 _ x3 _ _ _ r w rfl rfl ?_ rfl rfl ?_ rfl ?_ rfl rfl rfl ?_
  · rw [q1, and_lit (x / 2) 6148914691236517205 6148914691236517205 rfl (by omega) (by omega), and_lit x 6148914691236517205 6148914691236517205 rfl hx (by omega), wrap_add2 _ _ (by omega), ← f1]
  · rw [q2, and_lit (x1 / 4) 3689348814741910323 3689348814741910323 rfl (by omega) (by omega), and_lit x1 3689348814741910323 3689348814741910323 rfl A (by omega), wrap_add2 _ _ (by omega), ← f2]
  · rw [q3, wrap_add2 _ _ D, and_lit _ 1085102592571150095 1085102592571150095 rfl D (by omega), E]
  · rw [q4, wrap_add2 _ _ G1, q5, wrap_add2 _ _ G2, q6, wrap_add2 _ _ (by omega), wrap64_nat _ G3]
    have hm := bits_mask .i64 63 (by decide) (fun n h0 h1 => by rw [IntKind.wrap_i64]; omega) 7 (by decide)
    have := hm _ (Int.natCast_nonneg _) (Int.ofNat_lt.2 G3)
    rw [show (127 : Int) = 2 ^ 7 - 1 from by decide, this, ← G4]
    omega

/-- The library's table as it is laid. -/
abbrev Tab (w : World) : Prop := TabAt 0 Lib.deBruijn64tab w

set_option maxHeartbeats 1000000 in
theorem tz_core (x k idx : Nat) (w : World) (hx0 : ((x : Int) == 0) = false)
    (key : IntKind.u64.wrap (bits BinOp.and IntKind.u64 (x : Int) (IntKind.u64.wrap (-(x : Int))) * 285870213051353865) / 288230376151711744 = (idx : Int))
    (hi : idx < 64) (hk : k < 64) (hcell : w.cell? ⟨0, idx, none⟩ = some (.int .u8 k)) :
    Calls Tryd.prog 57 #[.int .u64 x] w fun e w' => e = .returned (.int .i64 k) ∧ w' = w := by
  go_enter Tryd.func57, Tryd.ntmps57
  go_wp2_with (simp only [key])
  go_ret
  exact ⟨rfl, rfl⟩

theorem tz_any (x : Nat) (h0 : x ≠ 0) (hx : x < 18446744073709551616) (w : World) (hT : Tab w) :
    Calls Tryd.prog 57 #[.int .u64 x] w fun e w' => e = .returned (.int .i64 (Lib.ctz 64 x : Nat)) ∧ w' = w := by
  obtain ⟨hlow, hk⟩ := Lib.lowest_bit 64 x h0 hx
  obtain ⟨hi, htab⟩ := Lib.deBruijn64_at _ hk
  have hc := hT _ hi
  rw [htab] at hc
  exact tz_core x _ _ w (by simpa using h0) (tz64_key x _ hx h0 hlow) hi hk hc

end Go.Proofs.YtfkimmbnmcgjiaaDoor

/- The walks of instr's Known, Uses, Writes, and of the document's Known, Uses. -/
import Derived.Test.YtmjappcjfjajmaaInA
import Derived.Test.YtmjappcjfjajmaaInB
import Derived.Test.YtmjappcjfjajmaaInC
namespace Go.Proofs.Ytmjappcjfjajmaa
open Go.RowKit

theorem ro_letters (op : Int) : ∃ r0 r1 r2, Hid (ro op = (r0, r1, r2)) := ⟨_, _, _, rfl⟩
theorem kn_letter (op : Int) : ∃ b, Hid (kn op = b) := ⟨_, rfl⟩
theorem below_drewN {B : Nat} {w w' : World} (h : Below B w w') (q : Nat) : Below B w (w'.drewN q) := ⟨h.os, h.tape, h.output, h.size, h.block⟩
theorem ret_bool {a b : Bool} (h : a = b) : Ending.returned (.bool a) = .returned (.bool b) := by rw [h]

theorem known_any (op : Int) (w : World) : Calls Try.prog 64 #[.int .i64 op] w fun e w' => e = .returned (.bool (kn op)) ∧ Below w.heap.size w w' := by
  obtain ⟨r0, r1, r2, h⟩ := ro_letters op
  obtain ⟨b, hb⟩ := kn_letter op
  rw [hb.out]
  go_enter Try.func64, Try.ntmps64
  go_wp2_with fail
  refine (roles_any h hb _).mono ?_
  rintro e w' ⟨rfl, rfl⟩
  go_wp2_with fail
  go_ret
  exact ⟨rfl, ((Below.refl _ _).alloc (Nat.le_refl _) _).alloc (by simp) _⟩

theorem uses_any (op : Int) (w : World) : Calls Try.prog 65 #[.int .i64 op] w fun e w' => e = .returned (.tuple #[.bool ((ro op).1 != 0), .bool ((ro op).2.1 != 0), .bool ((ro op).2.2 != 0)]) ∧ Below w.heap.size w w' := by
  obtain ⟨r0, r1, r2, h⟩ := ro_letters op
  obtain ⟨b, hb⟩ := kn_letter op
  rw [h.out]
  go_enter Try.func65, Try.ntmps65
  go_wp2_with fail
  refine (roles_any h hb _).mono ?_
  rintro e w' ⟨rfl, rfl⟩
  go_upto_region 2 with (fail)
  go_quiet (fail)
  go_wp2
  refine bodyPost_ret (v := .tuple #[.bool (r0 != 0), .bool (r1 != 0), .bool (r2 != 0)]) (by simp [results, go_sem]) rfl ?_
  exact ⟨rfl, below_drewN (((Below.refl _ _).alloc (Nat.le_refl _) _).alloc (by simp) _) _⟩

theorem writes_core (o a b c r0 r1 r2 : Int) (k : Bool) (h : Hid (ro o = (r0, r1, r2))) (hb : Hid (kn o = k)) (w : World) :
    Calls Try.prog 76 #[.agg #[.int .i64 o, .int .i64 a, .int .i64 b, .int .i64 c]] w fun e w' => e = .returned (.tuple #[.int .i64 (if (r0 == 3) = true then a else 0), .bool (r0 == 3)]) ∧ Below w.heap.size w w' := by
  by_cases h3 : r0 = 3
  · subst h3
    go_enter Try.func76, Try.ntmps76
    go_wp2_with fail
    refine (roles_any h hb _).mono ?_
    rintro e w' ⟨rfl, rfl⟩
    go_wp2_with fail
    go_ret2
    exact ⟨rfl, (((Below.refl _ _).alloc (Nat.le_refl _) _).alloc (by simp) _).alloc (by simp; omega) _⟩
  · have e3 : (r0 == 3) = false := by simpa using h3
    rw [e3]
    go_enter Try.func76, Try.ntmps76
    go_wp2_with fail
    refine (roles_any h hb _).mono ?_
    rintro e w' ⟨rfl, rfl⟩
    go_wp2_with fail
    go_ret2
    exact ⟨rfl, (((Below.refl _ _).alloc (Nat.le_refl _) _).alloc (by simp) _).alloc (by simp; omega) _⟩
theorem writes_any (i : Ins) (w : World) :
    Calls Try.prog 76 #[i.v] w fun e w' => e = .returned (.tuple #[.int .i64 (if wrB i.o = true then i.a else 0), .bool (wrB i.o)]) ∧ Below w.heap.size w w' := by
  obtain ⟨r0, r1, r2, h⟩ := ro_letters i.o
  obtain ⟨k, hk⟩ := kn_letter i.o
  have := writes_core i.o i.a i.b i.c r0 r1 r2 k h hk w
  unfold wrB Ins.v
  rw [h.out]
  exact this

/-! ### the document's Known and Uses -/
theorem opS_len {op : Int} (h : kn op = true) : (opS op).size = 3 := by
  rcases kn_cases h with rfl | rfl | rfl | rfl | rfl | rfl | rfl | rfl | rfl | rfl | rfl | rfl | rfl | rfl | rfl | rfl | rfl | rfl | rfl | rfl | rfl | rfl | rfl | rfl | rfl | rfl | rfl | rfl | rfl | rfl <;> rfl
theorem opS_some {op : Int} (h : kn op = true) : (opS op).toList.isEmpty = false := by
  rcases kn_cases h with rfl | rfl | rfl | rfl | rfl | rfl | rfl | rfl | rfl | rfl | rfl | rfl | rfl | rfl | rfl | rfl | rfl | rfl | rfl | rfl | rfl | rfl | rfl | rfl | rfl | rfl | rfl | rfl | rfl | rfl <;> decide +kernel
theorem opS_none {op : Int} (h : kn op = false) : opS op = ⟨#[]⟩ := by unfold opS; rw [h]; rfl
/-- The j-th byte of a string. -/
def gb (b : ByteArray) (j : Nat) : Int := ((b.data[j]?.getD 0).toNat : Int)
theorem gb_range (b : ByteArray) (j : Nat) : 0 ≤ gb b j ∧ gb b j < 256 := by
  unfold gb
  have := (b.data[j]?.getD 0).toNat_lt
  omega
theorem opS_ro {op : Int} (h : kn op = true) : (gb (opS op) 0 != 45) = ((ro op).1 != 0) ∧ (gb (opS op) 1 != 45) = ((ro op).2.1 != 0) ∧ (gb (opS op) 2 != 45) = ((ro op).2.2 != 0) := by
  rcases kn_cases h with rfl | rfl | rfl | rfl | rfl | rfl | rfl | rfl | rfl | rfl | rfl | rfl | rfl | rfl | rfl | rfl | rfl | rfl | rfl | rfl | rfl | rfl | rfl | rfl | rfl | rfl | rfl | rfl | rfl | rfl <;> decide
theorem Try.underS : Try.prog.underlying 9 = some .string := by kernel_rfl
theorem run_idx (b : ByteArray) (j : Nat) (hj : j < b.size) (w : World) : (Instr.index 9 (.string b) (.int .i64 (j : Int))).run Try.prog w = .ok (.int .u8 (gb b j)) w := by
  rw [run_index_string _ _ _ _ _ Try.underS, dif_pos (by omega)]
  congr 2
  unfold gb
  have hj' : j < b.data.size := hj
  simp [Array.getElem?_eq_getElem hj']
  rfl

theorem refUses_known (op : Int) (s : ByteArray) (x0 x1 x2 : Int) (hs : Hid (opS op = s)) (hne : s.toList.isEmpty = false) (w : World)
    (h0 : ∀ w, (Instr.index 9 (.string s) (.int .i64 0)).run Try.prog w = .ok (.int .u8 x0) w) (h1 : ∀ w, (Instr.index 9 (.string s) (.int .i64 1)).run Try.prog w = .ok (.int .u8 x1) w)
    (h2 : ∀ w, (Instr.index 9 (.string s) (.int .i64 2)).run Try.prog w = .ok (.int .u8 x2) w) :
    Calls Try.prog 84 #[.int .i64 op] w fun e w' => e = .returned (.tuple #[.bool (x0 != 45), .bool (x1 != 45), .bool (x2 != 45)]) ∧ ∃ q, w' = w.drewN q := by
  go_enter Try.func84, Try.ntmps84
  go_wp2_with fail
  refine (operands_any hs _).mono ?_
  rintro e w' ⟨rfl, rfl⟩
  go_upto_region 4 with (fail)
  go_quiet (fail)
  go_wp2
  refine bodyPost_ret (v := .tuple #[.bool (x0 != 45), .bool (x1 != 45), .bool (x2 != 45)]) (by simp [results, go_sem]) rfl ?_
  exact ⟨rfl, _, rfl⟩
theorem refUses_none (op : Int) (h : kn op = false) (w : World) :
    Calls Try.prog 84 #[.int .i64 op] w fun e w' => e = .returned (.tuple #[.bool false, .bool false, .bool false]) ∧ ∃ q, w' = w.drewN q := by
  have hs : Hid (opS op = ⟨#[]⟩) := opS_none h
  go_enter Try.func84, Try.ntmps84
  go_wp2_with fail
  refine (operands_any hs _).mono ?_
  rintro e w' ⟨rfl, rfl⟩
  go_wp2_with fail
  refine bodyPost_ret (v := .tuple #[.bool false, .bool false, .bool false]) (by simp [results, go_sem]) rfl ?_
  exact ⟨rfl, 0, rfl⟩
theorem refUses_any (op : Int) (w : World) :
    Calls Try.prog 84 #[.int .i64 op] w fun e w' => e = .returned (.tuple #[.bool ((ro op).1 != 0), .bool ((ro op).2.1 != 0), .bool ((ro op).2.2 != 0)]) ∧ ∃ q, w' = w.drewN q := by
  cases hk : kn op with
  | true =>
    have hl := opS_len hk
    obtain ⟨e0, e1, e2⟩ := opS_ro hk
    rw [← e0, ← e1, ← e2]
    exact refUses_known op (opS op) _ _ _ rfl (opS_some hk) w (run_idx _ 0 (by omega)) (run_idx _ 1 (by omega)) (run_idx _ 2 (by omega))
  | false =>
    rw [ro_none hk]
    exact refUses_none op hk w

end Go.Proofs.Ytmjappcjfjajmaa

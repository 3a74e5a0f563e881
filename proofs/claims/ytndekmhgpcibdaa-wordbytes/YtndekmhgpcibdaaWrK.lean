/- The walk of WordBytes. -/
import Derived.Test.YtndekmhgpcibdaaWrJ
import Derived.Test.YtndekmhgpcibdaaQi
import Derived.Deep.RegionWith
import Derived.Laws.AppendOwn
namespace Go.Proofs.Ytndekmhgpcibdaa
open Go.RowKit

/-- The j-th byte of a string. -/
def gb (b : ByteArray) (j : Nat) : Int := ((b.data[j]?.getD 0).toNat : Int)
theorem gb_range (b : ByteArray) (j : Nat) : 0 ≤ gb b j ∧ gb b j < 256 := by
  unfold gb
  have := (b.data[j]?.getD 0).toNat_lt
  omega
theorem Try.underS : Try.prog.underlying 9 = some .string := by kernel_rfl
theorem idx_any (b : ByteArray) (h4 : 4 ≤ b.size) (j : Nat) (hj : j < 4) (w : World) :
    (Instr.index 9 (.string (b.extract 0 4)) (.int .i64 (j : Int))).run Try.prog w = .ok (.int .u8 (gb b j)) w := by
  have hs : (b.extract 0 4).size = 4 := by simp [ByteArray.size_extract]; omega
  rw [run_index_string _ _ _ _ _ Try.underS, dif_pos (by omega)]
  congr 2
  unfold gb
  have hj' : j < b.data.size := by have : b.data.size = b.size := rfl; omega
  simp [ByteArray.getElem_extract, Array.getElem?_eq_getElem hj']
  rfl

theorem strRow (w : World) (b : ByteArray) (c : Nat) (f : Nat × Nat) (j : Nat) (hj : j < b.size) :
    (w.alloc (.cells (bytesRow b c) 5 f)).cell? ⟨w.heap.size, j, none⟩ = some (.int .u8 (gb b j)) := by
  have hj' : j < b.data.size := hj
  have e : (w.alloc (.cells (bytesRow b c) 5 f)).heap[w.heap.size]? = some (.cells (bytesRow b c) 5 f) := by
    show (w.heap.push _)[w.heap.size]? = _
    simp
  unfold World.cell?
  rw [e]
  show (bytesRow b c)[j]? = _
  unfold bytesRow gb
  rw [Array.getElem?_append_left (by simpa using hj')]
  rw [Array.getElem?_map, Array.getElem?_eq_getElem hj']
  rfl

set_option maxHeartbeats 1000000 in
theorem bytes_big (v : Int) (b : ByteArray) (w : World) (h : 20 < b.size) :
    Calls Try.prog 4 #[.int .i64 v, .string b] w fun e w' => e = .returned (.bool true) ∧ Below w.heap.size w w' := by
  go_enter Try.func4, Try.ntmps4
  go_wp2_with fail
  refine (alive_any _).mono ?_
  rintro e w0 ⟨rfl, rfl⟩
  go_wp2_with fail
  go_ret
  exact ⟨rfl, Below.refl _ _⟩

theorem drew_size (w : World) : w.drew.heap.size = w.heap.size := rfl
set_option maxHeartbeats 2000000 in
theorem bytes_long (v : Int) (b : ByteArray) (w : World) (h : b.size ≤ 20) (h4 : 4 ≤ b.size) :
    Calls Try.prog 4 #[.int .i64 v, .string b] w fun e w' => e = .returned (.bool true) ∧ Below w.heap.size w w' := by
  have hcv := fun w => run_bytes_of_string (P := Try.prog) w 9 28 5 b Try.underS Try.underlying28 Try.under8
  go_enter Try.func4, Try.ntmps4
  go_wp2_with fail
  refine (alive_any _).mono ?_
  rintro e w0 ⟨rfl, rfl⟩
  go_wp2_with fail
  refine (bytes_any _ _).mono ?_
  rintro e w1 ⟨rfl, r1, b1⟩
  have R1 : Hid _ := r1
  have B1 : Hid _ := b1
  clear r1 b1
  go_wp2_with fail
  have hge := grownCap_ge w1 b.size 0 5
  have C1 : Hid (∀ j, j < 4 → ((w1.alloc (.cells (bytesRow b (grownCap w1 b.size 0 5)) 5 ((bytesRow b (grownCap w1 b.size 0 5)).size, (bytesRow b (grownCap w1 b.size 0 5)).size + 1))).drew).cell? ⟨w0.heap.size, j, none⟩ = some (.int .u8 (byN v j))) := fun j hj => ((World.rowIs.alloc R1.out _).drew).cell hj
  have C2 : Hid (∀ j, j < 4 → ((w1.alloc (.cells (bytesRow b (grownCap w1 b.size 0 5)) 5 ((bytesRow b (grownCap w1 b.size 0 5)).size, (bytesRow b (grownCap w1 b.size 0 5)).size + 1))).drew).cell? ⟨w1.heap.size, j, none⟩ = some (.int .u8 (gb b j))) := fun j hj => strRow w1 b _ _ j (by omega)
  have B2 : Hid (Below w0.heap.size w0 ((w1.alloc (.cells (bytesRow b (grownCap w1 b.size 0 5)) 5 ((bytesRow b (grownCap w1 b.size 0 5)).size, (bytesRow b (grownCap w1 b.size 0 5)).size + 1))).drew)) := (B1.out.alloc B1.out.size _).drew
  have L1 : Hid (w0.heap.size < ((w1.alloc (.cells (bytesRow b (grownCap w1 b.size 0 5)) 5 ((bytesRow b (grownCap w1 b.size 0 5)).size, (bytesRow b (grownCap w1 b.size 0 5)).size + 1))).drew).heap.size) := World.rowIs.lt (World.rowIs.drew (World.rowIs.alloc R1.out _))
  clear R1 B1 hcv
  generalize ((w1.alloc (.cells (bytesRow b (grownCap w1 b.size 0 5)) 5 ((bytesRow b (grownCap w1 b.size 0 5)).size, (bytesRow b (grownCap w1 b.size 0 5)).size + 1))).drew) = w2 at *
  generalize grownCap w1 b.size 0 5 = c at *
  generalize w1.heap.size = p2 at *
  refine (read_any p2 b.size c (gb b) w2 h4 hge C2.out (gb_range b)).mono ?_
  rintro e wx ⟨rfl, rfl⟩
  have HR : Hid (rdN (gb b) = wrap32 (gb b 0 + 256 * gb b 1 + 65536 * gb b 2 + 16777216 * gb b 3)) := rfl
  generalize rdN (gb b) = x at *
  go_wp2_with fail
  refine (read_any w0.heap.size 4 4 (byN v) _ (by omega) (by omega) C1.out (byN_range v)).mono ?_
  rintro e wy ⟨rfl, rfl⟩
  have HV : Hid (wrap32 v = rdN (byN v)) := (byN_sum v).symm
  generalize rdN (byN v) = y at *
  go_upto_region 6 with (fail)
  let I : World → Prop := fun w' => Below w0.heap.size w0 w' ∧ (∀ j, j < 4 → w'.cell? ⟨w0.heap.size, j, none⟩ = some (.int .u8 (byN v j))) ∧ w0.heap.size < w'.heap.size
  have hI : I wy.drew := ⟨B2.out.drew, C1.out, L1.out⟩
  haveI : Nonempty (InW I) := ⟨⟨_, hI⟩⟩
  have hcv : ∀ z : InW I, (convert 28 9 (.slice (some ⟨w0.heap.size, 0, none⟩) 4 4)).run Try.prog z.w = .ok (.string (byS v)) z.w := fun z =>
    row4_string _ _ _ _ _ _ _ fun j hj => by
      have : j = 0 ∨ j = 1 ∨ j = 2 ∨ j = 3 := by omega
      rcases this with rfl | rfl | rfl | rfl <;> exact z.h.2.1 _ (by omega)
  have hrb : Hid (∀ z : InW I, Calls Try.prog 19 #[.int .i64 v] z.w fun e w' => e = .returned (.string (byS v)) ∧ I w') := fun z =>
    (refBytes_any v z.w).mono fun e w' ⟨he, hw⟩ => ⟨he, by
      subst hw
      have hl := z.h.2.2
      exact ⟨z.h.1.alloc (by omega) _, fun j hj => by rw [World.cell?_of_block (w := z.w) (((Below.refl z.w.heap.size z.w).alloc (Nat.le_refl _) _).block _ hl)]; exact z.h.2.1 j hj, by simp; omega⟩⟩
  have hIB : Hid (∀ z : InW I, Below w0.heap.size w0 z.w) := fun z => z.h.1
  generalize byS v = S at *
  clear_value I
  clear C1 C2 B2 L1
  have hd : decide (4 ≤ (b.size : Int)) = true := by simp; omega
  refine wp_region_in (by kernel_rfl) (by kernel_rfl) hI ?_
  repeat (go_big_quiet_step (first
    | (go_at_call 19; exact callIn (hrb.out _))
    | (go_at_call 13; exact callSame (refOf_any' HV.out _))))
  refine wpQuiet_nil ?_
  rintro _ ⟨z, rfl⟩
  clear hrb HV hcv hI
  go_wp2_with fail
  refine (refWord_any (b.extract 0 4) _ _ _ _ x z.w (gb_range b 0) (gb_range b 1) (gb_range b 2) (gb_range b 3) (idx_any b h4 0 (by omega)) (idx_any b h4 1 (by omega)) (idx_any b h4 2 (by omega)) (idx_any b h4 3 (by omega)) HR.out.symm).mono ?_
  rintro e wz ⟨rfl, q, rfl⟩
  go_wp2_with fail
  go_ret
  have hz := hIB.out z
  exact ⟨rfl, ⟨hz.os, hz.tape, hz.output, hz.size, hz.block⟩⟩

set_option maxHeartbeats 2000000 in
theorem bytes_short (v : Int) (b : ByteArray) (w : World) (h : b.size ≤ 20) (h4 : b.size < 4) :
    Calls Try.prog 4 #[.int .i64 v, .string b] w fun e w' => e = .returned (.bool true) ∧ Below w.heap.size w w' := by
  have hcv := fun w => run_bytes_of_string (P := Try.prog) w 9 28 5 b Try.underS Try.underlying28 Try.under8
  go_enter Try.func4, Try.ntmps4
  go_wp2_with fail
  refine (alive_any _).mono ?_
  rintro e w0 ⟨rfl, rfl⟩
  go_wp2_with fail
  refine (bytes_any _ _).mono ?_
  rintro e w1 ⟨rfl, r1, b1⟩
  have R1 : Hid _ := r1
  have B1 : Hid _ := b1
  clear r1 b1
  go_wp2_with fail
  have C1 : Hid (∀ j, j < 4 → ((w1.alloc (.cells (bytesRow b (grownCap w1 b.size 0 5)) 5 ((bytesRow b (grownCap w1 b.size 0 5)).size, (bytesRow b (grownCap w1 b.size 0 5)).size + 1))).drew).cell? ⟨w0.heap.size, j, none⟩ = some (.int .u8 (byN v j))) := fun j hj => ((World.rowIs.alloc R1.out _).drew).cell hj
  have B2 : Hid (Below w0.heap.size w0 ((w1.alloc (.cells (bytesRow b (grownCap w1 b.size 0 5)) 5 ((bytesRow b (grownCap w1 b.size 0 5)).size, (bytesRow b (grownCap w1 b.size 0 5)).size + 1))).drew)) := (B1.out.alloc B1.out.size _).drew
  have L1 : Hid (w0.heap.size < ((w1.alloc (.cells (bytesRow b (grownCap w1 b.size 0 5)) 5 ((bytesRow b (grownCap w1 b.size 0 5)).size, (bytesRow b (grownCap w1 b.size 0 5)).size + 1))).drew).heap.size) := World.rowIs.lt (World.rowIs.drew (World.rowIs.alloc R1.out _))
  clear R1 B1 hcv
  generalize ((w1.alloc (.cells (bytesRow b (grownCap w1 b.size 0 5)) 5 ((bytesRow b (grownCap w1 b.size 0 5)).size, (bytesRow b (grownCap w1 b.size 0 5)).size + 1))).drew) = w2 at *
  generalize grownCap w1 b.size 0 5 = c at *
  generalize w1.heap.size = p2 at *
  refine (read_short (some ⟨p2, 0, none⟩) b.size c w2 h4).mono ?_
  rintro e wx ⟨rfl, rfl⟩
  go_wp2_with fail
  refine (read_any w0.heap.size 4 4 (byN v) _ (by omega) (by omega) C1.out (byN_range v)).mono ?_
  rintro e wy ⟨rfl, rfl⟩
  have HV : Hid (wrap32 v = rdN (byN v)) := (byN_sum v).symm
  generalize rdN (byN v) = y at *
  go_upto_region 6 with (fail)
  let I : World → Prop := fun w' => Below w0.heap.size w0 w' ∧ (∀ j, j < 4 → w'.cell? ⟨w0.heap.size, j, none⟩ = some (.int .u8 (byN v j))) ∧ w0.heap.size < w'.heap.size
  have hI : I wy.drew := ⟨B2.out.drew, C1.out, L1.out⟩
  haveI : Nonempty (InW I) := ⟨⟨_, hI⟩⟩
  have hcv : ∀ z : InW I, (convert 28 9 (.slice (some ⟨w0.heap.size, 0, none⟩) 4 4)).run Try.prog z.w = .ok (.string (byS v)) z.w := fun z =>
    row4_string _ _ _ _ _ _ _ fun j hj => by
      have : j = 0 ∨ j = 1 ∨ j = 2 ∨ j = 3 := by omega
      rcases this with rfl | rfl | rfl | rfl <;> exact z.h.2.1 _ (by omega)
  have hrb : Hid (∀ z : InW I, Calls Try.prog 19 #[.int .i64 v] z.w fun e w' => e = .returned (.string (byS v)) ∧ I w') := fun z =>
    (refBytes_any v z.w).mono fun e w' ⟨he, hw⟩ => ⟨he, by
      subst hw
      have hl := z.h.2.2
      exact ⟨z.h.1.alloc (by omega) _, fun j hj => by rw [World.cell?_of_block (w := z.w) (((Below.refl z.w.heap.size z.w).alloc (Nat.le_refl _) _).block _ hl)]; exact z.h.2.1 j hj, by simp; omega⟩⟩
  have hIB : Hid (∀ z : InW I, Below w0.heap.size w0 z.w) := fun z => z.h.1
  generalize byS v = S at *
  clear_value I
  clear C1 B2 L1
  have hd : decide (4 ≤ (b.size : Int)) = false := by simp; omega
  refine wp_region_in (by kernel_rfl) (by kernel_rfl) hI ?_
  repeat (go_big_quiet_step (first
    | (go_at_call 19; exact callIn (hrb.out _))
    | (go_at_call 13; exact callSame (refOf_any' HV.out _))))
  refine wpQuiet_nil ?_
  rintro _ ⟨z, rfl⟩
  clear hrb HV hcv hI
  go_wp2_with fail
  go_ret
  exact ⟨rfl, hIB.out z⟩

theorem bytes_walk (v : Int) (b : ByteArray) (w : World) :
    Calls Try.prog 4 #[.int .i64 v, .string b] w fun e w' => e = .returned (.bool true) ∧ Below w.heap.size w w' := by
  by_cases h : 20 < b.size
  · exact bytes_big v b w h
  · by_cases h4 : 4 ≤ b.size
    · exact bytes_long v b w (by omega) h4
    · exact bytes_short v b w (by omega) (by omega)

end Go.Proofs.Ytndekmhgpcibdaa

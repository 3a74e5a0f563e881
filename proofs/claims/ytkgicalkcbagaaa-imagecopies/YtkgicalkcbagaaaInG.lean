/- The walks of instr's readOne and Read. -/
import Derived.Test.YtkgicalkcbagaaaInF
import Derived.BigRegion
import Derived.Deep.RegionHeld3
namespace Go.Proofs.Ytkgicalkcbagaaa
open Go.RowKit

theorem gb_extract (b : ByteArray) (i k j : Nat) (h : i + j < k) (hk : k ≤ b.size) : gb (b.extract i k) j = gb b (i + j) := by
  unfold gb
  have h1 : i + j < b.data.size := by have : b.data.size = b.size := rfl; omega
  have e : (b.extract i k).data[j]? = b.data[i + j]? := by
    have : (b.extract i k).data = b.data.extract i k := by simp
    rw [this, Array.getElem?_extract]
    rw [if_pos (by have : b.data.size = b.size := rfl; omega)]
  rw [e]
theorem strRow (w : World) (b : ByteArray) (c : Nat) (f : Nat × Nat) (j : Nat) (hj : j < b.size) :
    (w.alloc (.cells (bytesRow b c) 5 f)).cell? ⟨w.heap.size, j, none⟩ = some (.int .u8 (gb b j)) := by
  have hj' : j < b.data.size := hj
  have e : (w.alloc (.cells (bytesRow b c) 5 f)).heap[w.heap.size]? = some (.cells (bytesRow b c) 5 f) := by
    show (w.heap.push _)[w.heap.size]? = _
    simp
  unfold World.cell?
  rw [e]
  show (bytesRow b c)[j]? = _
  unfold bytesRow gb
  rw [Array.getElem?_append_left (by simpa using hj')]
  rw [Array.getElem?_map, Array.getElem?_eq_getElem hj']
  rfl

theorem conv_str (t : ByteArray) (n : Nat) (hn : t.size = n) (w : World) : ∃ cp w', (convert 9 50 (.string t)).run Try.prog w = .ok (.slice (some ⟨w.heap.size, 0, none⟩) n cp) w' ∧ n ≤ cp ∧ (∀ j, j < n → w'.cell? ⟨w.heap.size, j, none⟩ = some (.int .u8 (gb t j))) ∧ Below w.heap.size w w' := by
  subst hn
  refine ⟨_, _, run_bytes_of_string (P := Try.prog) w 9 50 5 t Try.underS Try.underlying50 Try.under8, grownCap_ge w t.size 0 5, fun j hj => ?_, ((Below.refl _ _).drew).alloc (Nat.le_refl _) _⟩
  exact strRow w.drew t _ _ j hj

/-- The instruction whose bytes stand in s from a on. -/
def insOf (s : ByteArray) (a : Nat) : Ins := ⟨gb s a, gb s (a + 1), rdN (fun j => gb s (a + 3 + j)), gb s (a + 2)⟩
theorem insOf_extract (s : ByteArray) (a : Nat) (h : a + 7 ≤ s.size) : insOf (s.extract a (a + 7)) 0 = insOf s a := by
  unfold insOf rdN
  simp only [Nat.zero_add, Nat.add_zero]
  rw [gb_extract s a (a + 7) 0 (by omega) h, gb_extract s a (a + 7) 1 (by omega) h, gb_extract s a (a + 7) 2 (by omega) h, gb_extract s a (a + 7) 3 (by omega) h, gb_extract s a (a + 7) (3 + 1) (by omega) h, gb_extract s a (a + 7) (3 + 2) (by omega) h, gb_extract s a (a + 7) (3 + 3) (by omega) h]
  rfl

set_option maxRecDepth 100000 in
set_option maxHeartbeats 2000000 in
theorem readOne_core (s t : ByteArray) (x0 x1 x2 x : Int) (w : World) (hs : s.size = 7) (ht : s.extract 3 7 = t) (htl : t.size = 4) (hx : Hid (rdN (gb t) = x)) (g0 : 0 ≤ x0 ∧ x0 < 256) (g1 : 0 ≤ x1 ∧ x1 < 256) (g2 : 0 ≤ x2 ∧ x2 < 256)
    (h0 : ∀ w, (Instr.index 9 (.string s) (.int .i64 0)).run Try.prog w = .ok (.int .u8 x0) w) (h1 : ∀ w, (Instr.index 9 (.string s) (.int .i64 1)).run Try.prog w = .ok (.int .u8 x1) w)
    (h2 : ∀ w, (Instr.index 9 (.string s) (.int .i64 2)).run Try.prog w = .ok (.int .u8 x2) w) :
    Calls Try.prog 50 #[.string s] w fun e w' => e = .returned (.agg #[.int .i64 x0, .int .i64 x1, .int .i64 x, .int .i64 x2]) ∧ Below w.heap.size w w' := by
  obtain ⟨cp, w2, hcv, hcp, hC, hA⟩ := conv_str t 4 htl (w.alloc (.cells #[.int .i64 0, .int .i64 0, .int .i64 0, .int .i64 0] 47))
  have hz : (w.alloc (.cells #[.int .i64 0, .int .i64 0, .int .i64 0, .int .i64 0] 47)).heap.size = w.heap.size + 1 := by simp
  rw [hz] at hcv hC hA
  have HR : Hid (w2.rowIs w.heap.size 47 4 (fun _ => .int .i64 0)) := by
    have r0 := World.rowIs_alloc w #[.int .i64 0, .int .i64 0, .int .i64 0, .int .i64 0] 47 (fun _ => .int .i64 0) (fun k hk => by
      have : k = 0 ∨ k = 1 ∨ k = 2 ∨ k = 3 := by simp at hk; omega
      rcases this with rfl | rfl | rfl | rfl <;> rfl)
    exact r0.of_block (hA.block _ (by omega))
  have HB : Hid (∃ B, B = w.heap.size ∧ Below B w w2) := ⟨_, rfl, ((Below.refl _ _).alloc (Nat.le_refl _) _).trans (hA.mono (by omega))⟩
  have HC : Hid (∀ j, j < 4 → w2.cell? ⟨w.heap.size + 1, j, none⟩ = some (.int .u8 (gb t j))) := hC
  clear hA hC hz htl
  go_enter Try.func50, Try.ntmps50
  go_wp2_with fail
  refine (read_any (w.heap.size + 1) 4 cp (gb t) w2 (by omega) hcp HC.out (gb_range t)).mono ?_
  rintro e wx ⟨rfl, rfl⟩
  rw [hx.out]
  have c0 := HR.out.cell (i := 0) (by decide)
  have c1 := HR.out.cell (i := 1) (by decide)
  have c2 := HR.out.cell (i := 2) (by decide)
  have c3 := HR.out.cell (i := 3) (by decide)
  have f0 := HR.out.frozen 0
  have f1 := HR.out.frozen 1
  have f2 := HR.out.frozen 2
  have f3 := HR.out.frozen 3
  clear HC hcp hcv hx
  go_upto_region 2 with (fail)
  have hl := HR.out.lt
  have e0 : IntKind.i64.wrap x0 = x0 := by rw [IntKind.wrap_i64]; omega
  have e1 : IntKind.i64.wrap x1 = x1 := by rw [IntKind.wrap_i64]; omega
  have e2 : IntKind.i64.wrap x2 = x2 := by rw [IntKind.wrap_i64]; omega
  obtain ⟨B, hB, HB⟩ := HB.out
  have HB' : Hid (Below B w wx) := HB
  have hB' : Hid (B = w.heap.size) := hB
  clear HB hB
  generalize hbx : w.heap.size = bx at *
  go_region_held3 (fun _ => True) (trivial) (fail)
  all_goals
    go_wp2_with fail
    refine bodyPost_ret (v := .agg #[.int .i64 x0, .int .i64 x1, .int .i64 x, .int .i64 x2]) (by simp [results, go_sem, c0, c1, c2, c3]) rfl ?_
    refine ⟨rfl, ?_⟩
    rw [hbx]
    have hb : Below bx w wx := hB'.out ▸ HB'.out
    with_reducible exact ((((hb.setCell (Nat.le_refl _) _).setCell (Nat.le_refl _) _).setCell (Nat.le_refl _) _).setCell (Nat.le_refl _) _).drew

theorem readOne_any (s : ByteArray) (hs : s.size = 7) (w : World) : Calls Try.prog 50 #[.string s] w fun e w' => e = .returned (insOf s 0).v ∧ Below w.heap.size w w' := by
  have hx : Hid (rdN (gb (s.extract 3 7)) = rdN (fun j => gb s (0 + 3 + j))) := by
    unfold Hid rdN
    rw [gb_extract s 3 7 0 (by omega) (by omega), gb_extract s 3 7 1 (by omega) (by omega), gb_extract s 3 7 2 (by omega) (by omega), gb_extract s 3 7 3 (by omega) (by omega)]
  exact readOne_core s _ (gb s 0) (gb s 1) (gb s 2) _ w hs rfl (by simp [ByteArray.size_extract]; omega) hx (gb_range s 0) (gb_range s 1) (gb_range s 2) (run_idx s 0 (by omega)) (run_idx s 1 (by omega)) (run_idx s 2 (by omega))

end Go.Proofs.Ytkgicalkcbagaaa

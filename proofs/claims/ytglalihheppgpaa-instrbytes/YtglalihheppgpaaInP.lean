/- The walk of the document's ReadCode. -/
import Derived.Test.YtglalihheppgpaaInI
import Derived.Test.YtglalihheppgpaaQi
import Derived.Deep.RegionHeld3
import Derived.Deep.DeepCutAuto
import Derived.OneCell
namespace Go.Proofs.Ytglalihheppgpaa
open Go.RowKit
set_option linter.unusedSimpArgs false

/-- What the document asks of bytes that were read. -/
theorem fit_ref (s : ByteArray) (a : Nat) : fit (insOf s a) = (kn (insOf s a).o && unB (ro (insOf s a).o).1 (ro (insOf s a).o).2.1 (ro (insOf s a).o).2.2 (insOf s a).a (insOf s a).b (insOf s a).c) := by
  have h1 := gb_range s (a + 1)
  have h2 := gb_range s (a + 2)
  have e1 : byB (insOf s a).a = true := by unfold byB insOf; simp; omega
  have e2 : byB (insOf s a).c = true := by unfold byB insOf; simp; omega
  have e3 : (wrap32 (insOf s a).b == (insOf s a).b) = true := by simp [insOf, rdN, w32_idem]
  unfold fit fitB
  rw [e1, e2, e3]
  simp
theorem run_idx' {s : ByteArray} {a : Nat} {x : Int} (h : a < s.size) (hx : gb s a = x) (w : World) : (Instr.index 9 (.string s) (.int .i64 (a : Int))).run Try.prog w = .ok (.int .u8 x) w := hx ▸ run_idx s a h w

/-- What was read so far, and one instruction in a box. -/
structure Rk (w wk : World) (bx : Nat) (i : Ins) (va : Option Addr) (vc j : Nat) (s : ByteArray) : Prop where
  own : wk.ownsRow w.heap.size 23 4 (.slice va j vc) j (flI (rdL s j))
  box : wk.rowIs bx 23 4 (fun k => i.cs.getD k undef)
  low : Below w.heap.size w wk
theorem rk_new {w wk : World} {i : Ins} {va : Option Addr} {vc j : Nat} {s : ByteArray} (ho : wk.ownsRow w.heap.size 23 4 (.slice va j vc) j (flI (rdL s j))) (hb : Below w.heap.size w wk) : Rk w (wk.alloc (.cells #[.int .i64 i.o, .int .i64 i.a, .int .i64 i.b, .int .i64 i.c] 23)) wk.heap.size i va vc j s := by
  refine ⟨ho.alloc _, ?_, hb.alloc hb.size _⟩
  refine World.rowIs_alloc wk #[.int .i64 i.o, .int .i64 i.a, .int .i64 i.b, .int .i64 i.c] 23 (fun k => i.cs.getD k undef) (fun k hk => ?_)
  have : k = 0 ∨ k = 1 ∨ k = 2 ∨ k = 3 := by simp at hk; omega
  rcases this with rfl | rfl | rfl | rfl <;> rfl

theorem zero_row (w : World) : (w.alloc (.cells #[.int .i64 0, .int .i64 0, .int .i64 0, .int .i64 0] 23)).rowIs w.heap.size 23 4 (fun _ => .int .i64 0) := by
  refine World.rowIs_alloc w #[.int .i64 0, .int .i64 0, .int .i64 0, .int .i64 0] 23 (fun _ => .int .i64 0) (fun k hk => ?_)
  have : k = 0 ∨ k = 1 ∨ k = 2 ∨ k = 3 := by simp at hk; omega
  rcases this with rfl | rfl | rfl | rfl <;> rfl
theorem rk_set {w wk : World} {bx : Nat} {i : Ins} {va : Option Addr} {vc j : Nat} {s : ByteArray} (ho : wk.ownsRow w.heap.size 23 4 (.slice va j vc) j (flI (rdL s j))) (hb : Below w.heap.size w wk) (hx : wk.rowIs bx 23 4 (fun _ => .int .i64 0)) (hbx : w.heap.size ≤ bx) (hne : (Value.slice va j vc).ownBlock ≠ some bx) :
    Rk w ((((wk.setCell ⟨bx, 0, none⟩ (.int .i64 i.o)).setCell ⟨bx, 1, none⟩ (.int .i64 i.a)).setCell ⟨bx, 2, none⟩ (.int .i64 i.b)).setCell ⟨bx, 3, none⟩ (.int .i64 i.c)) bx i va vc j s := by
  refine ⟨ownsRow_setCell_other (ownsRow_setCell_other (ownsRow_setCell_other (ownsRow_setCell_other ho hne _) hne _) hne _) hne _, ?_, (((hb.setCell hbx _).setCell hbx _).setCell hbx _).setCell hbx _⟩
  refine ((((hx.set 0 (.int .i64 i.o)).set 1 (.int .i64 i.a)).set 2 (.int .i64 i.b)).set 3 (.int .i64 i.c)).congr fun k hk => ?_
  have : k = 0 ∨ k = 1 ∨ k = 2 ∨ k = 3 := by omega
  rcases this with rfl | rfl | rfl | rfl <;> rfl

theorem refWord' {t : ByteArray} {y : Int} (ht : t.size = 4) (hy : Hid (rdN (gb t) = y)) (w : World) : Calls Try.prog 60 #[.string t] w fun e w' => e = .returned (.int .i64 y) ∧ ∃ q, w' = w.drewN q :=
  refWord_any t (gb t 0) (gb t 1) (gb t 2) (gb t 3) y w (gb_range t 0) (gb_range t 1) (gb_range t 2) (gb_range t 3) (run_idx t 0 (by omega)) (run_idx t 1 (by omega)) (run_idx t 2 (by omega)) (run_idx t 3 (by omega)) hy
theorem word_at {s : ByteArray} {a : Nat} {i : Ins} (h : a + 7 ≤ s.size) (hi : insOf s a = i) (w : World) : Calls Try.prog 60 #[.string (s.extract (a + 3) (a + 7))] w fun e w' => e = .returned (.int .i64 i.b) ∧ ∃ q, w' = w.drewN q := by
  refine refWord' (by simp [ByteArray.size_extract]; omega) ?_ w
  rw [← hi]
  unfold Hid rdN insOf
  rw [gb_extract s (a + 3) (a + 7) 0 (by omega) h, gb_extract s (a + 3) (a + 7) 1 (by omega) h, gb_extract s (a + 3) (a + 7) 2 (by omega) h, gb_extract s (a + 3) (a + 7) 3 (by omega) h]
  rfl

theorem wraps {a : Nat} (h : a ≤ 7000) : IntKind.i64.wrap ((a : Int) + 1) = (a : Int) + 1 ∧ IntKind.i64.wrap ((a : Int) + 2) = (a : Int) + 2 ∧ IntKind.i64.wrap ((a : Int) + 3) = (a : Int) + 3 ∧ IntKind.i64.wrap ((a : Int) + 7) = (a : Int) + 7 := by
  rw [IntKind.wrap_i64, IntKind.wrap_i64, IntKind.wrap_i64, IntKind.wrap_i64]
  omega
theorem slice_run {s : ByteArray} {a : Nat} (h : a + 7 ≤ s.size) (w : World) : (Instr.slice 9 (.string s) (some (.int .i64 ((a : Int) + 3))) (some (.int .i64 ((a : Int) + 7))) none).run Try.prog w = .ok (.string (s.extract (a + 3) (a + 7))) w := by
  rw [run_slice_string_if w _ _ _ _ _ _ Try.underS, if_pos (by omega), if_pos (by omega)]
  rfl

set_option maxRecDepth 100000 in
set_option maxHeartbeats 8000000 in
theorem refRead_core (s : ByteArray) (n : Nat) (w : World) (hs : s.size = 7 * n) (hn : n ≤ 1000) :
    Calls Try.prog 24 #[.string s] w fun e w' => ∃ v, e = .returned (.tuple #[v, .bool (rdOk s)]) ∧ w'.ownsRow w.heap.size 23 4 v (readR s).length (flI (readR s)) ∧ Below w.heap.size w w' := by
  obtain ⟨i0, hi, hz0, hz1, hz2⟩ := info_parts Try.info23
  have hm : (s.size : Int) % 7 = 0 := by omega
  have hszB : s.size ≤ 7000 := by omega
  have HS : Hid (s.size = 7 * n) := hs
  clear hs
  obtain ⟨ok, hok⟩ : ∃ ok, Hid (rdOk s = ok) := ⟨_, rfl⟩
  rw [hok.out]
  go_enter Try.func24, Try.ntmps24
  go_wp2_with fail
  clear hm
  go_loopw [4, 5] (fun v k wr => ∃ j a : Nat, j ≤ n ∧ a = 7 * j ∧ k = .int .i64 a ∧ wr.ownsRow w.heap.size 23 4 v j (flI (rdL s j)) ∧ (∀ x ∈ rdL s j, fit x = true) ∧ Below w.heap.size w wr) (fun _ k _ => 7 * n - (intOf k).toNat)
  case atStart => exact ⟨0, 0, Nat.zero_le _, rfl, rfl, World.ownsRow_nil _ _ _ _, fun x hx => by simp [rdL] at hx, Below.refl _ _⟩
  case round =>
    obtain ⟨j, a, hj, ha, rfl, hown, hall, hB⟩ := hrel
    obtain ⟨va, vc, rfl⟩ : ∃ va vc, u4 = .slice va j vc := by
      rcases hown.2 with ⟨rfl, rfl⟩ | ⟨g, cap, cur, rfl, _⟩
      · exact ⟨none, 0, rfl⟩
      · exact ⟨_, _, rfl⟩
    have HA : Hid (∀ x ∈ rdL s j, fit x = true) := hall
    have HO : Hid (wr.ownsRow w.heap.size 23 4 (.slice va j vc) j (flI (rdL s j))) := hown
    have HB : Hid (Below w.heap.size w wr) := hB
    have HN : Hid (a = 7 * j) := ha
    clear hall hown hB ha
    by_cases hjl : j < n
    · have haB : (a : Int) + 7 ≤ (s.size : Int) := by have := HS.out; have := HN.out; omega
      have haI : (a : Int) < (s.size : Int) := by omega
      have haN : a + 7 ≤ s.size := by omega
      obtain ⟨i, hi'⟩ : ∃ i, Hid (insOf s a = i) := ⟨_, rfl⟩
      have ho := gb_range s a
      have hA1 := gb_range s (a + 1)
      have hC1 := gb_range s (a + 2)
      have go : gb s a = i.o := by rw [← hi'.out]; rfl
      have ga : gb s (a + 1) = i.a := by rw [← hi'.out]; rfl
      have gc : gb s (a + 2) = i.c := by rw [← hi'.out]; rfl
      rw [go] at ho
      rw [ga] at hA1
      rw [gc] at hC1
      have r0 := run_idx' (by omega) go
      have r1 := run_idx' (by omega) ga
      have r2 := run_idx' (by omega) gc
      simp only [Int.natCast_add, Int.cast_ofNat_Int] at r1 r2
      have w0 : IntKind.i64.wrap i.o = i.o := by rw [IntKind.wrap_i64]; omega
      have w1 : IntKind.i64.wrap i.a = i.a := by rw [IntKind.wrap_i64]; omega
      have w2 : IntKind.i64.wrap i.c = i.c := by rw [IntKind.wrap_i64]; omega
      clear go ga gc
      go_upto_region 7 with (fail)
      obtain ⟨x1, x2, x3, x7⟩ := wraps (a := a) (by omega)
      have hsl := slice_run (s := s) (a := a) haN
      go_cut [6] (fun v wk => ∃ bx, v = .pointer (some ⟨bx, 0, none⟩) ∧ Hid (Rk w wk bx i va vc j s))
      case first =>
       refine wp_region_held_drew (S := fun _ => True) (by kernel_rfl) trivial (fun hHeld => ?_)
       refine wpAnyH_take (i := 0) (oi := _) (v := ?v0) rfl (by kernel_rfl) (by kernel_rfl) (by kernel_rfl) (fun _ _ _ h => h) (Or.inl ⟨by rfl, ?hy0⟩) (by assumption) ?rest0
       case hy0 =>
         intro w hSw
         go_simp
         try with_reducible rfl
       try simp only [Act.put, List.setIfInBounds_toArray, List.set_cons_zero, List.set_cons_succ]
       refine wpAnyH_take (i := 1) (oi := _) (v := ?v1) rfl (by kernel_rfl) (by kernel_rfl) (by kernel_rfl) (fun _ _ _ h => h) (Or.inl ⟨by rfl, ?hy1⟩) (by assumption) ?rest1
       case hy1 =>
         intro w hSw
         go_simp
         try with_reducible rfl
       try simp only [Act.put, List.setIfInBounds_toArray, List.set_cons_zero, List.set_cons_succ]
       refine wpAnyH_take (i := 2) (oi := _) (v := ?v2) rfl (by kernel_rfl) (by kernel_rfl) (by kernel_rfl) (fun _ _ _ h => h) (Or.inl ⟨by rfl, ?hy2⟩) (by assumption) ?rest2
       case hy2 =>
         intro w hSw
         go_simp
         try with_reducible rfl
       try simp only [Act.put, List.setIfInBounds_toArray, List.set_cons_zero, List.set_cons_succ]
       refine wpAnyH_take (i := 3) (oi := _) (v := ?v3) rfl (by kernel_rfl) (by kernel_rfl) (by kernel_rfl) (fun _ _ _ h => h) (Or.inl ⟨by rfl, ?hy3⟩) (by assumption) ?rest3
       case hy3 =>
         intro w hSw
         go_simp
         try with_reducible rfl
       try simp only [Act.put, List.setIfInBounds_toArray, List.set_cons_zero, List.set_cons_succ]
       refine wpAnyH_take (i := 4) (oi := _) (v := ?v4) rfl (by kernel_rfl) (by kernel_rfl) (by kernel_rfl) (fun _ _ _ h => h) (Or.inl ⟨by rfl, ?hy4⟩) (by assumption) ?rest4
       case hy4 =>
         intro w hSw
         go_simp
         try with_reducible rfl
       try simp only [Act.put, List.setIfInBounds_toArray, List.set_cons_zero, List.set_cons_succ]
       refine wpAnyH_take (i := 5) (oi := _) (v := ?v5) rfl (by kernel_rfl) (by kernel_rfl) (by kernel_rfl) (fun _ _ _ h => h) (Or.inl ⟨by rfl, ?hy5⟩) (by assumption) ?rest5
       case hy5 =>
         intro w hSw
         go_simp
         try with_reducible rfl
       try simp only [Act.put, List.setIfInBounds_toArray, List.set_cons_zero, List.set_cons_succ]
       refine wpAnyH_take (i := 6) (oi := _) (v := ?v6) rfl (by kernel_rfl) (by kernel_rfl) (by kernel_rfl) (fun _ _ _ h => h) (Or.inl ⟨by rfl, ?hy6⟩) (by assumption) ?rest6
       case hy6 =>
         intro w hSw
         go_simp
         try with_reducible rfl
       try simp only [Act.put, List.setIfInBounds_toArray, List.set_cons_zero, List.set_cons_succ]
       refine wpAnyH_take (i := 7) (oi := _) (v := ?v7) rfl (by kernel_rfl) (by kernel_rfl) (by kernel_rfl) (fun _ _ _ h => h) (Or.inl ⟨by rfl, ?hy7⟩) (by assumption) ?rest7
       case hy7 =>
         intro w hSw
         go_simp
         try with_reducible rfl
       try simp only [Act.put, List.setIfInBounds_toArray, List.set_cons_zero, List.set_cons_succ]
       refine wpAnyH_take (i := 8) (oi := _) (v := ?v8) rfl (by kernel_rfl) (by kernel_rfl) (by kernel_rfl) (fun _ _ _ h => h) (Or.inl ⟨by rfl, ?hy8⟩) (by assumption) ?rest8
       case hy8 =>
         intro w hSw
         go_simp
         try with_reducible rfl
       try simp only [Act.put, List.setIfInBounds_toArray, List.set_cons_zero, List.set_cons_succ]
       refine wpAnyH_take (i := 9) (oi := _) (v := ?v9) rfl (by kernel_rfl) (by kernel_rfl) (by kernel_rfl) (fun _ _ _ h => h) (Or.inl ⟨by rfl, ?hy9⟩) (by assumption) ?rest9
       case hy9 =>
         intro w hSw
         go_simp
         try with_reducible rfl
       try simp only [Act.put, List.setIfInBounds_toArray, List.set_cons_zero, List.set_cons_succ]
       refine wpAnyH_take (i := 10) (oi := _) (v := ?v10) rfl (by kernel_rfl) (by kernel_rfl) (by kernel_rfl) (fun _ _ _ h => h) (Or.inl ⟨by rfl, ?hy10⟩) (by assumption) ?rest10
       case hy10 =>
         intro w hSw
         go_simp
         try with_reducible rfl
       try simp only [Act.put, List.setIfInBounds_toArray, List.set_cons_zero, List.set_cons_succ]
       refine wpAnyH_take (i := 11) (oi := _) (v := ?v11) rfl (by kernel_rfl) (by kernel_rfl) (by kernel_rfl) (fun _ _ _ h => h) (Or.inl ⟨by rfl, ?hy11⟩) (by assumption) ?rest11
       case hy11 =>
         intro w hSw
         go_simp
         try with_reducible rfl
       try simp only [Act.put, List.setIfInBounds_toArray, List.set_cons_zero, List.set_cons_succ]
       refine wpAnyH_take (i := 12) (oi := _) (v := ?v12) rfl (by kernel_rfl) (by kernel_rfl) (by kernel_rfl) (fun _ _ _ h => h) (Or.inl ⟨by rfl, ?hy12⟩) (by assumption) ?rest12
       case hy12 =>
         intro w hSw
         go_simp
         try with_reducible rfl
       try simp only [Act.put, List.setIfInBounds_toArray, List.set_cons_zero, List.set_cons_succ]
       refine wpAnyH_take (i := 13) (oi := _) (v := ?v13) rfl (by kernel_rfl) (by kernel_rfl) (by kernel_rfl) (fun _ _ _ h => h) (Or.inl ⟨by rfl, ?hy13⟩) (by assumption) ?rest13
       case hy13 =>
         intro w hSw
         go_simp
         try with_reducible rfl
       try simp only [Act.put, List.setIfInBounds_toArray, List.set_cons_zero, List.set_cons_succ]
       refine wpAnyH_take (i := 14) (oi := _) (v := ?v14) rfl (by kernel_rfl) (by kernel_rfl) (by kernel_rfl) (fun _ _ _ h => h) (Or.inl ⟨by rfl, ?hy14⟩) (by assumption) ?rest14
       case hy14 =>
         intro w hSw
         go_simp
         try with_reducible rfl
       try simp only [Act.put, List.setIfInBounds_toArray, List.set_cons_zero, List.set_cons_succ]
       refine wpAnyH_take (i := 16) (oi := _) (v := ?v16) rfl (by kernel_rfl) (by kernel_rfl) (by kernel_rfl) (fun _ _ _ h => h) (Or.inl ⟨by rfl, ?hy16⟩) (by assumption) ?rest16
       case hy16 =>
         intro w hSw
         go_simp
         try with_reducible rfl
       try simp only [Act.put, List.setIfInBounds_toArray, List.set_cons_zero, List.set_cons_succ]
       refine wpAnyH_take (i := 17) (oi := _) (v := ?v17) rfl (by kernel_rfl) (by kernel_rfl) (by kernel_rfl) (fun _ _ _ h => h) (Or.inl ⟨by rfl, ?hy17⟩) (by assumption) ?rest17
       case hy17 =>
         intro w hSw
         go_simp
         try with_reducible rfl
       try simp only [Act.put, List.setIfInBounds_toArray, List.set_cons_zero, List.set_cons_succ]
       refine wpAnyH_take (i := 18) (oi := _) (v := ?v18) rfl (by kernel_rfl) (by kernel_rfl) (by kernel_rfl) (fun _ _ _ h => h) (Or.inl ⟨by rfl, ?hy18⟩) (by assumption) ?rest18
       case hy18 =>
         intro w hSw
         go_simp
         try with_reducible rfl
       try simp only [Act.put, List.setIfInBounds_toArray, List.set_cons_zero, List.set_cons_succ]
       refine wpAnyH_take (i := 19) (oi := _) (v := ?v19) rfl (by kernel_rfl) (by kernel_rfl) (by kernel_rfl) (fun _ _ _ h => h) (Or.inl ⟨by rfl, ?hy19⟩) (by assumption) ?rest19
       case hy19 =>
         intro w hSw
         go_simp
         try with_reducible rfl
       try simp only [Act.put, List.setIfInBounds_toArray, List.set_cons_zero, List.set_cons_succ]
       refine wpAnyH_take (i := 20) (oi := _) (v := ?v20) rfl (by kernel_rfl) (by kernel_rfl) (by kernel_rfl) (fun _ _ _ h => h) (Or.inl ⟨by rfl, ?hy20⟩) (by assumption) ?rest20
       case hy20 =>
         intro w hSw
         go_simp
         try with_reducible rfl
       try simp only [Act.put, List.setIfInBounds_toArray, List.set_cons_zero, List.set_cons_succ]
       refine wpAnyH_ready (rs := [15, 22]) (by kernel_rfl) (by simp) ?_
       refine AllReadyH.cons (o := _) rfl (fun K hK => ?_) (AllReadyH.cons (o := _) rfl (fun K hK => ?_) AllReadyH.nil)
       · go_simp
         go_at_call 60
         refine (word_at haN hi'.out _).mono ?_
         rintro e w3 ⟨rfl, q, hq⟩
         have HR : Hid (w3.ownsRow w.heap.size 23 4 (.slice va j vc) j (flI (rdL s j)) ∧ Below w.heap.size w w3) := by rw [hq]; exact ⟨HO.out, below_drewN HB.out.drew q⟩
         clear hq HO HB
         dsimp only
         refine hK.out _ _ trivial (fun hHeld => ?_)
         clear hK K
         try simp only [Act.put, List.setIfInBounds_toArray, List.set_cons_zero, List.set_cons_succ]
         refine wpAnyH_take (i := 21) (oi := _) (v := ?v21) rfl (by kernel_rfl) (by kernel_rfl) (by kernel_rfl) (fun _ _ _ h => h) (Or.inl ⟨by rfl, ?hy21⟩) (by assumption) ?rest21
         case hy21 =>
           intro w hSw
           go_simp
           try with_reducible rfl
         try simp only [Act.put, List.setIfInBounds_toArray, List.set_cons_zero, List.set_cons_succ]
         refine wpAnyH_ready (rs := [22]) (by kernel_rfl) (by simp) ?_
         refine AllReadyH.cons (o := _) rfl (fun K hK => ?_) AllReadyH.nil
         go_simp
         refine hK.out _ _ trivial (fun hHeld => ?_)
         clear hK K
         try simp only [Act.put, List.setIfInBounds_toArray, List.set_cons_zero, List.set_cons_succ]
         refine wpAnyH_ready (rs := [23]) (by kernel_rfl) (by simp) ?_
         refine AllReadyH.cons (o := _) rfl (fun K hK => ?_) AllReadyH.nil
         go_simp
         refine hK.out _ _ trivial (fun hHeld => ?_)
         clear hK K
         try simp only [Act.put, List.setIfInBounds_toArray, List.set_cons_zero, List.set_cons_succ]
         refine wpAnyH_done (by kernel_rfl) ?_ _
         go_wp2
         go_meet
         case rel => exact ⟨_, rfl, rk_new HR.out.1 HR.out.2⟩
       · go_simp
         refine hK.out _ _ trivial (fun hHeld => ?_)
         clear hK K
         try simp only [Act.put, List.setIfInBounds_toArray, List.set_cons_zero, List.set_cons_succ]
         refine wpAnyH_ready (rs := [15]) (by kernel_rfl) (by simp) ?_
         refine AllReadyH.cons (o := _) rfl (fun K hK => ?_) AllReadyH.nil
         go_simp
         go_at_call 60
         refine (word_at haN hi'.out _).mono ?_
         rintro e w3 ⟨rfl, q, hq⟩
         have HR : Hid (w3.ownsRow w.heap.size 23 4 (.slice va j vc) j (flI (rdL s j)) ∧ Below w.heap.size w w3 ∧ w.heap.size ≤ wr.heap.size) := by rw [hq]; exact ⟨HO.out.alloc _, below_drewN (HB.out.alloc HB.out.size _).drew q, HB.out.size⟩
         have HX : Hid (w3.rowIs wr.heap.size 23 4 (fun _ => .int .i64 0)) := by rw [hq]; exact zero_row wr
         have HNE : Hid ((Value.slice va j vc).ownBlock ≠ some wr.heap.size) := fun e => absurd (HO.out.lt _ e).2 (Nat.lt_irrefl _)
         have k0 := HX.out.cell (i := 0) (by decide)
         have k1 := HX.out.cell (i := 1) (by decide)
         have k2 := HX.out.cell (i := 2) (by decide)
         have k3 := HX.out.cell (i := 3) (by decide)
         have f0 := HX.out.frozen 0
         have f1 := HX.out.frozen 1
         have f2 := HX.out.frozen 2
         have f3 := HX.out.frozen 3
         clear hq HO HB
         dsimp only
         refine hK.out _ _ trivial (fun hHeld => ?_)
         clear hK K
         try simp only [Act.put, List.setIfInBounds_toArray, List.set_cons_zero, List.set_cons_succ]
         refine wpAnyH_take (i := 21) (oi := _) (v := ?v21b) rfl (by kernel_rfl) (by kernel_rfl) (by kernel_rfl) (fun _ _ _ h => h) (Or.inl ⟨by rfl, ?hy21b⟩) (by assumption) ?rest21b
         case hy21b =>
           intro w hSw
           go_simp
           try with_reducible rfl
         try simp only [Act.put, List.setIfInBounds_toArray, List.set_cons_zero, List.set_cons_succ]
         refine wpAnyH_ready (rs := [23]) (by kernel_rfl) (by simp) ?_
         refine AllReadyH.cons (o := _) rfl (fun K hK => ?_) AllReadyH.nil
         go_simp
         refine hK.out _ _ trivial (fun hHeld => ?_)
         clear hK K k0 k1 k2 k3 f0 f1 f2 f3
         try simp only [Act.put, List.setIfInBounds_toArray, List.set_cons_zero, List.set_cons_succ]
         refine wpAnyH_done (by kernel_rfl) ?_ _
         go_wp2
         go_meet
         case rel => exact ⟨_, rfl, rk_set HR.out.1 HR.out.2.1 HX.out HR.out.2.2 HNE.out⟩
      case rest =>
        obtain ⟨bx, rfl, hrk⟩ := hcut
        have HK : Hid (Rk w wc bx i va vc j s) := hrk
        have c0 : wc.cell? ⟨bx, 0, none⟩ = some (.int .i64 i.o) := HK.out.box.cell (i := 0) (by decide)
        have c1 : wc.cell? ⟨bx, 1, none⟩ = some (.int .i64 i.a) := HK.out.box.cell (i := 1) (by decide)
        have c2 : wc.cell? ⟨bx, 2, none⟩ = some (.int .i64 i.b) := HK.out.box.cell (i := 2) (by decide)
        have c3 : wc.cell? ⟨bx, 3, none⟩ = some (.int .i64 i.c) := HK.out.box.cell (i := 3) (by decide)
        have HFT : Hid (fit i = (kn i.o && unB (ro i.o).1 (ro i.o).2.1 (ro i.o).2.2 i.a i.b i.c)) := by
          have := fit_ref s a
          rw [hi'.out] at this
          exact this
        have HBAD : Hid (fit i = false → rdOk s = false) := fun h => rd_bad HS.out hjl (by rw [← HN.out, hi'.out]; exact h)
        clear hrk HO HB w0 w1 w2 x1 x2 x3 x7 hsl r0 r1 r2 ho hA1 hC1
        obtain ⟨kk, hkk⟩ : ∃ kk, Hid (kn i.o = kk) := ⟨_, rfl⟩
        obtain ⟨ub, hub⟩ : ∃ ub, Hid (unB (ro i.o).1 (ro i.o).2.1 (ro i.o).2.2 i.a i.b i.c = ub) := ⟨_, rfl⟩
        go_wp2_with fail
        refine (refKnown_any i.o _).mono ?_
        rintro e w5 ⟨rfl, hw5⟩
        rw [hkk.out, hw5]
        clear hw5
        cases kk with
        | false =>
          have hbad := HBAD.out (by rw [HFT.out, hkk.out]; rfl)
          have hr : Hid (readR s = [] ∧ false = ok) := by unfold Hid readR; rw [hbad, ← hok.out, hbad]; exact ⟨rfl, rfl⟩
          clear hbad
          go_wp2_with fail
          go_ret2
          refine ⟨.slice none 0 0, by rw [← hr.out.2]; rfl, ?_, HK.out.low⟩
          rw [hr.out.1]
          exact World.ownsRow_nil _ _ _ _
        | true =>
          go_wp2_with fail
          refine (refUnused_any i _).mono ?_
          rintro e w5 ⟨rfl, hB5⟩
          rw [hub.out]
          have HB5 : Hid (Below w.heap.size w w5) := HK.out.low.trans (hB5.mono HK.out.low.size)
          have HX5 : Hid (w5.rowIs bx 23 4 (fun k => i.cs.getD k undef)) := HK.out.box.of_block (hB5.block _ HK.out.box.lt)
          have HO5 : Hid (w5.ownsRow w.heap.size 23 4 (.slice va j vc) j (flI (rdL s j))) := (Ty.of_below (K := []) (B := 0) hB5).own HK.out.own (by simp)
          clear hB5 HK c0 c1 c2 c3
          cases ub with
          | false =>
            have hbad := HBAD.out (by rw [HFT.out, hkk.out, hub.out]; rfl)
            have hr : Hid (readR s = [] ∧ false = ok) := by unfold Hid readR; rw [hbad, ← hok.out, hbad]; exact ⟨rfl, rfl⟩
            clear hbad
            go_wp2_with fail
            go_ret2
            refine ⟨.slice none 0 0, by rw [← hr.out.2]; rfl, ?_, HB5.out⟩
            rw [hr.out.1]
            exact World.ownsRow_nil _ _ _ _
          | true =>
            have hf : fit i = true := by rw [HFT.out, hkk.out, hub.out]; rfl
            have HA' : Hid (∀ x ∈ rdL s (j + 1), fit x = true) := by
              intro x hx
              rcases List.mem_append.1 (show x ∈ rdL s j ++ [insOf s (7 * j)] from hx) with hx | hx
              · exact HA.out x hx
              · simp at hx; subst hx
                rw [← HN.out, hi'.out]; exact hf
            have HE : Hid (flI (rdL s (j + 1)) = flI (rdL s j) ++ i.cs) := by
              show flI (rdL s j ++ [insOf s (7 * j)]) = _
              rw [flI_app, ← HN.out, hi'.out]
              simp [flI]
            have c0 : w5.cell? ⟨bx, 0, none⟩ = some (.int .i64 i.o) := HX5.out.cell (i := 0) (by decide)
            have c1 : w5.cell? ⟨bx, 1, none⟩ = some (.int .i64 i.a) := HX5.out.cell (i := 1) (by decide)
            have c2 : w5.cell? ⟨bx, 2, none⟩ = some (.int .i64 i.b) := HX5.out.cell (i := 2) (by decide)
            have c3 : w5.cell? ⟨bx, 3, none⟩ = some (.int .i64 i.c) := HX5.out.cell (i := 3) (by decide)
            have HH : Hid ((∀ j' u, i.cs[j']? = some u → (w5.alloc (.cells #[.int .i64 i.o, .int .i64 i.a, .int .i64 i.b, .int .i64 i.c] 23)).cell? ((⟨w5.heap.size, 0, none⟩ : Addr).add j') = some u) ∧ (∀ u ∈ i.cs, u.oneCell' = true) ∧ j + 1 ≤ maxLen ∧ (j + 1) * 32 ≤ 140737488355328 ∧ w.heap.size ≤ (w5.alloc (.cells #[.int .i64 i.o, .int .i64 i.a, .int .i64 i.b, .int .i64 i.c] 23)).heap.size) := by
              refine ⟨fun j' u hu => ?_, fun u hu => ?_, by unfold maxLen; omega, by omega, by have := HB5.out.size; simp; omega⟩
              · rw [Go.WideShapes.add_plain, Nat.zero_add]
                refine cell_new w5 _ _ ?_
                rw [← hu]
                simp [Ins.cs]
              · simp [Ins.cs] at hu
                rcases hu with rfl | rfl | rfl | rfl <;> rfl
            clear hf HA HX5 HFT HBAD
            go_wp2_with (at_builtin; refine wpList_append_own _ rfl _ _ 43 rfl w.heap.size 23 i0 (.agg #[.int .i64 0, .int .i64 0, .int .i64 0, .int .i64 0]) 4 32 Try.underlying43 hi hz0 hz1 hz2 rfl (by decide) _ _ _ rfl (HO5.out.alloc _) ⟨w5.heap.size, 0, none⟩ 1 1 i.cs rfl rfl HH.out.1 HH.out.2.1 HH.out.2.2.1 HH.out.2.2.2.1 HH.out.2.2.2.2 ?_)
            · intro v6 w6 ho hg _
              have HO6 : Hid (w6.ownsRow w.heap.size 23 4 v6 (j + 1) (flI (rdL s (j + 1)))) := by unfold Hid; rw [HE.out]; exact ho
              have HB6 : Hid (Below w.heap.size w w6) := (HB5.out.alloc HB5.out.size _).grown hg (by have := HB5.out.size; simp; omega) (fun k hk => ((HO5.out.alloc (.cells #[.int .i64 i.o, .int .i64 i.a, .int .i64 i.b, .int .i64 i.c] 23)).lt k hk).1)
              clear ho hg HO5 HB5 HH c0 c1 c2 c3
              go_wp2_with fail
              go_roundw
              case rel => exact ⟨j + 1, a + 7, by omega, by have := HN.out; omega, by go_num, HO6.out, HA'.out, HB6.out⟩
              case measure => simp [intOf]; have := HS.out; omega
    · have e : j = n := by omega
      subst e
      have hgood := rd_good HS.out HA.out
      have hr : Hid (readR s = rdL s j ∧ true = ok) := by
        unfold Hid readR
        rw [hgood, if_pos rfl, show s.size / 7 = j from by have := HS.out; omega, ← hok.out, hgood]
        exact ⟨rfl, rfl⟩
      have haI : ¬ (a : Int) < (s.size : Int) := by have := HS.out; have := HN.out; omega
      clear hgood
      go_wp2_with fail
      go_ret2
      refine ⟨_, by rw [← hr.out.2]; rfl, ?_, HB.out⟩
      rw [hr.out.1, rdL_len]
      exact HO.out

theorem refRead_odd (s : ByteArray) (w : World) (h : s.size % 7 ≠ 0) : Calls Try.prog 24 #[.string s] w fun e w' => e = .returned (.tuple #[.slice none 0 0, .bool false]) ∧ w' = w := by
  have hm : ¬ (s.size : Int) % 7 = 0 := by omega
  go_enter Try.func24, Try.ntmps24
  go_wp2_with fail
  go_ret2
  exact ⟨rfl, rfl⟩
theorem refRead_any (s : ByteArray) (w : World) (hs : s.size ≤ 7000) :
    Calls Try.prog 24 #[.string s] w fun e w' => ∃ v, e = .returned (.tuple #[v, .bool (rdOk s)]) ∧ w'.ownsRow w.heap.size 23 4 v (readR s).length (flI (readR s)) ∧ Below w.heap.size w w' := by
  by_cases h : s.size % 7 = 0
  · exact refRead_core s (s.size / 7) w (by omega) (by omega)
  · refine (refRead_odd s w h).mono ?_
    rintro e w' ⟨rfl, rfl⟩
    have hb : rdOk s = false := by unfold rdOk; rw [decide_eq_false h]; rfl
    refine ⟨.slice none 0 0, by rw [hb], ?_, Below.refl _ _⟩
    unfold readR
    rw [hb]
    exact World.ownsRow_nil _ _ _ _

end Go.Proofs.Ytglalihheppgpaa

/- The walks of slices.Clone (ints, instructions) and of image's copyOfFunc. -/
import Derived.Test.YtkgicalkcbagaaaImI
import Derived.Lib.SliceRun
namespace Go.Proofs.Ytkgicalkcbagaaa
open Go.RowKit

theorem Try.info447 : (Try.prog.info? 47).map (fun i => (i.zero, i.size, i.bytes)) = some (some (.agg #[.int .i64 0, .int .i64 0, .int .i64 0, .int .i64 0]), 4, 32) := by kernel_rfl
/-- A new row of nothing. -/
theorem own_none (w : World) (e : TypeId) (k : Nat) (base : Nat) (hb : base ≤ w.heap.size) : (w.alloc (.cells #[] e)).ownsRow base e k (.slice (some ⟨w.heap.size, 0, none⟩) 0 0) 0 [] := by
  refine ⟨by simp, Or.inr ⟨w.heap.size, 0, #[], rfl, hb, ?_, Nat.le_refl _, by unfold maxLen; omega, by simp, by simp⟩⟩
  show (w.heap.push _)[w.heap.size]? = _
  simp

set_option maxRecDepth 100000 in
set_option maxHeartbeats 1000000 in
theorem clone_any (L : List Int) (v : Value) (w : World) (hl : L.length ≤ 3000) (h : SrcAt w v L) :
    Calls Try.prog 32 #[v] w fun e w' => ∃ v', e = .returned v' ∧ OwnI w' w.heap.size v' L ∧ Below w.heap.size w w' := by
  obtain ⟨i0, hi, hz0, hz1, hz2⟩ := info_parts Try.info3
  have hO : Hid ((w.alloc (.cells #[] 3)).ownsRow w.heap.size 3 1 (.slice (some ⟨w.heap.size, 0, none⟩) 0 0) 0 []) := own_none w 3 1 w.heap.size (Nat.le_refl _)
  have hA : Hid (Below w.heap.size w (w.alloc (.cells #[] 3))) := (Below.refl _ _).alloc (Nat.le_refl _) _
  have hnil : ∀ (w : World) (a : Option Addr) (n c : Nat), (binOp .eql 22 (.slice a n c) (.slice none 0 0)).run Try.prog w = .ok (.bool a.isNone) w := fun w a n c => Lib.run_eql_slice_nil w _ _ a n c 0 0 Try.underlying22
  rcases h with ⟨rfl, rfl | ⟨ad, c, rfl⟩⟩ | ⟨b, off, c, rfl, h2, h3⟩
  · go_enter Try.func32, Try.ntmps32
    go_wp2_with fail
    go_ret
    exact ⟨_, rfl, World.ownsRow_nil _ _ _ _, Below.refl _ _⟩
  · go_enter Try.func32, Try.ntmps32
    go_wp2_with (at_builtin; refine wpList_append_own _ rfl _ _ 22 rfl w.heap.size 3 i0 (.int .i64 0) 1 8 Try.underlying22 hi hz0 hz1 hz2 rfl (by decide) _ _ _ rfl hO.out ad 0 c [] rfl rfl ?c1 ?c2 ?c3 ?c4 ?c5 ?_)
    case c1 => intro j u hj; simp at hj
    case c2 => intro u hu; simp at hu
    case c3 => unfold maxLen; omega
    case c4 => omega
    case c5 => simp
    · intro v' w1 hown' hgrow _
      obtain ⟨a5, c5, rfl⟩ := own4_len hown'
      have HB : Hid (Below w.heap.size w w1) := hA.out.grown hgrow (by simp) (fun k hk => (hO.out.lt k hk).1)
      clear hgrow
      go_wp2_with fail
      go_ret
      exact ⟨_, rfl, by first | (simpa [flI] using hown') | (unfold OwnI; simpa using hown'), HB.out⟩
  · have hn := ints_cells (h3)
    have HN : Hid (∀ j u, (L.map (Value.int .i64))[j]? = some u → (w.alloc (.cells #[] 3)).cell? ((⟨b, off, none⟩ : Addr).add j) = some u) := fun j u hj => by
      have := hn j u hj
      rw [Go.WideShapes.add_plain] at this ⊢
      rw [cell_old h2]
      exact this
    clear hn
    go_enter Try.func32, Try.ntmps32
    go_wp2_with (at_builtin; refine wpList_append_own _ rfl _ _ 22 rfl w.heap.size 3 i0 (.int .i64 0) 1 8 Try.underlying22 hi hz0 hz1 hz2 rfl (by decide) _ _ _ rfl hO.out ⟨b, off, none⟩ L.length c (L.map (Value.int .i64)) rfl (by simp) HN.out (ints_one L) ?c3 ?c4 ?c5 ?_)
    case c3 => unfold maxLen; omega
    case c4 => omega
    case c5 => simp
    · intro v' w1 hown' hgrow _
      obtain ⟨a5, c5, rfl⟩ := own4_len hown'
      have HB : Hid (Below w.heap.size w w1) := hA.out.grown hgrow (by simp) (fun k hk => (hO.out.lt k hk).1)
      have HO1 : Hid (OwnI w1 w.heap.size (.slice a5 L.length c5) L) := by
        unfold Hid OwnI
        simpa using hown'
      clear hgrow hown'
      go_wp2_with fail
      go_ret
      exact ⟨_, rfl, HO1.out, HB.out⟩

set_option maxRecDepth 100000 in
set_option maxHeartbeats 1000000 in
theorem cloneI_any (L : List Ins) (v : Value) (w : World) (hl : L.length ≤ 3000) (h : SrcI w v L) :
    Calls Try.prog 43 #[v] w fun e w' => ∃ v', e = .returned v' ∧ w'.ownsRow w.heap.size 47 4 v' L.length (flI L) ∧ Below w.heap.size w w' := by
  obtain ⟨i0, hi, hz0, hz1, hz2⟩ := info_parts Try.info447
  have hO : Hid ((w.alloc (.cells #[] 47)).ownsRow w.heap.size 47 4 (.slice (some ⟨w.heap.size, 0, none⟩) 0 0) 0 []) := own_none w 47 4 w.heap.size (Nat.le_refl _)
  have hA : Hid (Below w.heap.size w (w.alloc (.cells #[] 47))) := (Below.refl _ _).alloc (Nat.le_refl _) _
  have hnil : ∀ (w : World) (a : Option Addr) (n c : Nat), (binOp .eql 43 (.slice a n c) (.slice none 0 0)).run Try.prog w = .ok (.bool a.isNone) w := fun w a n c => Lib.run_eql_slice_nil w _ _ a n c 0 0 Try.underlying43
  rcases h with ⟨rfl, rfl | ⟨ad, c, rfl⟩⟩ | ⟨b, off, c, rfl, h2, h3⟩
  · go_enter Try.func43, Try.ntmps43
    go_wp2_with fail
    go_ret
    exact ⟨_, rfl, World.ownsRow_nil _ _ _ _, Below.refl _ _⟩
  · go_enter Try.func43, Try.ntmps43
    go_wp2_with (at_builtin; refine wpList_append_own _ rfl _ _ 43 rfl w.heap.size 47 i0 (.agg #[.int .i64 0, .int .i64 0, .int .i64 0, .int .i64 0]) 4 32 Try.underlying43 hi hz0 hz1 hz2 rfl (by decide) _ _ _ rfl hO.out ad 0 c [] rfl rfl ?c1 ?c2 ?c3 ?c4 ?c5 ?_)
    case c1 => intro j u hj; simp at hj
    case c2 => intro u hu; simp at hu
    case c3 => unfold maxLen; omega
    case c4 => omega
    case c5 => simp
    · intro v' w1 hown' hgrow _
      obtain ⟨a5, c5, rfl⟩ := own4_len hown'
      have HB : Hid (Below w.heap.size w w1) := hA.out.grown hgrow (by simp) (fun k hk => (hO.out.lt k hk).1)
      clear hgrow
      go_wp2_with fail
      go_ret
      exact ⟨_, rfl, by first | (simpa [flI] using hown') | (unfold OwnI; simpa using hown'), HB.out⟩
  · have HN : Hid (∀ j u, (flI L)[j]? = some u → (w.alloc (.cells #[] 47)).cell? ((⟨b, off, none⟩ : Addr).add j) = some u) := fun j u hj => by
      have hlt : j < (flI L).length := (List.getElem?_eq_some_iff.1 hj).1
      rw [flI_len] at hlt
      obtain ⟨i, hi'⟩ : ∃ i, L[j / 4]? = some i := ⟨_, List.getElem?_eq_getElem (by omega)⟩
      have hat := flI_at L (j / 4) i hi' (j % 4) (by omega)
      rw [show j / 4 * 4 + j % 4 = j from by omega, hj] at hat
      obtain ⟨g0, g1, g2, g3⟩ := h3 (j / 4) i hi'
      rw [Go.WideShapes.add_plain, cell_old h2]
      have h4 : j % 4 = 0 ∨ j % 4 = 1 ∨ j % 4 = 2 ∨ j % 4 = 3 := by omega
      rcases h4 with h | h | h | h
      · rw [h] at hat; rw [show off + j = off + j / 4 * 4 from by omega, g0]; simp [Ins.cs] at hat; rw [hat]
      · rw [h] at hat; rw [show off + j = off + j / 4 * 4 + 1 from by omega, g1]; simp [Ins.cs] at hat; rw [hat]
      · rw [h] at hat; rw [show off + j = off + j / 4 * 4 + 2 from by omega, g2]; simp [Ins.cs] at hat; rw [hat]
      · rw [h] at hat; rw [show off + j = off + j / 4 * 4 + 3 from by omega, g3]; simp [Ins.cs] at hat; rw [hat]
    go_enter Try.func43, Try.ntmps43
    go_wp2_with (at_builtin; refine wpList_append_own _ rfl _ _ 43 rfl w.heap.size 47 i0 (.agg #[.int .i64 0, .int .i64 0, .int .i64 0, .int .i64 0]) 4 32 Try.underlying43 hi hz0 hz1 hz2 rfl (by decide) _ _ _ rfl hO.out ⟨b, off, none⟩ L.length c (flI L) rfl (by rw [flI_len]) HN.out (flI_one L) ?c3 ?c4 ?c5 ?_)
    case c3 => unfold maxLen; omega
    case c4 => omega
    case c5 => simp
    · intro v' w1 hown' hgrow _
      obtain ⟨a5, c5, rfl⟩ := own4_len hown'
      have HB : Hid (Below w.heap.size w w1) := hA.out.grown hgrow (by simp) (fun k hk => (hO.out.lt k hk).1)
      have HO1 : Hid (w1.ownsRow w.heap.size 47 4 (.slice a5 L.length c5) L.length (flI L)) := by
        unfold Hid
        simpa using hown'
      clear hgrow hown'
      go_wp2_with fail
      go_ret
      exact ⟨_, rfl, HO1.out, HB.out⟩

theorem FnC.lo {P : Nat → Prop} {w : World} {f : Fn} {v0 v1 v2 v3 v4 : Value} (h : FnC P w f v0 v1 v2 v3 v4) : FnC (fun b => b < w.heap.size) w f v0 v1 v2 v3 v4 := h.mono (fun _ hb _ => hb)
theorem Stay.low {B : Nat} {w w' : World} (h : Below B w w') : Stay (fun b => b < B) w w' := Stay.of_below h fun _ _ hb => hb

set_option maxRecDepth 100000 in
set_option maxHeartbeats 1000000 in
theorem copyF_any (f : Fn) (a0 a3 a4 : Option Addr) (c0 c3 c4 : Nat) (w : World) (hz : szF f ≤ 3000) (h : FnC Any w f (.slice a0 f.args.length c0) (.int .i64 f.res) (.int .i64 f.slots) (.slice a3 f.objs.length c3) (.slice a4 f.code.length c4)) :
    Calls Try.prog 33 #[.agg #[.slice a0 f.args.length c0, .int .i64 f.res, .int .i64 f.slots, .slice a3 f.objs.length c3, .slice a4 f.code.length c4]] w fun e w' => ∃ v, e = .returned v ∧
      ∃ a0' c0' a3' c3' a4' c4', v = .agg #[.slice a0' f.args.length c0', .int .i64 f.res, .int .i64 f.slots, .slice a3' f.objs.length c3', .slice a4' f.code.length c4'] ∧ FnO w' w.heap.size ⟨f, .slice a0' f.args.length c0', .slice a3' f.objs.length c3', .slice a4' f.code.length c4'⟩ ∧ Below w.heap.size w w' := by
  have hz' : f.args.length + f.objs.length + f.code.length ≤ 3000 := hz
  obtain ⟨B, hB⟩ : ∃ B, w.heap.size = B := ⟨_, rfl⟩
  obtain ⟨wa, hwa⟩ : ∃ wa, (w.alloc (.cells #[.slice a0 f.args.length c0, .int .i64 f.res, .int .i64 f.slots, .slice a3 f.objs.length c3, .slice a4 f.code.length c4] 45)).alloc (.cells #[.slice none 0 0, .int .i64 0, .int .i64 0, .slice none 0 0, .slice none 0 0] 45) = wa := ⟨_, rfl⟩
  have hA : Below w.heap.size w wa := hwa ▸ ((Below.refl _ _).alloc (Nat.le_refl _) _).alloc (by simp) _
  have hr1 : wa.rowIs B 45 5 (fun k => (#[Value.slice a0 f.args.length c0, .int .i64 f.res, .int .i64 f.slots, .slice a3 f.objs.length c3, .slice a4 f.code.length c4] : Array Value).getD k undef) := by
    rw [← hB]
    exact hwa ▸ (World.rowIs_alloc w #[.slice a0 f.args.length c0, .int .i64 f.res, .int .i64 f.slots, .slice a3 f.objs.length c3, .slice a4 f.code.length c4] 45 _ (fun k hk => by
      have : k = 0 ∨ k = 1 ∨ k = 2 ∨ k = 3 ∨ k = 4 := by simp at hk; omega
      rcases this with rfl | rfl | rfl | rfl | rfl <;> rfl)).alloc _
  have hr2 : wa.rowIs (B + 1) 45 5 fnZ := by
    have := World.rowIs_alloc (w.alloc (.cells #[.slice a0 f.args.length c0, .int .i64 f.res, .int .i64 f.slots, .slice a3 f.objs.length c3, .slice a4 f.code.length c4] 45)) #[.slice none 0 0, .int .i64 0, .int .i64 0, .slice none 0 0, .slice none 0 0] 45 fnZ (fun k hk => by
      have : k = 0 ∨ k = 1 ∨ k = 2 ∨ k = 3 ∨ k = 4 := by simp at hk; omega
      rcases this with rfl | rfl | rfl | rfl | rfl <;> rfl)
    rw [World.size_alloc, hB] at this
    exact hwa ▸ this
  have hF : FnC (fun b => b < B) wa f (.slice a0 f.args.length c0) (.int .i64 f.res) (.int .i64 f.slots) (.slice a3 f.objs.length c3) (.slice a4 f.code.length c4) := (hB ▸ h.lo).stay (Stay.low (hB ▸ hA))
  have HF : Hid (FnC (fun b => b < B) wa f (.slice a0 f.args.length c0) (.int .i64 f.res) (.int .i64 f.slots) (.slice a3 f.objs.length c3) (.slice a4 f.code.length c4)) := hF
  have HR1 : Hid (wa.rowIs B 45 5 (fun k => (#[Value.slice a0 f.args.length c0, .int .i64 f.res, .int .i64 f.slots, .slice a3 f.objs.length c3, .slice a4 f.code.length c4] : Array Value).getD k undef)) := hr1
  have HR2 : Hid (wa.rowIs (B + 1) 45 5 fnZ) := hr2
  have HL : Hid (Below B w wa) := hB ▸ hA
  have d0 : wa.cell? ⟨B, 0, none⟩ = some (.slice a0 f.args.length c0) := hr1.cell (i := 0) (by decide)
  clear hF hr1 hr2 hA h hz
  go_enter Try.func33, Try.ntmps33
  go_wp2_with fail
  refine (clone_any f.args _ _ (by omega) HF.out.args.at_).mono ?_
  rintro e w1 ⟨v1, rfl, ho1, hb1⟩
  obtain ⟨a0', c0', rfl⟩ := own4_len ho1
  have r1 := HR1.out.of_block (hb1.block _ HR1.out.lt)
  have HR2' : Hid (w1.rowIs (B + 1) 45 5 fnZ) := HR2.out.of_block (hb1.block _ HR2.out.lt)
  have e0 : w1.cell? ⟨B, 0, none⟩ = some (.slice a0 f.args.length c0) := r1.cell (i := 0) (by decide)
  have e3 : w1.cell? ⟨B, 3, none⟩ = some (.slice a3 f.objs.length c3) := r1.cell (i := 3) (by decide)
  have g0 := r1.frozen 0
  have hlt := r1.lt
  have hbwa := HR2.out.lt
  have HL1 : Hid (Below B w w1) := HL.out.trans (hb1.mono (by omega))
  have HO1 : Hid (OwnI w1 (B + 2) (.slice a0' f.args.length c0') f.args) := own_base ho1 (by omega)
  have HR1' : Hid (w1.rowIs B 45 5 (fun k => (#[Value.slice a0 f.args.length c0, .int .i64 f.res, .int .i64 f.slots, .slice a3 f.objs.length c3, .slice a4 f.code.length c4] : Array Value).getD k undef)) := r1
  obtain ⟨wx, hw0⟩ : ∃ wx, w1.setCell ⟨B, 0, none⟩ (.slice a0' f.args.length c0') = wx := ⟨_, rfl⟩
  have hty1 : Ty [45] B w1 wx := hw0 ▸ Ty.of_but ((But.refl _ _).setCell 0 _) r1 (Nat.le_refl _)
  have HF1 : Hid (FnC (fun b => b < B) wx f (.slice a0 f.args.length c0) (.int .i64 f.res) (.int .i64 f.slots) (.slice a3 f.objs.length c3) (.slice a4 f.code.length c4)) := (HF.out.stay (Stay.low (hb1.mono (by omega)))).stay ⟨hty1.size, fun b hb hP => hty1.low b hb hP⟩
  have HRx : Hid (wx.rowIs B 45 5 (fun k => (#[Value.slice a0' f.args.length c0', .int .i64 f.res, .int .i64 f.slots, .slice a3 f.objs.length c3, .slice a4 f.code.length c4] : Array Value).getD k undef)) := by
    refine hw0 ▸ (r1.set 0 _).congr fun i hi => ?_
    have : i = 0 ∨ i = 1 ∨ i = 2 ∨ i = 3 ∨ i = 4 := by omega
    rcases this with rfl | rfl | rfl | rfl | rfl <;> rfl
  have HR2x : Hid (wx.rowIs (B + 1) 45 5 fnZ) := hw0 ▸ ((But.refl B w1).setCell 0 _).row HR2'.out (by omega)
  have HLx : Hid (Below B w wx) := HL1.out.trans (hty1.below (Nat.le_of_lt hlt))
  have HOx : Hid (OwnI wx (B + 2) (.slice a0' f.args.length c0') f.args) := hty1.own HO1.out (by decide)
  have e3x : wx.cell? ⟨B, 3, none⟩ = some (.slice a3 f.objs.length c3) := HRx.out.cell (i := 3) (by decide)
  clear hb1 ho1 r1 HR2' HL1 HO1 HR1' hty1 HF HR1 HR2 HL d0
  go_wp2_with fail
  refine (clone_any f.objs _ _ (by omega) HF1.out.objs.at_).mono ?_
  rintro e w2 ⟨vv, rfl, ho, hb⟩
  obtain ⟨a3', c3', rfl⟩ := own4_len ho
  have r1 := HRx.out.of_block (hb.block _ HRx.out.lt)
  have r2 := HR2x.out.of_block (hb.block _ HR2x.out.lt)
  have hszp := HR2x.out.lt
  have x3 : w2.cell? ⟨B, 3, none⟩ = some (.slice a3 f.objs.length c3) := r1.cell (i := 3) (by decide)
  have g3 := r1.frozen 3
  have hlt := r1.lt
  have y4 : w2.cell? ⟨B, 4, none⟩ = some (.slice a4 f.code.length c4) := r1.cell (i := 4) (by decide)
  obtain ⟨wy, hw3⟩ : ∃ wy, w2.setCell ⟨B, 3, none⟩ (.slice a3' f.objs.length c3') = wy := ⟨_, rfl⟩
  have hty : Ty [45] B w2 wy := hw3 ▸ Ty.of_but ((But.refl _ _).setCell 3 _) r1 (Nat.le_refl _)
  have hb2 : Below B wx w2 := hb.mono (by omega)
  have HF2 : Hid (FnC (fun b => b < B) wy f (.slice a0 f.args.length c0) (.int .i64 f.res) (.int .i64 f.slots) (.slice a3 f.objs.length c3) (.slice a4 f.code.length c4)) := (HF1.out.stay (Stay.low hb2)).stay ⟨hty.size, fun b hb hP => hty.low b hb hP⟩
  have HRy : Hid (wy.rowIs B 45 5 (fun k => (#[Value.slice a0' f.args.length c0', .int .i64 f.res, .int .i64 f.slots, .slice a3' f.objs.length c3', .slice a4 f.code.length c4] : Array Value).getD k undef)) := by
    refine hw3 ▸ (r1.set 3 _).congr fun i hi => ?_
    have : i = 0 ∨ i = 1 ∨ i = 2 ∨ i = 3 ∨ i = 4 := by omega
    rcases this with rfl | rfl | rfl | rfl | rfl <;> rfl
  have HR2y : Hid (wy.rowIs (B + 1) 45 5 fnZ) := hw3 ▸ ((But.refl B w2).setCell 3 _).row r2 (by omega)
  have HLy : Hid (Below B w wy) := (HLx.out.trans hb2).trans (hty.below (Nat.le_of_lt hlt))
  have HO0 : Hid (OwnI wy (B + 2) (.slice a0' f.args.length c0') f.args) := hty.own ((Ty.of_below (K := []) (B := 0) hb).own HOx.out (by simp)) (by decide)
  have HO3 : Hid (OwnI wy (B + 2) (.slice a3' f.objs.length c3') f.objs) := hty.own (own_base ho (by omega)) (by decide)
  have e4y : wy.cell? ⟨B, 4, none⟩ = some (.slice a4 f.code.length c4) := HRy.out.cell (i := 4) (by decide)
  clear ho hb r1 r2 hty hb2 hw0 HF1 HRx HR2x HLx HOx e0 e3 g0 e3x
  go_wp2_with fail
  refine (cloneI_any f.code _ _ (by omega) HF2.out.code.at_).mono ?_
  rintro e w3 ⟨vv, rfl, ho, hb⟩
  obtain ⟨a4', c4', rfl⟩ := own4_len ho
  have r1 := HRy.out.of_block (hb.block _ HRy.out.lt)
  have r2 := HR2y.out.of_block (hb.block _ HR2y.out.lt)
  have hszp := HR2y.out.lt
  have x4 : w3.cell? ⟨B, 4, none⟩ = some (.slice a4 f.code.length c4) := r1.cell (i := 4) (by decide)
  have g4 := r1.frozen 4
  have hlt2 := r1.lt
  obtain ⟨wz, hw4⟩ : ∃ wz, w3.setCell ⟨B, 4, none⟩ (.slice a4' f.code.length c4') = wz := ⟨_, rfl⟩
  have hty : Ty [45] B w3 wz := hw4 ▸ Ty.of_but ((But.refl _ _).setCell 4 _) r1 (Nat.le_refl _)
  have hb2 : Below B wy w3 := hb.mono (by omega)
  have HF3 : Hid (FnC (fun b => b < B) wz f (.slice a0 f.args.length c0) (.int .i64 f.res) (.int .i64 f.slots) (.slice a3 f.objs.length c3) (.slice a4 f.code.length c4)) := (HF2.out.stay (Stay.low hb2)).stay ⟨hty.size, fun b hb hP => hty.low b hb hP⟩
  have HRz : Hid (wz.rowIs B 45 5 (fun k => (#[Value.slice a0' f.args.length c0', .int .i64 f.res, .int .i64 f.slots, .slice a3' f.objs.length c3', .slice a4' f.code.length c4'] : Array Value).getD k undef)) := by
    refine hw4 ▸ (r1.set 4 _).congr fun i hi => ?_
    have : i = 0 ∨ i = 1 ∨ i = 2 ∨ i = 3 ∨ i = 4 := by omega
    rcases this with rfl | rfl | rfl | rfl | rfl <;> rfl
  have HR2z : Hid (wz.rowIs (B + 1) 45 5 fnZ) := hw4 ▸ ((But.refl B w3).setCell 4 _).row r2 (by omega)
  have HLz : Hid (Below B w wz) := (HLy.out.trans hb2).trans (hty.below (Nat.le_of_lt hlt2))
  have HO0z : Hid (OwnI wz (B + 2) (.slice a0' f.args.length c0') f.args) := hty.own ((Ty.of_below (K := []) (B := 0) hb).own HO0.out (by simp)) (by decide)
  have HO3z : Hid (OwnI wz (B + 2) (.slice a3' f.objs.length c3') f.objs) := hty.own ((Ty.of_below (K := []) (B := 0) hb).own HO3.out (by simp)) (by decide)
  have HO4z : Hid (wz.ownsRow (B + 2) 47 4 (.slice a4' f.code.length c4') f.code.length (flI f.code)) := hty.own (own_base ho (by omega)) (by decide)
  clear ho hb r1 r2 hty hb2 hw3 HF2 HRy HR2y HLy HO0 HO3 x3 y4 g3 e4y
  have z0 : wz.cell? ⟨B, 0, none⟩ = some (.slice a0' f.args.length c0') := HRz.out.cell (i := 0) (by decide)
  have z1 : wz.cell? ⟨B, 1, none⟩ = some (.int .i64 f.res) := HRz.out.cell (i := 1) (by decide)
  have z2 : wz.cell? ⟨B, 2, none⟩ = some (.int .i64 f.slots) := HRz.out.cell (i := 2) (by decide)
  have z3 : wz.cell? ⟨B, 3, none⟩ = some (.slice a3' f.objs.length c3') := HRz.out.cell (i := 3) (by decide)
  have z4 : wz.cell? ⟨B, 4, none⟩ = some (.slice a4' f.code.length c4') := HRz.out.cell (i := 4) (by decide)
  have q0 : wz.cell? ⟨B + 1, 0, none⟩ = some (.slice none 0 0) := HR2z.out.cell (i := 0) (by decide)
  have q1 : wz.cell? ⟨B + 1, 1, none⟩ = some (.int .i64 0) := HR2z.out.cell (i := 1) (by decide)
  have q2 : wz.cell? ⟨B + 1, 2, none⟩ = some (.int .i64 0) := HR2z.out.cell (i := 2) (by decide)
  have q3 : wz.cell? ⟨B + 1, 3, none⟩ = some (.slice none 0 0) := HR2z.out.cell (i := 3) (by decide)
  have q4 : wz.cell? ⟨B + 1, 4, none⟩ = some (.slice none 0 0) := HR2z.out.cell (i := 4) (by decide)
  have k0 := HR2z.out.frozen 0
  have k1 := HR2z.out.frozen 1
  have k2 := HR2z.out.frozen 2
  have k3 := HR2z.out.frozen 3
  have k4 := HR2z.out.frozen 4
  have hlz := HR2z.out.lt
  have HX : Hid (∃ v, Ending.returned (.agg #[.slice a0' f.args.length c0', .int .i64 f.res, .int .i64 f.slots, .slice a3' f.objs.length c3', .slice a4' f.code.length c4']) = .returned v ∧
      ∃ u0 p0 u3 p3 u4 p4, v = .agg #[.slice u0 f.args.length p0, .int .i64 f.res, .int .i64 f.slots, .slice u3 f.objs.length p3, .slice u4 f.code.length p4] ∧ FnO (((((wz.setCell ⟨B + 1, 0, none⟩ (.slice a0' f.args.length c0')).setCell ⟨B + 1, 1, none⟩ (.int .i64 f.res)).setCell ⟨B + 1, 2, none⟩ (.int .i64 f.slots)).setCell ⟨B + 1, 3, none⟩ (.slice a3' f.objs.length c3')).setCell ⟨B + 1, 4, none⟩ (.slice a4' f.code.length c4')) B ⟨f, .slice u0 f.args.length p0, .slice u3 f.objs.length p3, .slice u4 f.code.length p4⟩ ∧
      Below B w (((((wz.setCell ⟨B + 1, 0, none⟩ (.slice a0' f.args.length c0')).setCell ⟨B + 1, 1, none⟩ (.int .i64 f.res)).setCell ⟨B + 1, 2, none⟩ (.int .i64 f.slots)).setCell ⟨B + 1, 3, none⟩ (.slice a3' f.objs.length c3')).setCell ⟨B + 1, 4, none⟩ (.slice a4' f.code.length c4'))) := by
    have hbut : But (B + 1) wz (((((wz.setCell ⟨B + 1, 0, none⟩ (.slice a0' f.args.length c0')).setCell ⟨B + 1, 1, none⟩ (.int .i64 f.res)).setCell ⟨B + 1, 2, none⟩ (.int .i64 f.slots)).setCell ⟨B + 1, 3, none⟩ (.slice a3' f.objs.length c3')).setCell ⟨B + 1, 4, none⟩ (.slice a4' f.code.length c4')) := (((((But.refl _ _).setCell 0 _).setCell 1 _).setCell 2 _).setCell 3 _).setCell 4 _
    have hty2 := Ty.of_but (B := B) hbut HR2z.out (by omega)
    refine ⟨_, rfl, a0', c0', a3', c3', a4', c4', rfl, ?_, ?_⟩
    · exact ⟨hty2.own (own_base HO0z.out (by omega)) (by decide), hty2.own (own_base HO3z.out (by omega)) (by decide), hty2.own (own_base HO4z.out (by omega)) (by decide)⟩
    · exact HLz.out.trans (hty2.below (by omega))
  clear HO0z HO3z HO4z HF3 HRz HR2z HLz
  go_wp2_with fail
  refine bodyPost_ret (v := .agg #[.slice a0' f.args.length c0', .int .i64 f.res, .int .i64 f.slots, .slice a3' f.objs.length c3', .slice a4' f.code.length c4']) (by simp [results, go_sem, q0, q1, q2, q3, q4]) rfl ?_
  rw [hB]
  exact HX.out

end Go.Proofs.Ytkgicalkcbagaaa

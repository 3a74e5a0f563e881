/- The walks of flow's find, Next. The walks of flow's Next, and of the document's Next, Join. -/
import Derived.Test.YtmjappcjfjajmaaFlA
import Derived.Test.YtmjappcjfjajmaaCkE
import Derived.Test.YtmjappcjfjajmaaFlR
namespace Go.Proofs.Ytmjappcjfjajmaa
open Go.RowKit

theorem cell_farK {w : World} {b o g q : Nat} {u v : Value} (h : w.cell? ⟨b, o, none⟩ = some v) (hne : ¬ b = g) : (w.setCell ⟨g, q, none⟩ u).cell? ⟨b, o, none⟩ = some v :=
  (World.cell?_of_block (Below.heap_setCell _ _ _ _ hne)).trans h
theorem far5 {w : World} {b o g : Nat} {v u0 u1 u2 u3 u4 : Value} (h : w.cell? ⟨b, o, none⟩ = some v) (hne : ¬ b = g) :
    (((((w.setCell ⟨g, 0, none⟩ u0).setCell ⟨g, 1, none⟩ u1).setCell ⟨g, 2, none⟩ u2).setCell ⟨g, 3, none⟩ u3).setCell ⟨g, 4, none⟩ u4).cell? ⟨b, o, none⟩ = some v := cell_farK (cell_farK (cell_farK (cell_farK (cell_farK h hne) hne) hne) hne) hne
theorem far4 {w : World} {b o g : Nat} {v u0 u1 u2 u3 : Value} (h : w.cell? ⟨b, o, none⟩ = some v) (hne : ¬ b = g) :
    ((((w.setCell ⟨g, 0, none⟩ u0).setCell ⟨g, 1, none⟩ u1).setCell ⟨g, 2, none⟩ u2).setCell ⟨g, 3, none⟩ u3).cell? ⟨b, o, none⟩ = some v := cell_farK (cell_farK (cell_farK (cell_farK h hne) hne) hne) hne
theorem below5 {B g : Nat} {a w : World} (h : Below B a w) (hg : B ≤ g) (u0 u1 u2 u3 u4 : Value) : Below B a (((((w.setCell ⟨g, 0, none⟩ u0).setCell ⟨g, 1, none⟩ u1).setCell ⟨g, 2, none⟩ u2).setCell ⟨g, 3, none⟩ u3).setCell ⟨g, 4, none⟩ u4) :=
  ((((h.setCell (p := ⟨g, 0, none⟩) hg _).setCell (p := ⟨g, 1, none⟩) hg _).setCell (p := ⟨g, 2, none⟩) hg _).setCell (p := ⟨g, 3, none⟩) hg _).setCell (p := ⟨g, 4, none⟩) hg _
theorem below4 {B g : Nat} {a w : World} (h : Below B a w) (hg : B ≤ g) (u0 u1 u2 u3 : Value) : Below B a ((((w.setCell ⟨g, 0, none⟩ u0).setCell ⟨g, 1, none⟩ u1).setCell ⟨g, 2, none⟩ u2).setCell ⟨g, 3, none⟩ u3) :=
  (((h.setCell (p := ⟨g, 0, none⟩) hg _).setCell (p := ⟨g, 1, none⟩) hg _).setCell (p := ⟨g, 2, none⟩) hg _).setCell (p := ⟨g, 3, none⟩) hg _
def zFn : Value := .agg #[.slice none 0 0, .int .i64 0, .int .i64 0, .slice none 0 0, .slice none 0 0]
def zIn : Value := .agg #[.int .i64 0, .int .i64 0, .int .i64 0, .int .i64 0]

/-- In find: a program's box and a place's at the end of w, behind them the results' boxes. -/
structure OnFd (w wk : World) (fn pc : Int) (p : Pg) (ag az af : Option Addr) (cg cs cf : Nat) : Prop where
  q : OnQ w wk fn pc p ag az af cg cs cf
  rf : ∃ f5, wk.rowIs (w.heap.size + 2) 41 5 f5
  ri : ∃ f4, wk.rowIs (w.heap.size + 3) 47 4 f4
section
variable {p : Pg} {fn pc : Int} {ag az af : Option Addr} {cg cs cf : Nat} {w wk w2 : World}
theorem OnFd.below (h : OnFd w wk fn pc p ag az af cg cs cf) (hb : Below wk.heap.size wk w2) : OnFd w w2 fn pc p ag az af cg cs cf := by
  obtain ⟨f5, h5⟩ := h.rf
  obtain ⟨f4, h4⟩ := h.ri
  exact ⟨h.q.below hb, ⟨f5, h5.of_block (hb.block _ h5.lt)⟩, ⟨f4, h4.of_block (hb.block _ h4.lt)⟩⟩
end
theorem onFd_start {fn pc : Int} {p : Pg} (ag az af : Option Addr) (cg cs cf : Nat) {w wz : World} (hwz : (((w.alloc (.cells #[.slice ag p.glob.length cg, .slice az p.shapes.length cs, .slice af p.funcs.length cf] 26)).alloc (.cells #[.int .i64 fn, .int .i64 pc] 34)).alloc (.cells #[.slice none 0 0, .int .i64 0, .int .i64 0, .slice none 0 0, .slice none 0 0] 41)).alloc (.cells #[.int .i64 0, .int .i64 0, .int .i64 0, .int .i64 0] 47) = wz) (hp : PgV Any w (.slice ag p.glob.length cg) (.slice az p.shapes.length cs) (.slice af p.funcs.length cf) p) :
    OnFd w wz fn pc p ag az af cg cs cf := by
  subst hwz
  have h1 : OnQ w _ fn pc p ag az af cg cs cf := onQ_start rfl hp
  have hA : ∀ (w : World) o, Below w.heap.size w (w.alloc o) := fun w o => (Below.refl _ _).alloc (Nat.le_refl _) _
  have t1 := fn_box ((w.alloc (.cells #[.slice ag p.glob.length cg, .slice az p.shapes.length cs, .slice af p.funcs.length cf] 26)).alloc (.cells #[.int .i64 fn, .int .i64 pc] 34)) ⟨[], 0, 0, [], []⟩ none none none 0 0 0
  simp only [World.size_alloc] at t1
  have t2 := World.rowIs_alloc (((w.alloc (.cells #[.slice ag p.glob.length cg, .slice az p.shapes.length cs, .slice af p.funcs.length cf] 26)).alloc (.cells #[.int .i64 fn, .int .i64 pc] 34)).alloc (.cells #[.slice none 0 0, .int .i64 0, .int .i64 0, .slice none 0 0, .slice none 0 0] 41)) #[.int .i64 0, .int .i64 0, .int .i64 0, .int .i64 0] 47 (fun _ => .int .i64 0) (fun k hk => by
    have : k = 0 ∨ k = 1 ∨ k = 2 ∨ k = 3 := by simp at hk; omega
    rcases this with rfl | rfl | rfl | rfl <;> rfl)
  simp only [World.size_alloc] at t2
  exact ⟨(h1.below (hA _ _)).below (hA _ _), ⟨_, t1.of_block ((hA _ _).block _ t1.lt)⟩, ⟨_, t2⟩⟩

set_option maxRecDepth 100000 in
set_option maxHeartbeats 8000000 in
theorem find_some (p : Pg) (ag az af : Option Addr) (cg cs cf : Nat) {fn pc : Int} {f : Fn} {io ia ib ic : Int} (hf : Hid (fnAt p fn = some f)) (hi : Hid (inAt f pc = some ⟨io, ia, ib, ic⟩)) (w : World) (hp : PgV Any w (.slice ag p.glob.length cg) (.slice az p.shapes.length cs) (.slice af p.funcs.length cf) p) :
    Calls Try.prog 27 #[.agg #[.slice ag p.glob.length cg, .slice az p.shapes.length cs, .slice af p.funcs.length cf], .agg #[.int .i64 fn, .int .i64 pc]] w fun e w' => ∃ a0 a3 a4 c0 c3 c4, e = .returned (.tuple #[.agg #[.slice a0 f.args.length c0, .int .i64 f.res, .int .i64 f.slots, .slice a3 f.objs.length c3, .slice a4 f.code.length c4], .agg #[.int .i64 io, .int .i64 ia, .int .i64 ib, .int .i64 ic], .bool true]) ∧ FnC Any w' f (.slice a0 f.args.length c0) (.int .i64 f.res) (.int .i64 f.slots) (.slice a3 f.objs.length c3) (.slice a4 f.code.length c4) ∧ Below w.heap.size w w' := by
  obtain ⟨wz, hwz⟩ : ∃ wz, (((w.alloc (.cells #[.slice ag p.glob.length cg, .slice az p.shapes.length cs, .slice af p.funcs.length cf] 26)).alloc (.cells #[.int .i64 fn, .int .i64 pc] 34)).alloc (.cells #[.slice none 0 0, .int .i64 0, .int .i64 0, .slice none 0 0, .slice none 0 0] 41)).alloc (.cells #[.int .i64 0, .int .i64 0, .int .i64 0, .int .i64 0] 47) = wz := ⟨_, rfl⟩
  have HQ : Hid (OnFd w wz fn pc p ag az af cg cs cf) := onFd_start ag az af cg cs cf hwz hp
  have hsz : wz.heap.size = w.heap.size + 4 := by rw [← hwz]; simp
  obtain ⟨j, rfl, hj, hfj⟩ := fnAt_some hf.out
  obtain ⟨k, rfl, hk, hik⟩ := inAt_some hi.out
  obtain ⟨b, off, v0, v1, v2, v3, v4, rfl, hb, _, u0, u1, u2, u3, u4, hfc⟩ := hp.funcs.some hfj
  obtain ⟨a0, c0, a3, c3, a4, c4, rfl, rfl, rfl⟩ := hfc.lens
  obtain rfl := hfc.res
  obtain rfl := hfc.slots
  have q0 := (HQ.out.q.low.cell (p := ⟨b, off + j * 5, none⟩) hb).trans u0
  have q1 := (HQ.out.q.low.cell (p := ⟨b, off + j * 5 + 1, none⟩) hb).trans u1
  have q2 := (HQ.out.q.low.cell (p := ⟨b, off + j * 5 + 2, none⟩) hb).trans u2
  have q3 := (HQ.out.q.low.cell (p := ⟨b, off + j * 5 + 3, none⟩) hb).trans u3
  have q4 := (HQ.out.q.low.cell (p := ⟨b, off + j * 5 + 4, none⟩) hb).trans u4
  have HF0 : Hid (FnC Any w f (.slice a0 f.args.length c0) (.int .i64 f.res) (.int .i64 f.slots) (.slice a3 f.objs.length c3) (.slice a4 f.code.length c4)) := hfc
  clear u0 u1 u2 u3 u4
  obtain ⟨d0, d1, d2, d3, d4⟩ := HQ.out.q.c
  have hjI : (j : Int) < (p.funcs.length : Int) := by omega
  have hkI : (k : Int) < (f.code.length : Int) := by omega
  have n1 : decide ((j : Int) < 0) = false := decide_eq_false (by omega)
  have n2 : decide ((p.funcs.length : Int) ≤ (j : Int)) = false := decide_eq_false (by omega)
  have n3 : decide ((k : Int) < 0) = false := decide_eq_false (by omega)
  have n4 : decide ((f.code.length : Int) ≤ (k : Int)) = false := decide_eq_false (by omega)
  have hA : Below wz.heap.size wz (wz.alloc (.cells #[.slice a0 f.args.length c0, .int .i64 f.res, .int .i64 f.slots, .slice a3 f.objs.length c3, .slice a4 f.code.length c4] 41)) := (Below.refl _ _).alloc (Nat.le_refl _) _
  have HQ5 : Hid (OnFd w (wz.alloc (.cells #[.slice a0 f.args.length c0, .int .i64 f.res, .int .i64 f.slots, .slice a3 f.objs.length c3, .slice a4 f.code.length c4] 41)) (j : Int) (k : Int) p ag az (some ⟨b, off, none⟩) cg cs cf) := HQ.out.below hA
  have HB5 : Hid ((wz.alloc (.cells #[.slice a0 f.args.length c0, .int .i64 f.res, .int .i64 f.slots, .slice a3 f.objs.length c3, .slice a4 f.code.length c4] 41)).rowIs wz.heap.size 41 5 (fnC f a0 a3 a4 c0 c3 c4) ∧ FnC Any (wz.alloc (.cells #[.slice a0 f.args.length c0, .int .i64 f.res, .int .i64 f.slots, .slice a3 f.objs.length c3, .slice a4 f.code.length c4] 41)) f (.slice a0 f.args.length c0) (.int .i64 f.res) (.int .i64 f.slots) (.slice a3 f.objs.length c3) (.slice a4 f.code.length c4)) := ⟨fn_box wz f a0 a3 a4 c0 c3 c4, (hfc.below HQ.out.q.low).below hA⟩
  have HIK : Hid (f.code[k]? = some ⟨io, ia, ib, ic⟩) := hik
  clear hfc hf hi hfj hik hp hA hb
  go_enter Try.func27, Try.ntmps27
  go_upto_region 6 with (fail)
  clear d0 d1 d2 d3 d4 q0 q1 q2 q3 q4 HQ hwz
  generalize wz.alloc (.cells #[.slice a0 f.args.length c0, .int .i64 f.res, .int .i64 f.slots, .slice a3 f.objs.length c3, .slice a4 f.code.length c4] 41) = w5 at *
  rw [hsz] at HB5
  try rw [hsz]
  obtain ⟨d0, d1, d2, d3, d4⟩ := HQ5.out.q.c
  obtain ⟨kb, ko, rfl, hkb, i0, i1, i2, i3⟩ := HB5.out.2.code.some HIK.out
  have HKL : Hid (kb < w.heap.size) := by
    obtain ⟨kb', o', e5, h5, _⟩ := HF0.out.code.some HIK.out
    cases e5
    exact h5
  have HKB : Hid (¬ kb = w.heap.size + 1 + 1 ∧ ¬ kb = w.heap.size + 1 + 1 + 1) := ⟨by have := HKL.out; omega, by have := HKL.out; omega⟩
  obtain ⟨f5, hf5⟩ := HQ5.out.rf
  obtain ⟨f4, hf4⟩ := HQ5.out.ri
  have hk2 : ¬ kb = w.heap.size + 1 + 1 := HKB.out.1
  have hk3 : ¬ kb = w.heap.size + 1 + 1 + 1 := HKB.out.2
  have hk2' : ¬ w.heap.size + 1 + 1 = kb := fun e => HKB.out.1 e.symm
  have hk3' : ¬ w.heap.size + 1 + 1 + 1 = kb := fun e => HKB.out.2 e.symm
  have r0 : w5.cell? ⟨w.heap.size + 4, 0, none⟩ = some (.slice a0 f.args.length c0) := HB5.out.1.cell (i := 0) (by decide)
  have r1 : w5.cell? ⟨w.heap.size + 4, 1, none⟩ = some (.int .i64 f.res) := HB5.out.1.cell (i := 1) (by decide)
  have r2 : w5.cell? ⟨w.heap.size + 4, 2, none⟩ = some (.int .i64 f.slots) := HB5.out.1.cell (i := 2) (by decide)
  have r3 : w5.cell? ⟨w.heap.size + 4, 3, none⟩ = some (.slice a3 f.objs.length c3) := HB5.out.1.cell (i := 3) (by decide)
  have r4 : w5.cell? ⟨w.heap.size + 4, 4, none⟩ = some (.slice (some ⟨kb, ko, none⟩) f.code.length c4) := HB5.out.1.cell (i := 4) (by decide)
  have z0 : w5.frozen? ⟨w.heap.size + 1 + 1, 0, none⟩ = false := hf5.frozen 0
  have z1 : w5.frozen? ⟨w.heap.size + 1 + 1, 1, none⟩ = false := hf5.frozen 1
  have z2 : w5.frozen? ⟨w.heap.size + 1 + 1, 2, none⟩ = false := hf5.frozen 2
  have z3 : w5.frozen? ⟨w.heap.size + 1 + 1, 3, none⟩ = false := hf5.frozen 3
  have z4 : w5.frozen? ⟨w.heap.size + 1 + 1, 4, none⟩ = false := hf5.frozen 4
  have y0 : w5.frozen? ⟨w.heap.size + 1 + 1 + 1, 0, none⟩ = false := hf4.frozen 0
  have y1 : w5.frozen? ⟨w.heap.size + 1 + 1 + 1, 1, none⟩ = false := hf4.frozen 1
  have y2 : w5.frozen? ⟨w.heap.size + 1 + 1 + 1, 2, none⟩ = false := hf4.frozen 2
  have y3 : w5.frozen? ⟨w.heap.size + 1 + 1 + 1, 3, none⟩ = false := hf4.frozen 3
  have s0 : w5.cell? ⟨w.heap.size + 1 + 1, 0, none⟩ = some (f5 0) := hf5.cell (i := 0) (by decide)
  have s1 : w5.cell? ⟨w.heap.size + 1 + 1, 1, none⟩ = some (f5 1) := hf5.cell (i := 1) (by decide)
  have s2 : w5.cell? ⟨w.heap.size + 1 + 1, 2, none⟩ = some (f5 2) := hf5.cell (i := 2) (by decide)
  have s3 : w5.cell? ⟨w.heap.size + 1 + 1, 3, none⟩ = some (f5 3) := hf5.cell (i := 3) (by decide)
  have s4 : w5.cell? ⟨w.heap.size + 1 + 1, 4, none⟩ = some (f5 4) := hf5.cell (i := 4) (by decide)
  have t0 : w5.cell? ⟨w.heap.size + 1 + 1 + 1, 0, none⟩ = some (f4 0) := hf4.cell (i := 0) (by decide)
  have t1 : w5.cell? ⟨w.heap.size + 1 + 1 + 1, 1, none⟩ = some (f4 1) := hf4.cell (i := 1) (by decide)
  have t2 : w5.cell? ⟨w.heap.size + 1 + 1 + 1, 2, none⟩ = some (f4 2) := hf4.cell (i := 2) (by decide)
  have t3 : w5.cell? ⟨w.heap.size + 1 + 1 + 1, 3, none⟩ = some (f4 3) := hf4.cell (i := 3) (by decide)
  have hl5 : w.heap.size + 1 + 1 < w5.heap.size := hf5.lt
  have hl4 : w.heap.size + 1 + 1 + 1 < w5.heap.size := hf4.lt
  clear hsz hf5 hf4 HB5 HKB
  generalize h3 : w.heap.size + 1 + 1 + 1 = g3 at *
  generalize h2 : w.heap.size + 1 + 1 = g2 at *
  generalize h4 : w.heap.size + 4 = g4 at *
  generalize h1 : w.heap.size + 1 = g1 at *
  have HG : Hid (w.heap.size ≤ g2 ∧ w.heap.size ≤ g3) := ⟨by omega, by omega⟩
  have o12 : ¬ g1 = g2 := by omega
  have o21 : ¬ g2 = g1 := by omega
  have o13 : ¬ g1 = g3 := by omega
  have o31 : ¬ g3 = g1 := by omega
  have o23 : ¬ g2 = g3 := by omega
  have o32 : ¬ g3 = g2 := by omega
  have o42 : ¬ g4 = g2 := by omega
  have o24 : ¬ g2 = g4 := by omega
  have o43 : ¬ g4 = g3 := by omega
  have o34 : ¬ g3 = g4 := by omega
  clear h1 h2 h3 h4
  go_region_held3 (fun w' => (w'.cell? ⟨g4, 0, none⟩ = some (.slice a0 f.args.length c0) ∧ w'.cell? ⟨g4, 1, none⟩ = some (.int .i64 f.res) ∧ w'.cell? ⟨g4, 2, none⟩ = some (.int .i64 f.slots) ∧ w'.cell? ⟨g4, 3, none⟩ = some (.slice a3 f.objs.length c3) ∧ w'.cell? ⟨g4, 4, none⟩ = some (.slice (some ⟨kb, ko, none⟩) f.code.length c4)) ∧ w'.cell? ⟨g1, 1, none⟩ = some (.int .i64 (k : Int)) ∧
      w'.cell? ⟨kb, ko + k * 4, none⟩ = some (.int .i64 io) ∧ w'.cell? ⟨kb, ko + k * 4 + 1, none⟩ = some (.int .i64 ia) ∧ w'.cell? ⟨kb, ko + k * 4 + 2, none⟩ = some (.int .i64 ib) ∧ w'.cell? ⟨kb, ko + k * 4 + 3, none⟩ = some (.int .i64 ic))
    (first | go_keep | exact ⟨⟨far5 r0 (by omega), far5 r1 (by omega), far5 r2 (by omega), far5 r3 (by omega), far5 r4 (by omega)⟩, far5 d4 (by omega), far5 i0 hk2, far5 i1 hk2, far5 i2 hk2, far5 i3 hk2⟩ | exact ⟨⟨far4 (far5 r0 (by omega)) (by omega), far4 (far5 r1 (by omega)) (by omega), far4 (far5 r2 (by omega)) (by omega), far4 (far5 r3 (by omega)) (by omega), far4 (far5 r4 (by omega)) (by omega)⟩, far4 (far5 d4 (by omega)) (by omega), far4 (far5 i0 hk2) hk3, far4 (far5 i1 hk2) hk3, far4 (far5 i2 hk2) hk3, far4 (far5 i3 hk2) hk3⟩ | exact ⟨⟨far4 r0 (by omega), far4 r1 (by omega), far4 r2 (by omega), far4 r3 (by omega), far4 r4 (by omega)⟩, far4 d4 (by omega), far4 i0 hk3, far4 i1 hk3, far4 i2 hk3, far4 i3 hk3⟩ | exact ⟨⟨far5 (far4 r0 (by omega)) (by omega), far5 (far4 r1 (by omega)) (by omega), far5 (far4 r2 (by omega)) (by omega), far5 (far4 r3 (by omega)) (by omega), far5 (far4 r4 (by omega)) (by omega)⟩, far5 (far4 d4 (by omega)) (by omega), far5 (far4 i0 hk3) hk2, far5 (far4 i1 hk3) hk2, far5 (far4 i2 hk3) hk2, far5 (far4 i3 hk3) hk2⟩) (fail)
  have HBel : Hid (Below w.heap.size w (((((((((w5.setCell ⟨g2, 0, none⟩ (.slice a0 f.args.length c0)).setCell ⟨g2, 1, none⟩ (.int .i64 f.res)).setCell ⟨g2, 2, none⟩ (.int .i64 f.slots)).setCell ⟨g2, 3, none⟩ (.slice a3 f.objs.length c3)).setCell ⟨g2, 4, none⟩ (.slice (some ⟨kb, ko, none⟩) f.code.length c4)).setCell ⟨g3, 0, none⟩ (.int .i64 io)).setCell ⟨g3, 1, none⟩ (.int .i64 ia)).setCell ⟨g3, 2, none⟩ (.int .i64 ib)).setCell ⟨g3, 3, none⟩ (.int .i64 ic)).drew) :=
    (below4 (below5 HQ5.out.q.low HG.out.1 _ _ _ _ _) HG.out.2 _ _ _ _).drew
  clear HQ5 HIK HG r0 r1 r2 r3 r4 d0 d1 d2 d3 d4 i0 i1 i2 i3
  go_wp2_with fail
  refine bodyPost_ret (v := .tuple #[.agg #[.slice a0 f.args.length c0, .int .i64 f.res, .int .i64 f.slots, .slice a3 f.objs.length c3, .slice (some ⟨kb, ko, none⟩) f.code.length c4], .agg #[.int .i64 io, .int .i64 ia, .int .i64 ib, .int .i64 ic], .bool true]) (by simp [results, go_sem, *]) rfl ?_
  exact ⟨a0, a3, _, c0, c3, c4, rfl, HF0.out.below HBel.out, HBel.out⟩

set_option maxRecDepth 100000 in
set_option maxHeartbeats 8000000 in
theorem find_none (p : Pg) (ag az af : Option Addr) (cg cs cf : Nat) {fn pc : Int} (ho : fnAt p fn = none ∨ ∃ f, fnAt p fn = some f ∧ inAt f pc = none) (w : World) (hp : PgV Any w (.slice ag p.glob.length cg) (.slice az p.shapes.length cs) (.slice af p.funcs.length cf) p) :
    Calls Try.prog 27 #[.agg #[.slice ag p.glob.length cg, .slice az p.shapes.length cs, .slice af p.funcs.length cf], .agg #[.int .i64 fn, .int .i64 pc]] w fun e w' => e = .returned (.tuple #[.agg #[.slice none 0 0, .int .i64 0, .int .i64 0, .slice none 0 0, .slice none 0 0], .agg #[.int .i64 0, .int .i64 0, .int .i64 0, .int .i64 0], .bool false]) ∧ Below w.heap.size w w' := by
  obtain ⟨wq, hwq⟩ : ∃ wq, (w.alloc (.cells #[.slice ag p.glob.length cg, .slice az p.shapes.length cs, .slice af p.funcs.length cf] 26)).alloc (.cells #[.int .i64 fn, .int .i64 pc] 34) = wq := ⟨_, rfl⟩
  have hA : ∀ (w : World) o, Below w.heap.size w (w.alloc o) := fun w o => (Below.refl _ _).alloc (Nat.le_refl _) _
  have HQ : Hid (OnQ w wq fn pc p ag az af cg cs cf) := onQ_start hwq hp
  have HZ : Hid (OnQ w ((wq.alloc (.cells #[.slice none 0 0, .int .i64 0, .int .i64 0, .slice none 0 0, .slice none 0 0] 41)).alloc (.cells #[.int .i64 0, .int .i64 0, .int .i64 0, .int .i64 0] 47)) fn pc p ag az af cg cs cf) := (HQ.out.below (hA _ _)).below (hA _ _)
  have hsz : wq.heap.size = w.heap.size + 2 := by rw [← hwq]; simp
  obtain ⟨d0, d1, d2, d3, d4⟩ := HZ.out.c
  have HL : Hid (Below w.heap.size w ((wq.alloc (.cells #[.slice none 0 0, .int .i64 0, .int .i64 0, .slice none 0 0, .slice none 0 0] 41)).alloc (.cells #[.int .i64 0, .int .i64 0, .int .i64 0, .int .i64 0] 47))) := HZ.out.low
  rcases ho with hf | ⟨f, hf, hi⟩
  · rcases fnAt_none hf with h | h
    · clear hf hA hsz
      go_enter Try.func27, Try.ntmps27
      go_wp2_with fail
      refine bodyPost_ret (by simp [results, go_sem]; rfl) rfl ?_
      exact ⟨rfl, HL.out⟩
    · have n1 : decide (fn < 0) = false := decide_eq_false (by omega)
      have n2 : decide ((p.funcs.length : Int) ≤ fn) = true := decide_eq_true h
      clear hf hA hsz h
      go_enter Try.func27, Try.ntmps27
      go_wp2_with fail
      refine bodyPost_ret (by simp [results, go_sem]; rfl) rfl ?_
      exact ⟨rfl, HL.out⟩
  · obtain ⟨j, rfl, hj, hfj⟩ := fnAt_some hf
    obtain ⟨b, off, v0, v1, v2, v3, v4, rfl, hb, _, u0, u1, u2, u3, u4, hfc⟩ := HZ.out.pp.funcs.some hfj
    obtain ⟨a0, c0, a3, c3, a4, c4, rfl, rfl, rfl⟩ := hfc.lens
    obtain rfl := hfc.res
    obtain rfl := hfc.slots
    have HM : Hid (OnQ w (((wq.alloc (.cells #[.slice none 0 0, .int .i64 0, .int .i64 0, .slice none 0 0, .slice none 0 0] 41)).alloc (.cells #[.int .i64 0, .int .i64 0, .int .i64 0, .int .i64 0] 47)).alloc (.cells #[.slice a0 f.args.length c0, .int .i64 f.res, .int .i64 f.slots, .slice a3 f.objs.length c3, .slice a4 f.code.length c4] 41)) (j : Int) pc p ag az (some ⟨b, off, none⟩) cg cs cf) := HZ.out.below (hA _ _)
    obtain ⟨e0, e1, e2, e3, e4⟩ := HM.out.c
    have HL2 : Hid (Below w.heap.size w (((wq.alloc (.cells #[.slice none 0 0, .int .i64 0, .int .i64 0, .slice none 0 0, .slice none 0 0] 41)).alloc (.cells #[.int .i64 0, .int .i64 0, .int .i64 0, .int .i64 0] 47)).alloc (.cells #[.slice a0 f.args.length c0, .int .i64 f.res, .int .i64 f.slots, .slice a3 f.objs.length c3, .slice a4 f.code.length c4] 41))) := HM.out.low
    have hjI : (j : Int) < (p.funcs.length : Int) := by omega
    have n1 : decide ((j : Int) < 0) = false := decide_eq_false (by omega)
    have n2 : decide ((p.funcs.length : Int) ≤ (j : Int)) = false := decide_eq_false (by omega)
    clear hf hA hsz hfc hfj hb
    rcases inAt_none hi with h | h
    · have n3 : decide (pc < 0) = true := decide_eq_true h
      clear hi
      go_enter Try.func27, Try.ntmps27
      go_wp2_with fail
      refine bodyPost_ret (by simp [results, go_sem]; rfl) rfl ?_
      exact ⟨rfl, HL2.out⟩
    · have n3 : decide (pc < 0) = false := decide_eq_false (by omega)
      have n4 : decide ((f.code.length : Int) ≤ pc) = true := decide_eq_true h
      clear hi h
      go_enter Try.func27, Try.ntmps27
      go_wp2_with fail
      refine bodyPost_ret (by simp [results, go_sem]; rfl) rfl ?_
      exact ⟨rfl, HL2.out⟩

end Go.Proofs.Ytmjappcjfjajmaa

namespace Go.Proofs.Ytmjappcjfjajmaa
open Go.RowKit

theorem src_one (w : World) (x : Int) : SrcAt (w.alloc (.cells #[.int .i64 x] 3)) (.slice (some ⟨w.heap.size, 0, none⟩) 1 1) [x] := by
  refine Or.inr ⟨w.heap.size, 0, 1, rfl, by simp, fun j hj => ?_⟩
  match j, hj with
  | 0, _ => exact cell_new w _ _ rfl
theorem src_two (w : World) (x y : Int) : SrcAt (w.alloc (.cells #[.int .i64 x, .int .i64 y] 3)) (.slice (some ⟨w.heap.size, 0, none⟩) 2 2) [x, y] := by
  refine Or.inr ⟨w.heap.size, 0, 2, rfl, by simp, fun j hj => ?_⟩
  match j, hj with
  | 0, _ => exact cell_new w _ _ rfl
  | 1, _ => exact cell_new w _ _ rfl
/-- A call answers a list that is new or none. -/
def LstIs (w : World) (L : List Int) (e : Ending) (w' : World) : Prop := ∃ v, e = .returned v ∧ SrcAt w' v L ∧ Below w.heap.size w w' ∧ IntRowV w' v
theorem lst_none {w w' : World} (hb : Below w.heap.size w w') : LstIs w [] (.returned (.slice none 0 0)) w' := ⟨_, rfl, Or.inl ⟨rfl, Or.inl rfl⟩, hb, intRowV_none _⟩
theorem lst_one {w w' : World} (hb : Below w.heap.size w w') (x : Int) : LstIs w [x] (.returned (.slice (some ⟨w'.heap.size, 0, none⟩) 1 1)) (w'.alloc (.cells #[.int .i64 x] 3)) := ⟨_, rfl, src_one w' x, hb.alloc hb.size _, intRowV_new _ _ _ _⟩
theorem lst_two {w w' : World} (hb : Below w.heap.size w w') (x y : Int) : LstIs w [x, y] (.returned (.slice (some ⟨w'.heap.size, 0, none⟩) 2 2)) (w'.alloc (.cells #[.int .i64 x, .int .i64 y] 3)) := ⟨_, rfl, src_two w' x y, hb.alloc hb.size _, intRowV_new _ _ _ _⟩
theorem nxt_else {io ia ib ic pc : Int} (h9 : ¬ io = 9) (h10 : ¬ io = 10) (h : ¬ (io = 22 ∨ io = 25 ∨ io = 27)) : nxtI ⟨io, ia, ib, ic⟩ pc = [pc + 1] := by unfold nxtI; rw [if_neg h9, if_neg h10, if_neg h]

set_option maxRecDepth 100000 in
set_option maxHeartbeats 8000000 in
theorem next_any (p : Pg) (ag az af : Option Addr) (cg cs cf : Nat) {fn pc : Int} {f : Fn} {io ia ib ic : Int} (hf : Hid (fnAt p fn = some f)) (hi : Hid (inAt f pc = some ⟨io, ia, ib, ic⟩)) (hpc : pc ≤ 3000000) (w : World) (hp : PgV Any w (.slice ag p.glob.length cg) (.slice az p.shapes.length cs) (.slice af p.funcs.length cf) p) :
    Calls Try.prog 17 #[.agg #[.slice ag p.glob.length cg, .slice az p.shapes.length cs, .slice af p.funcs.length cf], .agg #[.int .i64 fn, .int .i64 pc]] w fun e w' => LstIs w (nxtI ⟨io, ia, ib, ic⟩ pc) e w' := by
  obtain ⟨k, rfl, hk, hik⟩ := inAt_some hi.out
  obtain ⟨wp, hwp⟩ : ∃ wp, (w.alloc (.cells #[.slice ag p.glob.length cg, .slice az p.shapes.length cs, .slice af p.funcs.length cf] 26)).alloc (.cells #[.int .i64 fn, .int .i64 (k : Int)] 34) = wp := ⟨_, rfl⟩
  have HQ : Hid (OnQ w wp fn (k : Int) p ag az af cg cs cf) := onQ_start hwp hp
  obtain ⟨d0, d1, d2, d3, d4⟩ := HQ.out.c
  have hwr : IntKind.i64.wrap ((k : Int) + 1) = (k : Int) + 1 := by rw [IntKind.wrap_i64]; omega
  clear hp hik hk
  go_enter Try.func17, Try.ntmps17
  go_wp2_with fail
  refine (find_some p ag az af cg cs cf hf hi _ HQ.out.pp).mono ?_
  rintro e w1 ⟨a0, a3, a4, c0, c3, c4, rfl, _, hb⟩
  have HQ2 : Hid (OnQ w ((w1.alloc (.cells #[.slice a0 f.args.length c0, .int .i64 f.res, .int .i64 f.slots, .slice a3 f.objs.length c3, .slice a4 f.code.length c4] 41)).alloc (.cells #[.int .i64 io, .int .i64 ia, .int .i64 ib, .int .i64 ic] 47)) fn (k : Int) p ag az af cg cs cf) := ((HQ.out.below hb).below ((Below.refl _ _).alloc (Nat.le_refl _) _)).below ((Below.refl _ _).alloc (Nat.le_refl _) _)
  have HI : Hid (((w1.alloc (.cells #[.slice a0 f.args.length c0, .int .i64 f.res, .int .i64 f.slots, .slice a3 f.objs.length c3, .slice a4 f.code.length c4] 41)).alloc (.cells #[.int .i64 io, .int .i64 ia, .int .i64 ib, .int .i64 ic] 47)).cell? ⟨w1.heap.size + 1, 0, none⟩ = some (.int .i64 io) ∧ ((w1.alloc (.cells #[.slice a0 f.args.length c0, .int .i64 f.res, .int .i64 f.slots, .slice a3 f.objs.length c3, .slice a4 f.code.length c4] 41)).alloc (.cells #[.int .i64 io, .int .i64 ia, .int .i64 ib, .int .i64 ic] 47)).cell? ⟨w1.heap.size + 1, 2, none⟩ = some (.int .i64 ib)) := by
    have h0 := cell_new (w1.alloc (.cells #[.slice a0 f.args.length c0, .int .i64 f.res, .int .i64 f.slots, .slice a3 f.objs.length c3, .slice a4 f.code.length c4] 41)) #[.int .i64 io, .int .i64 ia, .int .i64 ib, .int .i64 ic] 47 (j := 0) rfl
    have h2 := cell_new (w1.alloc (.cells #[.slice a0 f.args.length c0, .int .i64 f.res, .int .i64 f.slots, .slice a3 f.objs.length c3, .slice a4 f.code.length c4] 41)) #[.int .i64 io, .int .i64 ia, .int .i64 ib, .int .i64 ic] 47 (j := 2) rfl
    rw [World.size_alloc] at h0 h2
    exact ⟨h0, h2⟩
  clear hb d0 d1 d2 d3 d4 HQ hwp
  go_upto_region 4 with (fail)
  generalize (w1.alloc (.cells #[.slice a0 f.args.length c0, .int .i64 f.res, .int .i64 f.slots, .slice a3 f.objs.length c3, .slice a4 f.code.length c4] 41)).alloc (.cells #[.int .i64 io, .int .i64 ia, .int .i64 ib, .int .i64 ic] 47) = w2 at *
  generalize w1.heap.size + 1 = gi at *
  obtain ⟨d0, d1, d2, d3, d4⟩ := HQ2.out.c
  obtain ⟨i0, i2⟩ := HI.out
  by_cases h9 : io = 9
  · subst h9
    have HN : Hid (nxtI ⟨9, ia, ib, ic⟩ (k : Int) = [ib]) := rfl
    go_wp2_with fail
    go_ret
    rw [HN.out]
    exact lst_one HQ2.out.low ib
  · by_cases h10 : io = 10
    · subst h10
      by_cases hb : ib = (k : Int) + 1
      · have HN : Hid (nxtI ⟨10, ia, ib, ic⟩ (k : Int) = [(k : Int) + 1]) := by unfold Hid nxtI; rw [hb]; simp
        have hd : (ib == (k : Int) + 1) = true := by simpa using hb
        have hd2 : (ib != (k : Int) + 1) = false := by simpa using hb
        clear hb h9
        go_wp2_with fail
        go_ret
        rw [HN.out]
        exact lst_one HQ2.out.low ((k : Int) + 1)
      · have HN : Hid (nxtI ⟨10, ia, ib, ic⟩ (k : Int) = [(k : Int) + 1, ib]) := by unfold Hid nxtI; simp [hb]
        have hd : (ib == (k : Int) + 1) = false := by simpa using hb
        have hd2 : (ib != (k : Int) + 1) = true := by simpa using hb
        clear hb h9
        go_wp2_with fail
        go_ret
        rw [HN.out]
        exact lst_two HQ2.out.low ((k : Int) + 1) ib
    · by_cases h : io = 22 ∨ io = 25 ∨ io = 27
      · have HN : Hid (nxtI ⟨io, ia, ib, ic⟩ (k : Int) = []) := by unfold Hid nxtI; rw [if_neg h9, if_neg h10, if_pos h]
        clear h9 h10
        rcases h with rfl | rfl | rfl
        all_goals
          go_wp2_with fail
          go_ret
          rw [HN.out]
          exact lst_none HQ2.out.low
      · have HN : Hid (nxtI ⟨io, ia, ib, ic⟩ (k : Int) = [(k : Int) + 1]) := nxt_else h9 h10 h
        have e9 : (io == 9) = false := by simpa using h9
        have e10 : (io == 10) = false := by simpa using h10
        have e22 : (io == 22) = false := by simpa using fun e => h (Or.inl e)
        have e25 : (io == 25) = false := by simpa using fun e => h (Or.inr (Or.inl e))
        have e27 : (io == 27) = false := by simpa using fun e => h (Or.inr (Or.inr e))
        clear h9 h10 h
        go_wp2_with fail
        go_ret
        rw [HN.out]
        exact lst_one HQ2.out.low ((k : Int) + 1)

set_option maxRecDepth 100000 in
set_option maxHeartbeats 8000000 in
theorem refNext_any {io ia ib ic pc : Int} (hpc : pc ≤ 3000000) (hpc0 : 0 ≤ pc) (w : World) :
    Calls Try.prog 18 #[.agg #[.int .i64 io, .int .i64 ia, .int .i64 ib, .int .i64 ic], .int .i64 pc] w fun e w' => LstIs w (nxtI ⟨io, ia, ib, ic⟩ pc) e w' := by
  have hwr : IntKind.i64.wrap (pc + 1) = pc + 1 := by rw [IntKind.wrap_i64]; omega
  have HL : Hid (Below w.heap.size w (w.alloc (.cells #[.int .i64 io, .int .i64 ia, .int .i64 ib, .int .i64 ic] 47))) := (Below.refl _ _).alloc (Nat.le_refl _) _
  have i0 : (w.alloc (.cells #[.int .i64 io, .int .i64 ia, .int .i64 ib, .int .i64 ic] 47)).cell? ⟨w.heap.size, 0, none⟩ = some (.int .i64 io) := cell_new w _ _ rfl
  have i2 : (w.alloc (.cells #[.int .i64 io, .int .i64 ia, .int .i64 ib, .int .i64 ic] 47)).cell? ⟨w.heap.size, 2, none⟩ = some (.int .i64 ib) := cell_new w _ _ rfl
  obtain ⟨w2, hw2⟩ : ∃ w2, w.alloc (.cells #[.int .i64 io, .int .i64 ia, .int .i64 ib, .int .i64 ic] 47) = w2 := ⟨_, rfl⟩
  rw [hw2] at HL i0 i2
  clear hpc hpc0
  by_cases h9 : io = 9
  · subst h9
    have HN : Hid (nxtI ⟨9, ia, ib, ic⟩ pc = [ib]) := rfl
    rw [HN.out]
    go_enter Try.func18, Try.ntmps18
    go_wp2_with fail
    go_ret
    exact lst_one HL.out ib
  · by_cases h10 : io = 10
    · subst h10
      by_cases hb : ib = pc + 1
      · have HN : Hid (nxtI ⟨10, ia, ib, ic⟩ pc = [ib]) := by unfold Hid nxtI; rw [hb]; simp
        rw [HN.out]
        have hd : (ib == pc + 1) = true := by simpa using hb
        clear hb h9
        go_enter Try.func18, Try.ntmps18
        go_wp2_with fail
        go_ret
        exact lst_one HL.out ib
      · have HN : Hid (nxtI ⟨10, ia, ib, ic⟩ pc = [pc + 1, ib]) := by unfold Hid nxtI; simp [hb]
        rw [HN.out]
        have hd : (ib == pc + 1) = false := by simpa using hb
        clear hb h9
        go_enter Try.func18, Try.ntmps18
        go_wp2_with fail
        go_ret
        exact lst_two HL.out (pc + 1) ib
    · by_cases h : io = 22 ∨ io = 25 ∨ io = 27
      · have HN : Hid (nxtI ⟨io, ia, ib, ic⟩ pc = []) := by unfold Hid nxtI; rw [if_neg h9, if_neg h10, if_pos h]
        rw [HN.out]
        clear HN h9 h10
        rcases h with rfl | rfl | rfl
        all_goals
          go_enter Try.func18, Try.ntmps18
          go_wp2_with fail
          go_ret
          exact lst_none HL.out
      · rw [nxt_else h9 h10 h]
        have e9 : (io == 9) = false := by simpa using h9
        have e10 : (io == 10) = false := by simpa using h10
        have e22 : (io == 22) = false := by simpa using fun e => h (Or.inl e)
        have e25 : (io == 25) = false := by simpa using fun e => h (Or.inr (Or.inl e))
        have e27 : (io == 27) = false := by simpa using fun e => h (Or.inr (Or.inr e))
        clear h9 h10 h
        go_enter Try.func18, Try.ntmps18
        go_wp2_with fail
        go_ret
        exact lst_one HL.out (pc + 1)

end Go.Proofs.Ytmjappcjfjajmaa

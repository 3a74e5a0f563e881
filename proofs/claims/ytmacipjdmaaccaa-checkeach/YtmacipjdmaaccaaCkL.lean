/- The walk of the document's Instr. -/
import Derived.Test.YtmacipjdmaaccaaCkK
namespace Go.Proofs.Ytmacipjdmaaccaa
open Go.RowKit

def viC (ia ib ic : Int) (k : Nat) : Value := if k = 0 then .int .i64 ia else if k = 1 then .int .i64 ib else .int .i64 ic
theorem vi_box (w : World) (ia ib ic : Int) : (w.alloc (.cells #[.int .i64 ia, .int .i64 ib, .int .i64 ic] 3)).rowIs w.heap.size 3 3 (viC ia ib ic) :=
  World.rowIs_alloc w #[.int .i64 ia, .int .i64 ib, .int .i64 ic] 3 _ (fun k hk => by
    have : k = 0 ∨ k = 1 ∨ k = 2 := by simp at hk; omega
    rcases this with rfl | rfl | rfl <;> rfl)
def inC (io ia ib ic : Int) (k : Nat) : Value := if k = 0 then .int .i64 io else if k = 1 then .int .i64 ia else if k = 2 then .int .i64 ib else .int .i64 ic
theorem in_box (w : World) (io ia ib ic : Int) : (w.alloc (.cells #[.int .i64 io, .int .i64 ia, .int .i64 ib, .int .i64 ic] 52)).rowIs w.heap.size 52 4 (inC io ia ib ic) :=
  World.rowIs_alloc w #[.int .i64 io, .int .i64 ia, .int .i64 ib, .int .i64 ic] 52 _ (fun k hk => by
    have : k = 0 ∨ k = 1 ∨ k = 2 ∨ k = 3 := by simp at hk; omega
    rcases this with rfl | rfl | rfl | rfl <;> rfl)

/-- The boxes of a program, a function, an instruction, one behind the other at the end of w. -/
structure OnJ (w wk : World) (p : Pg) (f : Fn) (io ia ib ic : Int) (ag az af : Option Addr) (cg cs cf : Nat) (a0 a3 a4 : Option Addr) (c0 c3 c4 : Nat) : Prop where
  low : Below w.heap.size w wk
  rp : wk.rowIs w.heap.size 26 3 (pgC (.slice ag p.glob.length cg) (.slice az p.shapes.length cs) (.slice af p.funcs.length cf))
  rf : wk.rowIs (w.heap.size + 1) 41 5 (fnC f a0 a3 a4 c0 c3 c4)
  ri : wk.rowIs (w.heap.size + 2) 52 4 (inC io ia ib ic)
  pp : PgV Any wk (.slice ag p.glob.length cg) (.slice az p.shapes.length cs) (.slice af p.funcs.length cf) p
/-- And the list of its operands. -/
structure OnK (w wk : World) (vb : Nat) (p : Pg) (f : Fn) (io ia ib ic : Int) (ag az af : Option Addr) (cg cs cf : Nat) (a0 a3 a4 : Option Addr) (c0 c3 c4 : Nat) : Prop where
  j : OnJ w wk p f io ia ib ic ag az af cg cs cf a0 a3 a4 c0 c3 c4
  rv : wk.rowIs vb 3 3 (viC ia ib ic)
section
variable {p : Pg} {f : Fn} {io ia ib ic : Int} {ag az af a0 a3 a4 : Option Addr} {cg cs cf c0 c3 c4 : Nat} {w wk w2 : World} {vb : Nat}
theorem OnJ.below (h : OnJ w wk p f io ia ib ic ag az af cg cs cf a0 a3 a4 c0 c3 c4) (hb : Below wk.heap.size wk w2) : OnJ w w2 p f io ia ib ic ag az af cg cs cf a0 a3 a4 c0 c3 c4 :=
  ⟨h.low.trans (hb.mono h.low.size), h.rp.of_block (hb.block _ h.rp.lt), h.rf.of_block (hb.block _ h.rf.lt), h.ri.of_block (hb.block _ h.ri.lt), h.pp.below hb⟩
theorem OnJ.c (h : OnJ w wk p f io ia ib ic ag az af cg cs cf a0 a3 a4 c0 c3 c4) : (wk.cell? ⟨w.heap.size, 0, none⟩ = some (.slice ag p.glob.length cg) ∧ wk.cell? ⟨w.heap.size, 1, none⟩ = some (.slice az p.shapes.length cs) ∧ wk.cell? ⟨w.heap.size, 2, none⟩ = some (.slice af p.funcs.length cf)) ∧
    (wk.cell? ⟨w.heap.size + 1, 0, none⟩ = some (.slice a0 f.args.length c0) ∧ wk.cell? ⟨w.heap.size + 1, 1, none⟩ = some (.int .i64 f.res) ∧ wk.cell? ⟨w.heap.size + 1, 2, none⟩ = some (.int .i64 f.slots) ∧ wk.cell? ⟨w.heap.size + 1, 3, none⟩ = some (.slice a3 f.objs.length c3) ∧ wk.cell? ⟨w.heap.size + 1, 4, none⟩ = some (.slice a4 f.code.length c4)) ∧
    wk.cell? ⟨w.heap.size + 2, 0, none⟩ = some (.int .i64 io) ∧ wk.cell? ⟨w.heap.size + 2, 1, none⟩ = some (.int .i64 ia) ∧ wk.cell? ⟨w.heap.size + 2, 2, none⟩ = some (.int .i64 ib) ∧ wk.cell? ⟨w.heap.size + 2, 3, none⟩ = some (.int .i64 ic) :=
  ⟨⟨h.rp.cell (i := 0) (by decide), h.rp.cell (i := 1) (by decide), h.rp.cell (i := 2) (by decide)⟩,
    ⟨h.rf.cell (i := 0) (by decide), h.rf.cell (i := 1) (by decide), h.rf.cell (i := 2) (by decide), h.rf.cell (i := 3) (by decide), h.rf.cell (i := 4) (by decide)⟩,
    h.ri.cell (i := 0) (by decide), h.ri.cell (i := 1) (by decide), h.ri.cell (i := 2) (by decide), h.ri.cell (i := 3) (by decide)⟩
theorem OnK.below (h : OnK w wk vb p f io ia ib ic ag az af cg cs cf a0 a3 a4 c0 c3 c4) (hb : Below wk.heap.size wk w2) : OnK w w2 vb p f io ia ib ic ag az af cg cs cf a0 a3 a4 c0 c3 c4 := ⟨h.j.below hb, h.rv.of_block (hb.block _ h.rv.lt)⟩
theorem OnK.drewN (h : OnK w wk vb p f io ia ib ic ag az af cg cs cf a0 a3 a4 c0 c3 c4) (q : Nat) : OnK w (wk.drewN q) vb p f io ia ib ic ag az af cg cs cf a0 a3 a4 c0 c3 c4 := h.below (below_drewN (Below.refl _ _) q)
theorem OnK.v (h : OnK w wk vb p f io ia ib ic ag az af cg cs cf a0 a3 a4 c0 c3 c4) : wk.cell? ⟨vb, 0, none⟩ = some (.int .i64 ia) ∧ wk.cell? ⟨vb, 1, none⟩ = some (.int .i64 ib) ∧ wk.cell? ⟨vb, 2, none⟩ = some (.int .i64 ic) :=
  ⟨h.rv.cell (i := 0) (by decide), h.rv.cell (i := 1) (by decide), h.rv.cell (i := 2) (by decide)⟩
theorem OnK.m (h : OnK w wk vb p f io ia ib ic ag az af cg cs cf a0 a3 a4 c0 c3 c4) : (wk.cell? ⟨w.heap.size, 0, none⟩ = some (.slice ag p.glob.length cg) ∧ wk.cell? ⟨w.heap.size, 1, none⟩ = some (.slice az p.shapes.length cs) ∧ wk.cell? ⟨w.heap.size, 2, none⟩ = some (.slice af p.funcs.length cf)) ∧
    (wk.cell? ⟨w.heap.size + 1, 0, none⟩ = some (.slice a0 f.args.length c0) ∧ wk.cell? ⟨w.heap.size + 1, 1, none⟩ = some (.int .i64 f.res) ∧ wk.cell? ⟨w.heap.size + 1, 2, none⟩ = some (.int .i64 f.slots) ∧ wk.cell? ⟨w.heap.size + 1, 3, none⟩ = some (.slice a3 f.objs.length c3) ∧ wk.cell? ⟨w.heap.size + 1, 4, none⟩ = some (.slice a4 f.code.length c4)) :=
  ⟨h.j.c.1, h.j.c.2.1⟩
end

/-- Behind the three boxes. -/
theorem onJ_start (p : Pg) (f : Fn) (io ia ib ic : Int) (ag az af : Option Addr) (cg cs cf : Nat) (a0 a3 a4 : Option Addr) (c0 c3 c4 : Nat) {w wj : World} (hwj : ((w.alloc (.cells #[.slice ag p.glob.length cg, .slice az p.shapes.length cs, .slice af p.funcs.length cf] 26)).alloc (.cells #[.slice a0 f.args.length c0, .int .i64 f.res, .int .i64 f.slots, .slice a3 f.objs.length c3, .slice a4 f.code.length c4] 41)).alloc (.cells #[.int .i64 io, .int .i64 ia, .int .i64 ib, .int .i64 ic] 52) = wj) (hp : PgV Any w (.slice ag p.glob.length cg) (.slice az p.shapes.length cs) (.slice af p.funcs.length cf) p) : OnJ w wj p f io ia ib ic ag az af cg cs cf a0 a3 a4 c0 c3 c4 := by
  have hA : Below w.heap.size w wj := hwj ▸ ((((Below.refl _ _).alloc (Nat.le_refl _) _).alloc (by simp) _).alloc (by simp; omega) _)
  subst hwj
  refine ⟨hA, ((pg_box w _ _ _ ag az af cg cs cf).alloc _).alloc _, ?_, ?_, hp.below hA⟩
  · have := (fn_box (w.alloc (.cells #[.slice ag p.glob.length cg, .slice az p.shapes.length cs, .slice af p.funcs.length cf] 26)) f a0 a3 a4 c0 c3 c4).alloc (.cells #[.int .i64 io, .int .i64 ia, .int .i64 ib, .int .i64 ic] 52)
    rw [World.size_alloc] at this
    exact this
  · have := in_box ((w.alloc (.cells #[.slice ag p.glob.length cg, .slice az p.shapes.length cs, .slice af p.funcs.length cf] 26)).alloc (.cells #[.slice a0 f.args.length c0, .int .i64 f.res, .int .i64 f.slots, .slice a3 f.objs.length c3, .slice a4 f.code.length c4] 41)) io ia ib ic
    rw [World.size_alloc, World.size_alloc] at this
    exact this

/-- Is it bad, behind the first j operands? -/
def badV (o0 o1 o2 : Bool) (j : Nat) : Bool := if j = 0 then false else if j = 1 then !o0 else if j = 2 then !(o0 && o1) else !(o0 && (o1 && o2))
/-- What the letters tell of an operand. -/
def OkIs (p : Pg) (f : Fn) (K : Nat) (x v : Int) (o : Bool) : Prop := Lets x ∧ hasB p f K (nl x) v = o

set_option maxRecDepth 100000 in
set_option maxHeartbeats 4000000 in
theorem refInstr_out (p : Pg) (ag az af : Option Addr) (cg cs cf : Nat) {fn pc : Int} (ho : fnAt p fn = none ∨ ∃ f, fnAt p fn = some f ∧ inAt f pc = none) (w : World) (hp : PgV Any w (.slice ag p.glob.length cg) (.slice az p.shapes.length cs) (.slice af p.funcs.length cf) p) :
    Calls Try.prog 13 #[.agg #[.slice ag p.glob.length cg, .slice az p.shapes.length cs, .slice af p.funcs.length cf], .int .i64 fn, .int .i64 pc] w fun e w' => e = .returned (.int .i64 1) ∧ Below w.heap.size w w' := by
  obtain ⟨wp, hwp⟩ : ∃ wp, w.alloc (.cells #[.slice ag p.glob.length cg, .slice az p.shapes.length cs, .slice af p.funcs.length cf] 26) = wp := ⟨_, rfl⟩
  have hA : Below w.heap.size w wp := hwp ▸ (Below.refl _ _).alloc (Nat.le_refl _) _
  have HA : Hid (Below w.heap.size w wp) := hA
  have d2 : wp.cell? ⟨w.heap.size, 2, none⟩ = some (.slice af p.funcs.length cf) := hwp ▸ cell_new w _ _ rfl
  rcases ho with hf | ⟨f, hf, hi⟩
  · by_cases h0 : fn < 0
    · clear hf hp hA
      go_enter Try.func13, Try.ntmps13
      go_wp2_with fail
      go_ret
      exact ⟨rfl, HA.out⟩
    · have h1 : (p.funcs.length : Int) ≤ fn := by
        rcases fnAt_none hf with h | h
        · exact absurd h h0
        · exact h
      clear hf hp hA
      go_enter Try.func13, Try.ntmps13
      go_wp2_with fail
      go_ret
      exact ⟨rfl, HA.out⟩
  · obtain ⟨j, rfl, hj, hfj⟩ := fnAt_some hf
    obtain ⟨b, off, v0, v1, v2, v3, v4, rfl, hb, _, k0, k1, k2, k3, k4, hfc⟩ := (hp.below hA).funcs.some hfj
    obtain ⟨a0, c0, a3, c3, a4, c4, rfl, rfl, rfl⟩ := hfc.lens
    have hjI : (j : Int) < (p.funcs.length : Int) := by omega
    clear hfc hp hA hf hfj hb
    by_cases h0 : pc < 0
    · clear hi
      go_enter Try.func13, Try.ntmps13
      go_wp2_with fail
      go_ret
      exact ⟨rfl, HA.out⟩
    · have h1 : (f.code.length : Int) ≤ pc := by
        rcases inAt_none hi with h | h
        · exact absurd h h0
        · exact h
      clear hi
      go_enter Try.func13, Try.ntmps13
      go_wp2_with fail
      go_ret
      exact ⟨rfl, HA.out⟩

end Go.Proofs.Ytmacipjdmaaccaa

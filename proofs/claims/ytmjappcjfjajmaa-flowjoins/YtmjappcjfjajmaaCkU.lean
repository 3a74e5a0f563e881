/- A program's boxes; Small (out of ImL, ImM, ImU, for seats that don't reach package image). -/
import Derived.Test.YtmjappcjfjajmaaImJ
namespace Go.Proofs.Ytmjappcjfjajmaa
open Go.RowKit

/-- A program's lists may be as long as lists may be. -/
structure Len (p : Pg) : Prop where
  glob : p.glob.length ≤ maxLen
  shapes : p.shapes.length ≤ maxLen
  funcs : p.funcs.length ≤ maxLen
  es : ∀ L ∈ p.shapes, L.length ≤ maxLen
  ef : ∀ f ∈ p.funcs, f.args.length ≤ maxLen ∧ f.objs.length ≤ maxLen ∧ f.code.length ≤ maxLen
theorem smallN {p : Pg} (hl : Len p) (ag az af : Option Addr) (cg cs cf : Nat) (w : World) {s : Bool} (hs : Hid (decide (szP p ≤ 3000) = s)) (h : PgV Any w (.slice ag p.glob.length cg) (.slice az p.shapes.length cs) (.slice af p.funcs.length cf) p) :
    Calls Try.prog 7 #[.agg #[.slice ag p.glob.length cg, .slice az p.shapes.length cs, .slice af p.funcs.length cf]] w fun e w' => e = .returned (.bool s) ∧ Below w.heap.size w w' :=
  hs.out ▸ small_any p ag az af cg cs cf w h hl.glob hl.shapes hl.funcs hl.es hl.ef
theorem below_q {w w' : World} (h : ∃ q, w' = w.drewN q) : Below w.heap.size w w' := by
  obtain ⟨q, rfl⟩ := h
  exact below_drewN (Below.refl _ _) q

/-- A program's box. -/
def pgC (vg vs vf : Value) (i : Nat) : Value := if i = 0 then vg else if i = 1 then vs else vf
theorem pg_box (w : World) (n0 n1 n2 : Nat) (ag az af : Option Addr) (cg cs cf : Nat) : (w.alloc (.cells #[.slice ag n0 cg, .slice az n1 cs, .slice af n2 cf] 26)).rowIs w.heap.size 26 3 (pgC (.slice ag n0 cg) (.slice az n1 cs) (.slice af n2 cf)) :=
  World.rowIs_alloc w #[.slice ag n0 cg, .slice az n1 cs, .slice af n2 cf] 26 _ (fun k hk => by
    have : k = 0 ∨ k = 1 ∨ k = 2 := by simp at hk; omega
    rcases this with rfl | rfl | rfl <;> rfl)

theorem PgV.lens {P : Nat → Prop} {w : World} {vg vs vf : Value} {p : Pg} (h : PgV P w vg vs vf p) : ∃ ag cg az cs af cf, vg = .slice ag p.glob.length cg ∧ vs = .slice az p.shapes.length cs ∧ vf = .slice af p.funcs.length cf := by
  obtain ⟨ag, cg, eg⟩ := h.glob.len
  obtain ⟨az, cs, es⟩ := h.shapes.len
  obtain ⟨af, cf, ef⟩ := h.funcs.len
  exact ⟨ag, cg, az, cs, af, cf, eg, es, ef⟩
/-- A function's box. -/
def fnC (f : Fn) (a0 a3 a4 : Option Addr) (c0 c3 c4 : Nat) (k : Nat) : Value := (#[Value.slice a0 f.args.length c0, .int .i64 f.res, .int .i64 f.slots, .slice a3 f.objs.length c3, .slice a4 f.code.length c4] : Array Value).getD k undef
theorem fn_box (w : World) (f : Fn) (a0 a3 a4 : Option Addr) (c0 c3 c4 : Nat) : (w.alloc (.cells #[.slice a0 f.args.length c0, .int .i64 f.res, .int .i64 f.slots, .slice a3 f.objs.length c3, .slice a4 f.code.length c4] 41)).rowIs w.heap.size 41 5 (fnC f a0 a3 a4 c0 c3 c4) :=
  World.rowIs_alloc w #[.slice a0 f.args.length c0, .int .i64 f.res, .int .i64 f.slots, .slice a3 f.objs.length c3, .slice a4 f.code.length c4] 41 _ (fun k hk => by
    have : k = 0 ∨ k = 1 ∨ k = 2 ∨ k = 3 ∨ k = 4 := by simp at hk; omega
    rcases this with rfl | rfl | rfl | rfl | rfl <;> rfl)

end Go.Proofs.Ytmjappcjfjajmaa

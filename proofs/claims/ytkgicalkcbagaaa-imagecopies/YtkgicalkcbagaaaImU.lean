/- The walk of ImageUnlike. -/
import Derived.Test.YtkgicalkcbagaaaImN
import Derived.Test.YtkgicalkcbagaaaImJ
namespace Go.Proofs.Ytkgicalkcbagaaa
open Go.RowKit

/-- A program's lists may be as long as lists may be. -/
structure Len (p : Pg) : Prop where
  glob : p.glob.length ≤ maxLen
  shapes : p.shapes.length ≤ maxLen
  funcs : p.funcs.length ≤ maxLen
  es : ∀ L ∈ p.shapes, L.length ≤ maxLen
  ef : ∀ f ∈ p.funcs, f.args.length ≤ maxLen ∧ f.objs.length ≤ maxLen ∧ f.code.length ≤ maxLen
theorem smallN {p : Pg} (hl : Len p) (ag az af : Option Addr) (cg cs cf : Nat) (w : World) {s : Bool} (hs : Hid (decide (szP p ≤ 3000) = s)) (h : PgV Any w (.slice ag p.glob.length cg) (.slice az p.shapes.length cs) (.slice af p.funcs.length cf) p) :
    Calls Try.prog 5 #[.agg #[.slice ag p.glob.length cg, .slice az p.shapes.length cs, .slice af p.funcs.length cf]] w fun e w' => e = .returned (.bool s) ∧ Below w.heap.size w w' :=
  hs.out ▸ small_any p ag az af cg cs cf w h hl.glob hl.shapes hl.funcs hl.es hl.ef
theorem layN_ {p : Pg} {S : ByteArray} {k : Int} (hS : Hid (layPR p = S ∧ layPE p = k)) (ag az af : Option Addr) (cg cs cf : Nat) (w : World) (hz : szP p ≤ 3000) (h : PgV Any w (.slice ag p.glob.length cg) (.slice az p.shapes.length cs) (.slice af p.funcs.length cf) p) :
    Calls Try.prog 7 #[.agg #[.slice ag p.glob.length cg, .slice az p.shapes.length cs, .slice af p.funcs.length cf]] w fun e w' => e = .returned (.tuple #[.string S, .int .i64 k]) ∧ Below w.heap.size w w' := by
  have := layP_any p ag az af cg cs cf w h hz
  rw [hS.out.1, hS.out.2] at this
  exact this
theorem strOfNums_inj {t u : List Int} (ht : Byt t) (hu : Byt u) (h : strOfNums t = strOfNums u) : t = u := by
  have hl : t.length = u.length := by
    have := congrArg ByteArray.size h
    rwa [strOfNums_size, strOfNums_size] at this
  refine List.ext_getElem hl fun j h1 h2 => ?_
  have e1 := nums_at ht h1
  have e2 := nums_at hu h2
  rw [h, e2] at e1
  simpa [h1, h2] using e1.symm
theorem toList_ne {S T : ByteArray} (h : ¬ S = T) : ¬ S.toList = T.toList := fun e => h (ByteArray.ext (Array.toList_inj.1 (by rw [← ByteArray.toList_eq, ← ByteArray.toList_eq, e])))
theorem lay_same {p q : Pg} (hp : okP p = true) (hq : okP q = true) : layPR p = layPR q ↔ p = q := by
  rw [layPR_ok hp, layPR_ok hq]
  exact ⟨fun h => lyP_inj hp hq (strOfNums_inj (lyP_byt hp) (lyP_byt hq) h), fun h => by rw [h]⟩

end Go.Proofs.Ytkgicalkcbagaaa

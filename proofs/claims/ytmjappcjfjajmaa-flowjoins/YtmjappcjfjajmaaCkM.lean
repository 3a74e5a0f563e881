/- Plain mathematics of chapter 11: the form of programs, place by place. -/
import Derived.Test.YtmjappcjfjajmaaCkU
import Derived.Test.YtmjappcjfjajmaaShE
namespace Go.Proofs.Ytmjappcjfjajmaa
open Go.RowKit

def inB (v n : Int) : Bool := decide (0 ≤ v) && decide (v < n)
/-- What A, B and C of an op name: 0 nothing, 1 a slot, 2 the first of the arguments, 3 a target, 4 a function, 5 a shape, 6 a global, 7 a stack object, 8 a field. -/
def nmT : List (Int × Int × Int) := [(0, 0, 0), (1, 0, 0), (1, 1, 0), (1, 1, 1), (1, 1, 1), (1, 1, 1), (1, 1, 1), (1, 1, 1), (1, 1, 1), (0, 3, 0), (1, 3, 0), (1, 5, 0), (1, 1, 0), (1, 5, 0), (1, 1, 8), (1, 8, 1), (1, 6, 0), (6, 1, 0), (1, 7, 0), (1, 1, 8), (1, 8, 1),
  (1, 4, 2), (1, 0, 0), (0, 4, 2), (0, 4, 2), (1, 1, 0), (1, 1, 0), (0, 0, 0), (0, 0, 0), (1, 0, 0)]
def nm (op : Int) : Int × Int × Int := if kn op = true then nmT.getD op.toNat (0, 0, 0) else (0, 0, 0)

def fnAt (p : Pg) (n : Int) : Option Fn := if 0 ≤ n then p.funcs[n.toNat]? else none
def inAt (f : Fn) (n : Int) : Option Ins := if 0 ≤ n then f.code[n.toNat]? else none
theorem fnAt_some {p : Pg} {n : Int} {f : Fn} (h : fnAt p n = some f) : ∃ j : Nat, n = (j : Int) ∧ j < p.funcs.length ∧ p.funcs[j]? = some f := by
  unfold fnAt at h
  split at h
  · exact ⟨n.toNat, by omega, (List.getElem?_eq_some_iff.1 h).1, h⟩
  · cases h
theorem fnAt_none {p : Pg} {n : Int} (h : fnAt p n = none) : n < 0 ∨ (p.funcs.length : Int) ≤ n := by
  unfold fnAt at h
  split at h
  · have := List.getElem?_eq_none_iff.1 h
    omega
  · omega
theorem fnAt_nat {p : Pg} {j : Nat} {f : Fn} (h : p.funcs[j]? = some f) : fnAt p (j : Int) = some f := by
  unfold fnAt
  rw [if_pos (by omega), Int.toNat_natCast, h]
theorem inAt_some {f : Fn} {n : Int} {i : Ins} (h : inAt f n = some i) : ∃ j : Nat, n = (j : Int) ∧ j < f.code.length ∧ f.code[j]? = some i := by
  unfold inAt at h
  split at h
  · exact ⟨n.toNat, by omega, (List.getElem?_eq_some_iff.1 h).1, h⟩
  · cases h
theorem inAt_none {f : Fn} {n : Int} (h : inAt f n = none) : n < 0 ∨ (f.code.length : Int) ≤ n := by
  unfold inAt at h
  split at h
  · have := List.getElem?_eq_none_iff.1 h
    omega
  · omega
theorem inAt_nat {f : Fn} {j : Nat} {i : Ins} (h : f.code[j]? = some i) : inAt f (j : Int) = some i := by
  unfold inAt
  rw [if_pos (by omega), Int.toNat_natCast, h]
theorem fnAt_inB (p : Pg) (n : Int) : inB n p.funcs.length = (fnAt p n).isSome := by
  cases h : fnAt p n with
  | none =>
    rcases fnAt_none h with h | h
    · simp [inB, show ¬ 0 ≤ n by omega]
    · simp [inB, show ¬ n < (p.funcs.length : Int) by omega]
  | some f =>
    obtain ⟨j, rfl, hj, _⟩ := fnAt_some h
    simp [inB, hj]

/-- How many arguments a function has. -/
def arN (p : Pg) (n : Int) : Nat := match fnAt p n with | some g => g.args.length | none => 0
/-- Is its A the result of a function that has none? -/
def resl (p : Pg) (f : Fn) (i : Ins) : Bool := if i.o = 22 then f.res == 0 else if i.o = 21 then (match fnAt p i.b with | some g => g.res == 0 | none => false) else false
def formB (p : Pg) (f : Fn) (i : Ins) : Bool := kn i.o && ((((ro i.o).1 != 0 && !resl p f i) || i.a == 0) && ((ro i.o).2.1 != 0 || i.b == 0) && ((ro i.o).2.2 != 0 || i.c == 0))
/-- Is there what an operand names? (k: how many arguments the function has that the instruction names.) -/
def hasB (p : Pg) (f : Fn) (k : Nat) (n v : Int) : Bool :=
  if n = 1 then inB v f.slots else if n = 2 then decide (0 ≤ v) && (decide (v ≤ f.slots) && decide ((k : Int) ≤ f.slots - v)) else if n = 3 then inB v f.code.length else if n = 4 then inB v p.funcs.length else
  if n = 5 then inB v p.shapes.length else if n = 6 then inB v p.glob.length else if n = 7 then inB v f.objs.length else if n = 8 then inB v 16 else true
def nm0 (p : Pg) (f : Fn) (i : Ins) : Int := if resl p f i = true then 0 else (nm i.o).1
def placB (p : Pg) (f : Fn) (i : Ins) : Bool := hasB p f (arN p i.b) (nm0 p f i) i.a && (hasB p f (arN p i.b) (nm i.o).2.1 i.b && hasB p f (arN p i.b) (nm i.o).2.2 i.c)
def kindB (p : Pg) (i : Ins) : Bool :=
  if i.o = 25 ∨ i.o = 26 then decide (0 < p.shapes.length) else if i.o = 23 ∨ i.o = 24 then (match fnAt p i.b with | some g => g.res == 0 && !(g.args.any (upB 64)) | none => true) else true
def insE (p : Pg) (f : Fn) (i : Ins) : Int := if formB p f i = true then (if placB p f i = true then (if kindB p i = true then 0 else 3) else 4) else 2
def insAt (p : Pg) (fn pc : Int) : Int := match fnAt p fn with | none => 1 | some f => (match inAt f pc with | none => 1 | some i => insE p f i)

/-- The first of n places with an error. -/
def badAt (E : Nat → Int) (n : Nat) : Option Nat := (List.range n).find? (fun k => E k != 0)
theorem bad_none {E : Nat → Int} {n : Nat} (h : ∀ j, j < n → E j = 0) : badAt E n = none := by
  unfold badAt
  rw [List.find?_eq_none]
  intro x hx
  have := h x (by simpa using hx)
  simp [this]
theorem bad_some {E : Nat → Int} {n k : Nat} (hk : k < n) (h : ∀ j, j < k → E j = 0) (h0 : ¬ E k = 0) : badAt E n = some k := by
  unfold badAt
  rw [List.find?_range_eq_some]
  refine ⟨by simpa using h0, by simpa using hk, fun j hj => by simp [h j hj]⟩

/-- What is wrong with a function's head. -/
def limB (f : Fn) : Bool := decide ((f.args.length : Int) ≤ f.slots) && (decide (f.slots ≤ 16) && (decide (f.objs.length ≤ 8) && (decide (1 ≤ f.code.length) && decide (f.code.length ≤ 64))))
def headE (p : Pg) (f : Fn) : Int :=
  if limB f = true then (if f.args.all (fun k => valB k p.shapes.length) = true then (if f.res = 0 ∨ fldB f.res p.shapes.length = true then (if f.objs.all (fun s => inB s p.shapes.length) = true then 0 else 4) else 3) else 3) else 1
/-- A function's first error, and its place. -/
def funE (p : Pg) (fn : Int) : Int × Nat :=
  match fnAt p fn with
  | none => (1, 0)
  | some f => if headE p f = 0 then (match badAt (fun k => insAt p fn (k : Int)) f.code.length with | some k => (insAt p fn (k : Int), k) | none => (0, 0)) else (headE p f, 0)
/-- What is wrong with a program beside its functions. -/
def topE (p : Pg) : Int :=
  if chkN p.shapes = 0 then (if p.glob.length ≤ 16 ∧ 1 ≤ p.funcs.length ∧ p.funcs.length ≤ 16 then (if p.glob.all (fun k => fldB k p.shapes.length) = true then
    (match p.funcs[0]? with | some f => if f.args.length = 0 ∧ f.res = 0 then 0 else 3 | none => 3) else 3) else 1) else chkN p.shapes
/-- A program's first error, and its place. -/
def progE (p : Pg) : Int × Nat × Nat :=
  if topE p = 0 then (match badAt (fun k => (funE p (k : Int)).1) p.funcs.length with | some k => ((funE p (k : Int)).1, k, (funE p (k : Int)).2) | none => (0, 0, 0)) else (topE p, 0, 0)

end Go.Proofs.Ytmjappcjfjajmaa

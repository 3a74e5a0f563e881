/- A Book in memory, and the walk of its Ints. -/
import Derived.Test.YtfkimmbnmcgjiaaDoorKpC
import Derived.Deep.RegionLaw
namespace Go.Proofs.YtfkimmbnmcgjiaaDoor
open Go.RowKit

def bkCells (vi vw : Value) (i : Nat) : Value := if i = 0 then vi else if i = 1 then vw else .slice none 0 0

/-- Two values that own no row in common. -/
def Apt (a b : Value) : Prop := a.ownBlock = none ∨ a.ownBlock ≠ b.ownBlock
abbrev OwnInts (w : World) (B : Nat) (p : Value × List Int) : Prop := w.ownsRow B 3 1 p.1 p.2.length (p.2.map (Value.int .i64))

theorem Tryd.info22 : (Tryd.prog.info? 22).map (fun i => (i.zero, i.size, i.bytes)) = some (some (.slice none 0 0), 1, 24) := by kernel_rfl

theorem ty_below {K : List TypeId} {B B' : Nat} {a b : World} (h : Below B a b) (hs : B = a.heap.size) : Ty K B' a b := by subst hs; exact Ty.of_below h

theorem own_kept {w w' : World} {base : Nat} {e : TypeId} {size n : Nat} {v u : Value} {xs : List Value} (h : w.ownsRow base e size v n xs) (hg : w.grownBy w' u.ownBlock) (ha : Apt v u) : w'.ownsRow base e size v n xs := h.kept hg ha
theorem grown_row {w w' : World} {b : Nat} {t e : TypeId} {n m base size : Nat} {f : Nat → Value} {u : Value} {xs : List Value} (r : w.rowIs b t n f) (hu : w.ownsRow base e size u m xs) (hg : w.grownBy w' u.ownBlock) (ht : t ≠ e) : w'.rowIs b t n f :=
  (Ty.of_grown hu hg (Nat.le_refl _)).row r (by simpa using ht)
theorem grown_own {w w' : World} {base base' : Nat} {t e : TypeId} {size size' n m : Nat} {v u : Value} {xs ys : List Value} (h : w.ownsRow base t size v n xs) (hu : w.ownsRow base' e size' u m ys) (hg : w.grownBy w' u.ownBlock) (ht : t ≠ e) : w'.ownsRow base t size v n xs :=
  (Ty.of_grown hu hg (Nat.le_refl _)).own h (by simpa using ht)
theorem apt_new {w : World} {base g n cap : Nat} {e : TypeId} {size m : Nat} {v : Value} {xs : List Value} (h : w.ownsRow base e size v m xs) (hg : w.heap.size ≤ g) : Apt v (.slice (some ⟨g, 0, none⟩) n cap) ∧ Apt (.slice (some ⟨g, 0, none⟩) n cap) v := by
  cases hv : v.ownBlock with
  | none => exact ⟨Or.inl hv, Or.inr (by rw [hv]; simp [Value.ownBlock])⟩
  | some k =>
    have := (h.lt k hv).2
    refine ⟨Or.inr ?_, Or.inr ?_⟩
    · rw [hv]; simp [Value.ownBlock]; omega
    · rw [hv]; simp [Value.ownBlock]; omega

theorem apt_fresh {w w' : World} {B H m : Nat} {e e' : TypeId} {size size' n : Nat} {v u : Value} {xs ys : List Value} (h : w.ownsRow B e size v n xs) (hu : w'.ownsRow H e' size' u m ys) (hH : w.heap.size ≤ H) : Apt v u := by
  cases hv : v.ownBlock with
  | none => exact Or.inl hv
  | some k =>
    refine Or.inr ?_
    rw [hv]
    intro e1
    have h1 := (h.lt k hv).2
    have h2 := (hu.lt k e1.symm).1
    omega

theorem OwnInts.below {w w' : World} {B : Nat} {p : Value × List Int} (h : OwnInts w B p) (hb : Below w.heap.size w w') : OwnInts w' B p := (Ty.of_below (K := []) (B := 0) hb).own h (by simp)
theorem own_one (v : Value) (L : List Int) (w : World) (B : Nat) (h : OwnInts w B (v, L)) : v.oneCell' = true := by
  rcases h.2 with ⟨e, _⟩ | ⟨g, cap, cur, e, _⟩
  · show v.oneCell' = true
    rw [show v = _ from e]; rfl
  · show v.oneCell' = true
    rw [show v = _ from e]; rfl

theorem step_call1 {P : Program} {ops : Array Oper} {o : Oper} {a : Act} {w : World} {K : Act → World → Prop} {Q : Exit → Act → World → Prop} {E : Prop} (hg : o.guard = none) (x : Operand) (f : FuncId) (ts : Array TypeId)
    (hop : o.op = Op.call { callee := Callee.value (Operand.func f), args := #[x], argTypes := ts }) (u : Value) (hx : a.eval x = u) (R : Value → World → Prop) (hc : Calls P f #[u] w fun e w' => ∃ v, e = .returned v ∧ R v w')
    (hrun : (callFunc f #[u]).run P w = .ok (.enter f #[u]) w) (hK : ∀ v w', R v w' → K (a.put o.dst v) w') : if Region.wanted o (yielded ops a.tmps) = true then Oper.wp P o a w K Q else E := by
  have hw : Region.wanted o (yielded ops a.tmps) = true := by simp [Region.wanted, hg]
  rw [if_pos hw]
  unfold Oper.wp
  have e : (execOp a.eval o).run P w = .ok (.enter f #[u]) w := by
    rw [← hrun]
    simp only [execOp, hop, resolve]
    rw [show Array.map a.eval #[x] = #[u] from by simp [hx]]
    simp [go_sem]
  rw [e]
  refine hc.mono ?_
  rintro e w' ⟨v, rfl, hR⟩
  exact hK v w' hR
theorem new_one (w : World) (v : Value) (t : TypeId) : ∀ j u, [v][j]? = some u → (w.alloc (.cells #[v] t)).cell? ((⟨w.heap.size, 0, none⟩ : Addr).add j) = some u := by
  intro j u hj
  match j, hj with
  | 0, hj => simp at hj; subst hj; simp [Addr.add]
theorem one_of {v : Value} (h : v.oneCell' = true) : ∀ u ∈ [v], u.oneCell' = true := by
  intro u hu; simp at hu; subst hu; exact h

end Go.Proofs.YtfkimmbnmcgjiaaDoor

/- The walks of instr's isByte, operands, fits, and of the document's unused. -/
import Derived.Test.YtmjappcjfjajmaaInD
namespace Go.Proofs.Ytmjappcjfjajmaa
open Go.RowKit

def byB (v : Int) : Bool := decide (0 ≤ v) && decide (v < 256)
/-- An operand that is not used is 0. -/
def un1 (r v : Int) : Bool := r != 0 || v == 0
def unB (r0 r1 r2 a b c : Int) : Bool := un1 r0 a && (un1 r1 b && un1 r2 c)
def fitB (k : Bool) (r0 r1 r2 a b c : Int) : Bool := k && byB a && byB c && (wrap32 b == b) && unB r0 r1 r2 a b c
/-- An instruction has bytes. -/
def fit (i : Ins) : Bool := fitB (kn i.o) (ro i.o).1 (ro i.o).2.1 (ro i.o).2.2 i.a i.b i.c

theorem cell_old {w : World} {o : Obj} {p : Addr} (h : p.block < w.heap.size) : (w.alloc o).cell? p = w.cell? p := ((Below.refl w.heap.size w).alloc (Nat.le_refl _) o).cell h
theorem cell_new (w : World) (cs : Array Value) (t : TypeId) {j : Nat} {v : Value} (h : cs[j]? = some v) : (w.alloc (.cells cs t)).cell? ⟨w.heap.size, j, none⟩ = some v := by
  have e : (w.alloc (.cells cs t)).heap[w.heap.size]? = some (.cells cs t (0, 0)) := by
    show (w.heap.push _)[w.heap.size]? = _
    simp
  unfold World.cell?
  rw [e]
  exact h
/-- A box, and roles that were answered and laid. -/
theorem box_roles (w : World) (cs rs : Array Value) (t u : TypeId) :
    (∀ j v, cs[j]? = some v → (((w.alloc (.cells cs t)).alloc (.cells rs u)).alloc (.cells rs u)).cell? ⟨w.heap.size, j, none⟩ = some v) ∧ (∀ j v, rs[j]? = some v → (((w.alloc (.cells cs t)).alloc (.cells rs u)).alloc (.cells rs u)).cell? ⟨w.heap.size + 2, j, none⟩ = some v) ∧
      Below w.heap.size w (((w.alloc (.cells cs t)).alloc (.cells rs u)).alloc (.cells rs u)) ∧ w.heap.size + 2 < (((w.alloc (.cells cs t)).alloc (.cells rs u)).alloc (.cells rs u)).heap.size := by
  refine ⟨fun j v h => ?_, fun j v h => ?_, (((Below.refl _ _).alloc (Nat.le_refl _) _).alloc (by simp) _).alloc (by simp; omega) _, by simp⟩
  · rw [cell_old (by simp; omega), cell_old (by simp)]
    exact cell_new w cs t h
  · have := cell_new ((w.alloc (.cells cs t)).alloc (.cells rs u)) rs u h
    simpa using this

theorem un1_or (r v : Int) : (¬ r = 0 ∧ un1 r v = true) ∨ (r = 0 ∧ v = 0 ∧ un1 r v = true) ∨ (r = 0 ∧ ¬ v = 0 ∧ un1 r v = false) := by
  by_cases h : r = 0
  · by_cases h' : v = 0
    · exact Or.inr (Or.inl ⟨h, h', by simp [un1, h']⟩)
    · exact Or.inr (Or.inr ⟨h, h', by simp [un1, h, h']⟩)
  · exact Or.inl ⟨h, by simp [un1, h]⟩

theorem use_or (u : Bool) (v : Int) : u = true ∨ (u = false ∧ v = 0) ∨ (u = false ∧ ¬ v = 0) := by
  cases u <;> simp
  omega
set_option maxRecDepth 100000 in
set_option maxHeartbeats 4000000 in
theorem refUnused_core (o a b c : Int) (u0 u1 u2 : Bool) (h : Hid (((ro o).1 != 0) = u0 ∧ ((ro o).2.1 != 0) = u1 ∧ ((ro o).2.2 != 0) = u2)) (w : World) :
    Calls Try.prog 61 #[.agg #[.int .i64 o, .int .i64 a, .int .i64 b, .int .i64 c]] w fun e w' => e = .returned (.bool ((u0 || a == 0) && ((u1 || b == 0) && (u2 || c == 0)))) ∧ Below w.heap.size w w' := by
  have hc : Hid (∀ w, Calls Try.prog 84 #[.int .i64 o] w fun e w' => e = .returned (.tuple #[.bool u0, .bool u1, .bool u2]) ∧ ∃ q, w' = w.drewN q) := fun w => by
    have := refUses_any o w
    rw [h.out.1, h.out.2.1, h.out.2.2] at this
    exact this
  clear h
  rcases use_or u0 a with rfl | ⟨rfl, rfl⟩ | ⟨rfl, h0⟩ <;> rcases use_or u1 b with rfl | ⟨rfl, rfl⟩ | ⟨rfl, h1⟩ <;> rcases use_or u2 c with rfl | ⟨rfl, rfl⟩ | ⟨rfl, h2⟩ <;> (as_aux_lemma =>
    go_enter Try.func61, Try.ntmps61
    go_wp2_with fail
    refine (hc.out _).mono ?_
    rintro e w' ⟨rfl, q, rfl⟩
    go_wp2_with fail
    go_ret
    exact ⟨ret_bool (by simp_all), below_drewN ((Below.refl _ _).alloc (Nat.le_refl _) _) q⟩)
theorem refUnused_any (i : Ins) (w : World) : Calls Try.prog 61 #[i.v] w fun e w' => e = .returned (.bool (unB (ro i.o).1 (ro i.o).2.1 (ro i.o).2.2 i.a i.b i.c)) ∧ Below w.heap.size w w' :=
  refUnused_core i.o i.a i.b i.c _ _ _ ⟨rfl, rfl, rfl⟩ w

end Go.Proofs.Ytmjappcjfjajmaa

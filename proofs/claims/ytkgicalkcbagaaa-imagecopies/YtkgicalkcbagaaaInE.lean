/- The walks of instr's isByte, operands, fits, and of the document's unused. -/
import Derived.Test.YtkgicalkcbagaaaInD
namespace Go.Proofs.Ytkgicalkcbagaaa
open Go.RowKit

def byB (v : Int) : Bool := decide (0 ≤ v) && decide (v < 256)
/-- An operand that is not used is 0. -/
def un1 (r v : Int) : Bool := r != 0 || v == 0
def unB (r0 r1 r2 a b c : Int) : Bool := un1 r0 a && (un1 r1 b && un1 r2 c)
def fitB (k : Bool) (r0 r1 r2 a b c : Int) : Bool := k && byB a && byB c && (wrap32 b == b) && unB r0 r1 r2 a b c
/-- An instruction has bytes. -/
def fit (i : Ins) : Bool := fitB (kn i.o) (ro i.o).1 (ro i.o).2.1 (ro i.o).2.2 i.a i.b i.c

theorem isByte_any {v : Int} {p : Bool} (hp : Hid (byB v = p)) (w : World) : Calls Try.prog 52 #[.int .i64 v] w fun e w' => e = .returned (.bool p) ∧ w' = w := by
  rw [← hp.out]
  go_enter Try.func52, Try.ntmps52
  go_wp2_with fail
  go_ret
  refine ⟨ret_bool ?_, rfl⟩
  unfold byB
  rw [Bool.eq_iff_iff]
  simp
  omega
theorem of_any' {a n : Int} (h : Hid (wrap32 a = n)) (w : World) : Calls Try.prog 53 #[.int .i64 a] w fun e w' => e = .returned (.int .i64 n) ∧ w' = w := h.out ▸ of_any a w

theorem ops3_any (o a b c : Int) (w : World) : Calls Try.prog 54 #[.agg #[.int .i64 o, .int .i64 a, .int .i64 b, .int .i64 c]] w fun e w' => e = .returned (.agg #[.int .i64 a, .int .i64 b, .int .i64 c]) ∧ Below w.heap.size w w' := by
  go_enter Try.func54, Try.ntmps54
  go_wp2_with fail
  refine bodyPost_ret (v := .agg #[.int .i64 a, .int .i64 b, .int .i64 c]) (by simp [results, go_sem]) rfl ?_
  exact ⟨rfl, ((Below.refl _ _).alloc (Nat.le_refl _) _).alloc (by simp) _⟩

theorem cell_old {w : World} {o : Obj} {p : Addr} (h : p.block < w.heap.size) : (w.alloc o).cell? p = w.cell? p := ((Below.refl w.heap.size w).alloc (Nat.le_refl _) o).cell h
theorem cell_new (w : World) (cs : Array Value) (t : TypeId) {j : Nat} {v : Value} (h : cs[j]? = some v) : (w.alloc (.cells cs t)).cell? ⟨w.heap.size, j, none⟩ = some v := by
  have e : (w.alloc (.cells cs t)).heap[w.heap.size]? = some (.cells cs t (0, 0)) := by
    show (w.heap.push _)[w.heap.size]? = _
    simp
  unfold World.cell?
  rw [e]
  exact h
/-- A box, and roles that were answered and laid. -/
theorem box_roles (w : World) (cs rs : Array Value) (t u : TypeId) :
    (∀ j v, cs[j]? = some v → (((w.alloc (.cells cs t)).alloc (.cells rs u)).alloc (.cells rs u)).cell? ⟨w.heap.size, j, none⟩ = some v) ∧ (∀ j v, rs[j]? = some v → (((w.alloc (.cells cs t)).alloc (.cells rs u)).alloc (.cells rs u)).cell? ⟨w.heap.size + 2, j, none⟩ = some v) ∧
      Below w.heap.size w (((w.alloc (.cells cs t)).alloc (.cells rs u)).alloc (.cells rs u)) ∧ w.heap.size + 2 < (((w.alloc (.cells cs t)).alloc (.cells rs u)).alloc (.cells rs u)).heap.size := by
  refine ⟨fun j v h => ?_, fun j v h => ?_, (((Below.refl _ _).alloc (Nat.le_refl _) _).alloc (by simp) _).alloc (by simp; omega) _, by simp⟩
  · rw [cell_old (by simp; omega), cell_old (by simp)]
    exact cell_new w cs t h
  · have := cell_new ((w.alloc (.cells cs t)).alloc (.cells rs u)) rs u h
    simpa using this

set_option maxRecDepth 100000 in
set_option maxHeartbeats 1000000 in
theorem fits_go (o a b c r0 r1 r2 n : Int) (k p q : Bool) (h : Hid (ro o = (r0, r1, r2))) (hk : Hid (kn o = k)) (hp : Hid (byB a = p)) (hq : Hid (byB c = q)) (hn : Hid (wrap32 b = n)) (hg : k = false ∨ k = true ∧ (p = false ∨ p = true ∧ (q = false ∨ q = true ∧ ¬ n = b))) (w : World) :
    Calls Try.prog 48 #[.agg #[.int .i64 o, .int .i64 a, .int .i64 b, .int .i64 c]] w fun e w' => e = .returned (.bool false) ∧ Below w.heap.size w w' := by
  rcases hg with rfl | ⟨rfl, rfl | ⟨rfl, rfl | ⟨rfl, hne⟩⟩⟩ <;> (as_aux_lemma =>
    go_enter Try.func48, Try.ntmps48
    go_wp2_with fail
    refine (roles_any h hk _).mono ?_
    rintro e w' ⟨rfl, rfl⟩
    go_upto_region 2 with (fail)
    obtain ⟨hC, hR, hB, hl⟩ := box_roles w #[.int .i64 o, .int .i64 a, .int .i64 b, .int .i64 c] #[.int .i64 r0, .int .i64 r1, .int .i64 r2] 47 94
    have c1 : (((w.alloc (.cells #[.int .i64 o, .int .i64 a, .int .i64 b, .int .i64 c] 47)).alloc (.cells #[.int .i64 r0, .int .i64 r1, .int .i64 r2] 94)).alloc (.cells #[.int .i64 r0, .int .i64 r1, .int .i64 r2] 94)).cell? ⟨w.heap.size, 1, none⟩ = some (.int .i64 a) := hC 1 _ rfl
    have c2 : (((w.alloc (.cells #[.int .i64 o, .int .i64 a, .int .i64 b, .int .i64 c] 47)).alloc (.cells #[.int .i64 r0, .int .i64 r1, .int .i64 r2] 94)).alloc (.cells #[.int .i64 r0, .int .i64 r1, .int .i64 r2] 94)).cell? ⟨w.heap.size, 2, none⟩ = some (.int .i64 b) := hC 2 _ rfl
    have c3 : (((w.alloc (.cells #[.int .i64 o, .int .i64 a, .int .i64 b, .int .i64 c] 47)).alloc (.cells #[.int .i64 r0, .int .i64 r1, .int .i64 r2] 94)).alloc (.cells #[.int .i64 r0, .int .i64 r1, .int .i64 r2] 94)).cell? ⟨w.heap.size, 3, none⟩ = some (.int .i64 c) := hC 3 _ rfl
    have HB : Hid (Below w.heap.size w (((w.alloc (.cells #[.int .i64 o, .int .i64 a, .int .i64 b, .int .i64 c] 47)).alloc (.cells #[.int .i64 r0, .int .i64 r1, .int .i64 r2] 94)).alloc (.cells #[.int .i64 r0, .int .i64 r1, .int .i64 r2] 94))) := hB
    clear hC hR hB hl
    generalize (((w.alloc (.cells #[.int .i64 o, .int .i64 a, .int .i64 b, .int .i64 c] 47)).alloc (.cells #[.int .i64 r0, .int .i64 r1, .int .i64 r2] 94)).alloc (.cells #[.int .i64 r0, .int .i64 r1, .int .i64 r2] 94)) = w2 at *
    go_quiet (first
      | (go_at_call 52; first | with_reducible exact Calls.quiet_of_same (isByte_any hp _) | with_reducible exact Calls.quiet_of_same (isByte_any hq _))
      | (go_at_call 53; with_reducible exact Calls.quiet_of_same (of_any' hn _)))
    go_wp2
    go_ret
    exact ⟨rfl, below_drewN HB.out _⟩)

theorem un1_or (r v : Int) : (¬ r = 0 ∧ un1 r v = true) ∨ (r = 0 ∧ v = 0 ∧ un1 r v = true) ∨ (r = 0 ∧ ¬ v = 0 ∧ un1 r v = false) := by
  by_cases h : r = 0
  · by_cases h' : v = 0
    · exact Or.inr (Or.inl ⟨h, h', by simp [un1, h']⟩)
    · exact Or.inr (Or.inr ⟨h, h', by simp [un1, h, h']⟩)
  · exact Or.inl ⟨h, by simp [un1, h]⟩

set_option maxRecDepth 100000 in
set_option maxHeartbeats 2000000 in
theorem fits_all (o a b c r0 r1 r2 : Int) (h : Hid (ro o = (r0, r1, r2))) (hk : Hid (kn o = true)) (hp : Hid (byB a = true)) (hq : Hid (byB c = true)) (hn : Hid (wrap32 b = b)) (w : World) :
    Calls Try.prog 48 #[.agg #[.int .i64 o, .int .i64 a, .int .i64 b, .int .i64 c]] w fun e w' => e = .returned (.bool (unB r0 r1 r2 a b c)) ∧ Below w.heap.size w w' := by
  go_enter Try.func48, Try.ntmps48
  go_wp2_with fail
  refine (roles_any h hk _).mono ?_
  rintro e w' ⟨rfl, rfl⟩
  go_upto_region 2 with (fail)
  obtain ⟨hC, hR, hB, hl⟩ := box_roles w #[.int .i64 o, .int .i64 a, .int .i64 b, .int .i64 c] #[.int .i64 r0, .int .i64 r1, .int .i64 r2] 47 94
  have c0 : (((w.alloc (.cells #[.int .i64 o, .int .i64 a, .int .i64 b, .int .i64 c] 47)).alloc (.cells #[.int .i64 r0, .int .i64 r1, .int .i64 r2] 94)).alloc (.cells #[.int .i64 r0, .int .i64 r1, .int .i64 r2] 94)).cell? ⟨w.heap.size, 0, none⟩ = some (.int .i64 o) := hC 0 _ rfl
  have c1 : (((w.alloc (.cells #[.int .i64 o, .int .i64 a, .int .i64 b, .int .i64 c] 47)).alloc (.cells #[.int .i64 r0, .int .i64 r1, .int .i64 r2] 94)).alloc (.cells #[.int .i64 r0, .int .i64 r1, .int .i64 r2] 94)).cell? ⟨w.heap.size, 1, none⟩ = some (.int .i64 a) := hC 1 _ rfl
  have c2 : (((w.alloc (.cells #[.int .i64 o, .int .i64 a, .int .i64 b, .int .i64 c] 47)).alloc (.cells #[.int .i64 r0, .int .i64 r1, .int .i64 r2] 94)).alloc (.cells #[.int .i64 r0, .int .i64 r1, .int .i64 r2] 94)).cell? ⟨w.heap.size, 2, none⟩ = some (.int .i64 b) := hC 2 _ rfl
  have c3 : (((w.alloc (.cells #[.int .i64 o, .int .i64 a, .int .i64 b, .int .i64 c] 47)).alloc (.cells #[.int .i64 r0, .int .i64 r1, .int .i64 r2] 94)).alloc (.cells #[.int .i64 r0, .int .i64 r1, .int .i64 r2] 94)).cell? ⟨w.heap.size, 3, none⟩ = some (.int .i64 c) := hC 3 _ rfl
  have HD : Hid ((((w.alloc (.cells #[.int .i64 o, .int .i64 a, .int .i64 b, .int .i64 c] 47)).alloc (.cells #[.int .i64 r0, .int .i64 r1, .int .i64 r2] 94)).alloc (.cells #[.int .i64 r0, .int .i64 r1, .int .i64 r2] 94)).cell? ⟨w.heap.size + 2, 0, none⟩ = some (.int .i64 r0) ∧ (((w.alloc (.cells #[.int .i64 o, .int .i64 a, .int .i64 b, .int .i64 c] 47)).alloc (.cells #[.int .i64 r0, .int .i64 r1, .int .i64 r2] 94)).alloc (.cells #[.int .i64 r0, .int .i64 r1, .int .i64 r2] 94)).cell? ⟨w.heap.size + 2, 1, none⟩ = some (.int .i64 r1) ∧ (((w.alloc (.cells #[.int .i64 o, .int .i64 a, .int .i64 b, .int .i64 c] 47)).alloc (.cells #[.int .i64 r0, .int .i64 r1, .int .i64 r2] 94)).alloc (.cells #[.int .i64 r0, .int .i64 r1, .int .i64 r2] 94)).cell? ⟨w.heap.size + 2, 2, none⟩ = some (.int .i64 r2)) := ⟨hR 0 _ rfl, hR 1 _ rfl, hR 2 _ rfl⟩
  have HB : Hid (Below w.heap.size w (((w.alloc (.cells #[.int .i64 o, .int .i64 a, .int .i64 b, .int .i64 c] 47)).alloc (.cells #[.int .i64 r0, .int .i64 r1, .int .i64 r2] 94)).alloc (.cells #[.int .i64 r0, .int .i64 r1, .int .i64 r2] 94)) ∧ w.heap.size + 2 < (((w.alloc (.cells #[.int .i64 o, .int .i64 a, .int .i64 b, .int .i64 c] 47)).alloc (.cells #[.int .i64 r0, .int .i64 r1, .int .i64 r2] 94)).alloc (.cells #[.int .i64 r0, .int .i64 r1, .int .i64 r2] 94)).heap.size) := ⟨hB, hl⟩
  clear hC hR hB hl
  generalize (((w.alloc (.cells #[.int .i64 o, .int .i64 a, .int .i64 b, .int .i64 c] 47)).alloc (.cells #[.int .i64 r0, .int .i64 r1, .int .i64 r2] 94)).alloc (.cells #[.int .i64 r0, .int .i64 r1, .int .i64 r2] 94)) = w2 at *
  generalize hby : w.heap.size + 2 = by2 at *
  go_quiet (first
    | (go_at_call 52; first | with_reducible exact Calls.quiet_of_same (isByte_any hp _) | with_reducible exact Calls.quiet_of_same (isByte_any hq _))
    | (go_at_call 53; with_reducible exact Calls.quiet_of_same (of_any' hn _)))
  go_wp2_with fail
  refine (ops3_any o a b c _).mono ?_
  rintro e w3 ⟨rfl, hB3⟩
  have d0 : w3.cell? ⟨by2, 0, none⟩ = some (.int .i64 r0) := (hB3.cell (p := ⟨by2, 0, none⟩) HB.out.2).trans HD.out.1
  have d1 : w3.cell? ⟨by2, 1, none⟩ = some (.int .i64 r1) := (hB3.cell (p := ⟨by2, 1, none⟩) HB.out.2).trans HD.out.2.1
  have d2 : w3.cell? ⟨by2, 2, none⟩ = some (.int .i64 r2) := (hB3.cell (p := ⟨by2, 2, none⟩) HB.out.2).trans HD.out.2.2
  have HB3 : Hid (Below w.heap.size w w3) := (below_drewN HB.out.1 _).trans (hB3.mono (by have := HB.out.2; simp [World.drewN]; omega))
  clear c0 c1 c2 c3 HD HB hB3 hby
  go_wp2_with fail
  go_loop [37] (fun i => ∃ j : Nat, j ≤ 3 ∧ i = .int .i64 j ∧ (0 < j → un1 r0 a = true) ∧ (1 < j → un1 r1 b = true) ∧ (2 < j → un1 r2 c = true)) (fun i => 3 - (intOf i).toNat)
  case atStart => exact ⟨0, Nat.zero_le _, rfl, fun h => absurd h (by omega), fun h => absurd h (by omega), fun h => absurd h (by omega)⟩
  case round =>
    obtain ⟨j, hj, rfl, g0, g1, g2⟩ := hrel
    have G0 : Hid (0 < j → un1 r0 a = true) := g0
    have G1 : Hid (1 < j → un1 r1 b = true) := g1
    have G2 : Hid (2 < j → un1 r2 c = true) := g2
    clear g0 g1 g2
    have i0 : ∀ (x y z : Value) w, (Instr.index 97 (.agg #[x, y, z]) (.int .i64 0)).run Try.prog w = .ok x w := fun _ _ _ _ => by kernel_rfl
    have i1 : ∀ (x y z : Value) w, (Instr.index 97 (.agg #[x, y, z]) (.int .i64 1)).run Try.prog w = .ok y w := fun _ _ _ _ => by kernel_rfl
    have i2 : ∀ (x y z : Value) w, (Instr.index 97 (.agg #[x, y, z]) (.int .i64 2)).run Try.prog w = .ok z w := fun _ _ _ _ => by kernel_rfl
    have hjc : j = 0 ∨ j = 1 ∨ j = 2 ∨ j = 3 := by omega
    rcases hjc with rfl | rfl | rfl | rfl
    · rcases un1_or r0 a with ⟨hz1, hz'⟩ | ⟨rfl, rfl, hz'⟩ | ⟨rfl, hz2, hz'⟩
      · have hz : Hid (un1 r0 a = true) := hz'
        clear hz'
        go_wp2_with fail
        go_round
        case rel => exact ⟨1, by decide, rfl, fun _ => hz.out, fun h => absurd h (by decide), fun h => absurd h (by decide)⟩
        case measure => simp [intOf]
      · have hz : Hid (un1 0 0 = true) := hz'
        clear hz'
        go_wp2_with fail
        go_round
        case rel => exact ⟨1, by decide, rfl, fun _ => hz.out, fun h => absurd h (by decide), fun h => absurd h (by decide)⟩
        case measure => simp [intOf]
      · have hall : Hid (false = unB 0 r1 r2 a b c) := by unfold Hid unB; rw [hz']; rfl
        clear hz'
        go_wp2_with fail
        go_ret
        exact ⟨ret_bool hall.out, HB3.out⟩
    · rcases un1_or r1 b with ⟨hz1, hz'⟩ | ⟨rfl, rfl, hz'⟩ | ⟨rfl, hz2, hz'⟩
      · have hz : Hid (un1 r1 b = true) := hz'
        clear hz'
        go_wp2_with fail
        go_round
        case rel => exact ⟨2, by decide, rfl, fun _ => G0.out (by decide), fun _ => hz.out, fun h => absurd h (by decide)⟩
        case measure => simp [intOf]
      · have hz : Hid (un1 0 0 = true) := hz'
        clear hz'
        go_wp2_with fail
        go_round
        case rel => exact ⟨2, by decide, rfl, fun _ => G0.out (by decide), fun _ => hz.out, fun h => absurd h (by decide)⟩
        case measure => simp [intOf]
      · have hall : Hid (false = unB r0 0 r2 a b c) := by unfold Hid unB; rw [hz']; simp
        clear hz'
        go_wp2_with fail
        go_ret
        exact ⟨ret_bool hall.out, HB3.out⟩
    · rcases un1_or r2 c with ⟨hz1, hz'⟩ | ⟨rfl, rfl, hz'⟩ | ⟨rfl, hz2, hz'⟩
      · have hz : Hid (un1 r2 c = true) := hz'
        clear hz'
        go_wp2_with fail
        go_round
        case rel => exact ⟨3, by decide, rfl, fun _ => G0.out (by decide), fun _ => G1.out (by decide), fun _ => hz.out⟩
        case measure => simp [intOf]
      · have hz : Hid (un1 0 0 = true) := hz'
        clear hz'
        go_wp2_with fail
        go_round
        case rel => exact ⟨3, by decide, rfl, fun _ => G0.out (by decide), fun _ => G1.out (by decide), fun _ => hz.out⟩
        case measure => simp [intOf]
      · have hall : Hid (false = unB r0 r1 0 a b c) := by unfold Hid unB; rw [hz']; simp
        clear hz'
        go_wp2_with fail
        go_ret
        exact ⟨ret_bool hall.out, HB3.out⟩
    · have hall : Hid (true = unB r0 r1 r2 a b c) := by unfold Hid unB; rw [G0.out (by decide), G1.out (by decide), G2.out (by decide)]; rfl
      go_wp2_with fail
      go_ret
      exact ⟨ret_bool hall.out, HB3.out⟩

theorem fits_any (i : Ins) (w : World) : Calls Try.prog 48 #[i.v] w fun e w' => e = .returned (.bool (fit i)) ∧ Below w.heap.size w w' := by
  obtain ⟨o, a, b, c⟩ := i
  obtain ⟨r0, r1, r2, h⟩ := ro_letters o
  unfold Ins.v fit fitB
  have hr := h.out
  simp only [hr]
  cases hk : kn o with
  | false => exact fits_go o a b c r0 r1 r2 _ false _ _ h hk rfl rfl rfl (Or.inl rfl) w
  | true =>
    cases hp : byB a with
    | false => exact fits_go o a b c r0 r1 r2 _ true false _ h hk hp rfl rfl (Or.inr ⟨rfl, Or.inl rfl⟩) w
    | true =>
      cases hq : byB c with
      | false => exact fits_go o a b c r0 r1 r2 _ true true false h hk hp hq rfl (Or.inr ⟨rfl, Or.inr ⟨rfl, Or.inl rfl⟩⟩) w
      | true =>
        by_cases hn : wrap32 b = b
        · have e : (wrap32 b == b) = true := by simpa using hn
          rw [e]
          exact fits_all o a b c r0 r1 r2 h hk hp hq hn w
        · have e : (wrap32 b == b) = false := by simpa using hn
          rw [e]
          exact fits_go o a b c r0 r1 r2 _ true true true h hk hp hq rfl (Or.inr ⟨rfl, Or.inr ⟨rfl, Or.inr ⟨rfl, hn⟩⟩⟩) w

/-! ### the document's unused -/
theorem use_or (u : Bool) (v : Int) : u = true ∨ (u = false ∧ v = 0) ∨ (u = false ∧ ¬ v = 0) := by
  cases u <;> simp
  omega
set_option maxRecDepth 100000 in
set_option maxHeartbeats 4000000 in
theorem refUnused_core (o a b c : Int) (u0 u1 u2 : Bool) (h : Hid (((ro o).1 != 0) = u0 ∧ ((ro o).2.1 != 0) = u1 ∧ ((ro o).2.2 != 0) = u2)) (w : World) :
    Calls Try.prog 37 #[.agg #[.int .i64 o, .int .i64 a, .int .i64 b, .int .i64 c]] w fun e w' => e = .returned (.bool ((u0 || a == 0) && ((u1 || b == 0) && (u2 || c == 0)))) ∧ Below w.heap.size w w' := by
  have hc : Hid (∀ w, Calls Try.prog 46 #[.int .i64 o] w fun e w' => e = .returned (.tuple #[.bool u0, .bool u1, .bool u2]) ∧ ∃ q, w' = w.drewN q) := fun w => by
    have := refUses_any o w
    rw [h.out.1, h.out.2.1, h.out.2.2] at this
    exact this
  clear h
  rcases use_or u0 a with rfl | ⟨rfl, rfl⟩ | ⟨rfl, h0⟩ <;> rcases use_or u1 b with rfl | ⟨rfl, rfl⟩ | ⟨rfl, h1⟩ <;> rcases use_or u2 c with rfl | ⟨rfl, rfl⟩ | ⟨rfl, h2⟩ <;> (as_aux_lemma =>
    go_enter Try.func37, Try.ntmps37
    go_wp2_with fail
    refine (hc.out _).mono ?_
    rintro e w' ⟨rfl, q, rfl⟩
    go_wp2_with fail
    go_ret
    exact ⟨ret_bool (by simp_all), below_drewN ((Below.refl _ _).alloc (Nat.le_refl _) _) q⟩)
theorem refUnused_any (i : Ins) (w : World) : Calls Try.prog 37 #[i.v] w fun e w' => e = .returned (.bool (unB (ro i.o).1 (ro i.o).2.1 (ro i.o).2.2 i.a i.b i.c)) ∧ Below w.heap.size w w' :=
  refUnused_core i.o i.a i.b i.c _ _ _ ⟨rfl, rfl, rfl⟩ w

end Go.Proofs.Ytkgicalkcbagaaa

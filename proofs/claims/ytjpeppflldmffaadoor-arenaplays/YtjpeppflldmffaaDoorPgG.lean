import Derived.Test.YtjpeppflldmffaaDoorPgE
/- The walk of the law PageFull. -/
namespace Go.Proofs.YtjpeppflldmffaaDoor
open Go.RowKit

/-- The first i slots. -/
def firsts (i x : Nat) : Bool := decide (x < i)
theorem firsts_zero : firsts 0 = fun _ => false := by funext x; simp [firsts]
theorem firsts_up (i : Nat) : up (firsts i) i true = firsts (i + 1) := by
  funext x
  by_cases e : x = i
  · subst e; simp [up, firsts]
  · have : decide (x < i + 1) = decide (x < i) := by rw [decide_eq_decide]; omega
    simp [up, e, firsts, this]

theorem rem_ok (k : Int) (n : Nat) (h : 2 ≤ n) (h32 : n ≤ 32) : ∃ kk : Nat, kk < n ∧ (wrap64 (k.tmod (n : Int) + (n : Int))).tmod (n : Int) = (kk : Int) := by
  have h1 := Int.tmod_lt_of_pos k (b := (n : Int)) (by omega)
  have h2 := Int.lt_tmod_of_pos k (b := (n : Int)) (by omega)
  generalize k.tmod (n : Int) = r at *
  obtain ⟨x, hx⟩ := Int.eq_ofNat_of_zero_le (a := r + (n : Int)) (by omega)
  rw [hx, wrap64_nat x (by omega)]
  refine ⟨x % n, Nat.mod_lt _ (by omega), ?_⟩
  rw [Int.tmod_eq_emod_of_nonneg (by omega)]
  omega

theorem Tab.bel {w w' : World} (h : Tab w) (hb : Below w.heap.size w w') : Tab w' := h.below hb h.size

end Go.Proofs.YtjpeppflldmffaaDoor
/- The walk of the law PageSweeps. -/
namespace Go.Proofs.YtjpeppflldmffaaDoor
open Go.RowKit

theorem cnt_up (M : Nat → Bool) (x : Nat) (hM : M x = false) : ∀ N, x < N → cnt (up M x true) N = cnt M N + 1
  | 0, h => by omega
  | N + 1, h => by
    show cnt (up M x true) N + (if up M x true N then 1 else 0) = cnt M N + (if M N then 1 else 0) + 1
    by_cases e : x = N
    · subst e
      rw [cnt_congr (up M x true) M x (fun i hi => by have : i ≠ x := by omega
                                                      simp [up, this]), hM]
      simp [up]
    · rw [cnt_up M x hM N (by omega)]
      have : N ≠ x := fun h => e h.symm
      simp [up, this]
      omega
theorem cnt_gone (U M : Nat → Bool) (h : ∀ x, M x = true → U x = true) : ∀ N, cnt (goneS U M) N + cnt M N = cnt U N
  | 0 => rfl
  | N + 1 => by
    show cnt (goneS U M) N + (if goneS U M N then 1 else 0) + (cnt M N + if M N then 1 else 0) = cnt U N + if U N then 1 else 0
    have := cnt_gone U M h N
    cases hM : M N
    · cases hU : U N <;> simp [goneS, hM, hU] <;> omega
    · simp [goneS, hM, h N hM]; omega
theorem cnt_firsts (N : Nat) : cnt (firsts N) N = N := by
  have : ∀ m, m ≤ N → cnt (firsts N) m = m := by
    intro m
    induction m with
    | zero => intro _; rfl
    | succ m ih =>
      intro h
      show cnt (firsts N) m + (if firsts N m then 1 else 0) = m + 1
      rw [ih (by omega)]
      have : m < N := by omega
      simp [firsts, this]
  exact this N (Nat.le_refl _)
theorem up_same (M : Nat → Bool) (x : Nat) (v : Bool) (h : M x = v) : up M x v = M := by
  funext y
  by_cases e : y = x
  · subst e; simp [up, h]
  · simp [up, e]

end Go.Proofs.YtjpeppflldmffaaDoor

/- The walk of class.Slot; clear of some ints of a row. -/
import Derived.Test.YtfkimmbnmcgjiaaDoorFx
import Derived.Test.YtfkimmbnmcgjiaaDoorPgE
import Derived.Laws.IdiomCopy
namespace Go.Proofs.YtfkimmbnmcgjiaaDoor
open Go.RowKit

theorem slsz (c : Int) : 0 ≤ slN c * szN c ∧ slN c * szN c ≤ 32 := by
  rcases each_class c with h | rfl | rfl | rfl | rfl | rfl | rfl | rfl | rfl
  · rw [none_sz h, none_sl h]; omega
  all_goals decide
theorem sz_pos {c a : Int} (h0 : 0 ≤ a) (h1 : a < slN c * szN c) : 0 < szN c ∧ 0 ≤ c ∧ c < 8 := by
  rcases each_class c with h | rfl | rfl | rfl | rfl | rfl | rfl | rfl | rfl
  · rw [none_sz h, none_sl h] at h1; omega
  all_goals decide
theorem w64_id {n : Int} (h : -9223372036854775808 ≤ n ∧ n ≤ 9223372036854775807) : wrap64 n = n := by unfold wrap64; omega
theorem ret_pair {a b : Int} {c : Value} (h : a = b) : Ending.returned (.tuple #[.int .i64 a, c]) = .returned (.tuple #[.int .i64 b, c]) := by rw [h]

set_option maxHeartbeats 1000000 in
theorem slot_core (c a s t p q : Int) (w : World) (hs : Hid (szN c = s)) (ht : Hid (slN c = t)) (hp : wrap64 (t * s) = p) (h : (0 ≤ a ∧ a < p) ∧ ¬ s = 0 ∧ wrap64 (a.tdiv s) = q) :
    Calls Tryd.prog 45 #[.int .i64 c, .int .i64 a] w fun e w' => e = .returned (.tuple #[.int .i64 q, .bool true]) ∧ w' = w := by
  obtain ⟨⟨h0, h1⟩, h2, h3⟩ := h
  go_enter Tryd.func45, Tryd.ntmps45
  go_wp2_with fail
  refine (slots_any' ht.out _).mono ?_
  rintro e w' ⟨rfl, rfl⟩
  go_wp2_with fail
  refine (size_any' hs.out _).mono ?_
  rintro e w' ⟨rfl, rfl⟩
  go_wp2_with fail
  refine (size_any' hs.out _).mono ?_
  rintro e w' ⟨rfl, rfl⟩
  go_wp2_with fail
  go_ret2
  exact ⟨ret_pair (by assumption), rfl⟩

set_option maxHeartbeats 1000000 in
theorem slot_not (c a s t p : Int) (w : World) (hs : Hid (szN c = s)) (ht : Hid (slN c = t)) (hp : wrap64 (t * s) = p) (h : a < 0 ∨ p ≤ a) :
    Calls Tryd.prog 45 #[.int .i64 c, .int .i64 a] w fun e w' => e = .returned (.tuple #[.int .i64 0, .bool false]) ∧ w' = w := by
  by_cases h0 : a < 0
  · go_enter Tryd.func45, Tryd.ntmps45
    go_wp2_with fail
    go_ret2
    exact ⟨rfl, rfl⟩
  · have h1 : p ≤ a := by omega
    go_enter Tryd.func45, Tryd.ntmps45
    go_wp2_with fail
    refine (slots_any' ht.out _).mono ?_
    rintro e w' ⟨rfl, rfl⟩
    go_wp2_with fail
    refine (size_any' hs.out _).mono ?_
    rintro e w' ⟨rfl, rfl⟩
    go_wp2_with fail
    go_ret2
    exact ⟨rfl, rfl⟩

theorem slot_in (c a q : Int) (w : World) (h0 : 0 ≤ a) (h1 : a < slN c * szN c) (hq : a / szN c = q) :
    Calls Tryd.prog 45 #[.int .i64 c, .int .i64 a] w fun e w' => e = .returned (.tuple #[.int .i64 q, .bool true]) ∧ w' = w := by
  have hb := slsz c
  have hp := sz_pos h0 h1
  subst hq
  refine slot_core c a _ _ _ _ w rfl rfl (w64_id (n := slN c * szN c) (by omega)) ⟨⟨h0, h1⟩, by omega, ?_⟩
  rw [Int.tdiv_eq_ediv_of_nonneg h0]
  have : 0 ≤ a / szN c := Int.ediv_nonneg h0 (by omega)
  have : a / szN c ≤ a := Int.ediv_le_self _ h0
  exact w64_id (by omega)
theorem slot_out (c a : Int) (w : World) (h : a < 0 ∨ slN c * szN c ≤ a) :
    Calls Tryd.prog 45 #[.int .i64 c, .int .i64 a] w fun e w' => e = .returned (.tuple #[.int .i64 0, .bool false]) ∧ w' = w := by
  have hb := slsz c
  exact slot_not c a _ _ _ w rfl rfl (w64_id (n := slN c * szN c) (by omega)) h

/-- Some numbers of a row are 0 now. -/
def clrF (W : Nat → Int) (o n : Nat) (x : Nat) : Int := if o ≤ x ∧ x < o + n then 0 else W x
theorem clrF_zero (W : Nat → Int) (o : Nat) : clrF W o 0 = W := by funext x; unfold clrF; rw [if_neg (by omega)]

theorem But.zeros {k : Nat} {a : World} : ∀ (n o : Nat) (w : World), But k a w → But k a (w.setCells k o (List.replicate n (.int .i64 0)))
  | 0, _, _, h => h
  | n + 1, o, _, h => But.zeros n (o + 1) _ (h.setCell o _)
theorem row_zeros {b N : Nat} {t : TypeId} : ∀ (n o : Nat) (w : World) (W : Nat → Int), w.rowIs b t N (fun x => .int .i64 (W x)) → (w.setCells b o (List.replicate n (.int .i64 0))).rowIs b t N (fun x => .int .i64 (clrF W o n x))
  | 0, o, _, W, h => by rw [clrF_zero]; exact h
  | n + 1, o, _, W, h => by
    have h1 := (h.set o (.int .i64 0)).congr (g := fun x => .int .i64 (clrF W o 1 x)) fun i _ => by
      by_cases e : i = o
      · subst e; simp [clrF]
      · rw [if_neg e]; unfold clrF; rw [if_neg (by omega)]
    refine (row_zeros n (o + 1) _ _ h1).congr fun i _ => ?_
    unfold clrF
    congr 1
    by_cases h1 : o + 1 ≤ i ∧ i < o + 1 + n
    · rw [if_pos h1, if_pos (by omega)]
    · rw [if_neg h1]
      by_cases h2 : o ≤ i ∧ i < o + 1
      · rw [if_pos h2, if_pos (by omega)]
      · rw [if_neg h2, if_neg (by omega)]

theorem zeros_list (n : Nat) (z : Value) : (Builtin.zeroCells #[z] n).toList = List.replicate n z := by
  apply List.ext_getElem
  · simp [Builtin.zeroCells]
  · intro i h1 h2
    simp [Builtin.zeroCells, Nat.mod_one]

theorem run_clear_ints {w : World} {b o n c N : Nat} {W : Nat → Int} (ty : TypeId) (hr : w.rowIs b 3 N (fun x => .int .i64 (W x))) (h0 : 0 < n) (hN : o + n ≤ N) :
    (Builtin.clear_ #[22] ty #[.slice (some ⟨b, o, none⟩) n c]).run Tryd.prog w = .ok (.tuple #[]) (w.setCells b o (List.replicate n (.int .i64 0))) := by
  obtain ⟨i0, hi, hz0, hz1, hz2⟩ := info_parts Tryd.info3
  have hst := run_storeCells_cells (P := Tryd.prog) b o (List.replicate n (.int .i64 0)) 0 w (by
    intro j hj
    simp at hj
    rw [Nat.add_zero, hr.cell (i := o + j) (by omega)]; rfl) (fun j hj => hr.frozen _) (fun v hv => by rw [(List.mem_replicate.1 hv).2]; rfl)
  simp only [Nat.add_zero] at hst
  obtain ⟨m, rfl⟩ : ∃ m, n = m + 1 := ⟨n - 1, by omega⟩
  have hzc := zeros_list (m + 1) (.int .i64 0)
  simp [Builtin.clear_, run_underlying Tryd.underlying22, zeroValue, typeInfo, hi, hz0, Value.cells, hzc, hst, Result.andThen]

end Go.Proofs.YtfkimmbnmcgjiaaDoor

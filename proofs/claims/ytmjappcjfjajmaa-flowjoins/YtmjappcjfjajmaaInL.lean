/- The walk of instr's Reads. -/
import Derived.Test.YtmjappcjfjajmaaInE
import Derived.Deep.DeepCutAuto
namespace Go.Proofs.Ytmjappcjfjajmaa
open Go.RowKit

/-! ### slices.Index and slices.Contains over ints -/
theorem index_zero (a : Option Addr) (c : Nat) (x : Int) (w : World) :
    Calls Try.prog 83 #[.slice a 0 c, .int .i64 x] w fun e w' => e = .returned (.int .i64 (-1)) ∧ w' = w := by
  go_enter Try.func83, Try.ntmps83
  go_wp2_with fail
  go_loop [8] (fun i => i = .int .i64 0) (fun _ => 0)
  case atStart => rfl
  case round =>
    obtain rfl := hrel
    go_wp2_with fail
    go_ret
    exact ⟨rfl, rfl⟩
theorem index_core (L : List Int) (b off c : Nat) (x : Int) (w : World) (hl : L.length ≤ 1000) (h : ∀ j, j < L.length → w.cell? ⟨b, off + j, none⟩ = some (.int .i64 (L.getD j 0))) :
    Calls Try.prog 83 #[.slice (some ⟨b, off, none⟩) L.length c, .int .i64 x] w fun e w' => (∃ r : Int, e = .returned (.int .i64 r) ∧ (0 ≤ r ↔ x ∈ L)) ∧ w' = w := by
  have H : Hid (∀ j, j < L.length → w.cell? ⟨b, off + j, none⟩ = some (.int .i64 (L.getD j 0))) := h
  clear h
  go_enter Try.func83, Try.ntmps83
  go_wp2_with fail
  go_loop [8] (fun i => ∃ j : Nat, j ≤ L.length ∧ i = .int .i64 j ∧ ∀ k, k < j → ¬ x = L.getD k 0) (fun i => L.length - (intOf i).toNat)
  case atStart => exact ⟨0, Nat.zero_le _, rfl, fun k hk => absurd hk (by omega)⟩
  case round =>
    obtain ⟨j, hj, rfl, hall⟩ := hrel
    have HA : Hid (∀ k, k < j → ¬ x = L.getD k 0) := hall
    clear hall
    by_cases hlt : j < L.length
    · have hc := H.out j hlt
      have hm : L.getD j 0 ∈ L := by simp [hlt]
      have HM : Hid (L.getD j 0 ∈ L) := hm
      obtain ⟨y, hy⟩ : ∃ y, Hid (L.getD j 0 = y) := ⟨_, rfl⟩
      rw [hy.out] at hc HM
      have hjI : (j : Int) < (L.length : Int) := by omega
      clear hm
      by_cases hxy : x = y
      · subst hxy
        go_wp2_with fail
        go_ret
        exact ⟨⟨_, rfl, fun _ => HM.out, fun _ => by omega⟩, rfl⟩
      · go_wp2_with fail
        go_round
        case rel =>
          refine ⟨j + 1, by omega, by go_num, fun k hk => ?_⟩
          by_cases e : k = j
          · subst e; rw [hy.out]; exact hxy
          · exact HA.out k (by omega)
        case measure => simp [intOf]; omega
    · go_wp2_with fail
      go_ret
      refine ⟨⟨-1, rfl, fun h => absurd h (by decide), fun h => ?_⟩, rfl⟩
      obtain ⟨k, hk, e⟩ := List.mem_iff_getElem.1 h
      exact absurd (by simp [hk, e]) (HA.out k (by omega))
theorem index_any (L : List Int) (v : Value) (x : Int) (w : World) (hl : L.length ≤ 1000) (h : SrcAt w v L) :
    Calls Try.prog 83 #[v, .int .i64 x] w fun e w' => (∃ r : Int, e = .returned (.int .i64 r) ∧ (0 ≤ r ↔ x ∈ L)) ∧ w' = w := by
  by_cases h0 : L = []
  · subst h0
    obtain ⟨a, c, rfl⟩ := h.len
    refine (index_zero a c x w).mono ?_
    rintro e w' ⟨rfl, rfl⟩
    exact ⟨⟨-1, rfl, by simp⟩, rfl⟩
  · rcases h with ⟨h, _⟩ | ⟨b, off, c, rfl, _, h3⟩
    · exact absurd h h0
    · exact index_core L b off c x w hl h3
theorem contains_any (L : List Int) (v : Value) (x : Int) (w : World) (hl : L.length ≤ 1000) (h : SrcAt w v L) :
    Calls Try.prog 57 #[v, .int .i64 x] w fun e w' => e = .returned (.bool (decide (x ∈ L))) ∧ w' = w := by
  go_enter Try.func57, Try.ntmps57
  go_wp2_with fail
  refine (index_any L v x _ hl h).mono ?_
  rintro e w' ⟨⟨r, rfl, hr⟩, rfl⟩
  have HR : Hid (0 ≤ r ↔ x ∈ L) := hr
  clear hr
  go_wp2_with fail
  go_ret
  refine ⟨ret_bool ?_, rfl⟩
  by_cases e : x ∈ L
  · have := HR.out.2 e
    simp [e, this]
  · have : ¬ 0 ≤ r := fun h => e (HR.out.1 h)
    simp [e, this]
theorem contains' {L : List Int} {v : Value} {x : Int} {b : Bool} (w : World) (hl : L.length ≤ 1000) (h : SrcAt w v L) (hb : Hid (decide (x ∈ L) = b)) :
    Calls Try.prog 57 #[v, .int .i64 x] w fun e w' => e = .returned (.bool b) ∧ w' = w := hb.out ▸ contains_any L v x w hl h

/-! ### Reads -/
/-- How many arguments are read: the nearer end of 0 and 16. -/
def nA (args : Int) : Nat := if args ≤ 0 then 0 else if 16 ≤ args then 16 else args.toNat
theorem nA_le (args : Int) : nA args ≤ 16 := by unfold nA; split <;> (try split) <;> omega
def argsL (v : Int) : Nat → List Int
  | 0 => []
  | n + 1 => argsL v n ++ [wrap64 (v + (n : Int))]
theorem argsL_len (v : Int) : ∀ n, (argsL v n).length = n
  | 0 => rfl
  | n + 1 => by simp [argsL, argsL_len v n]
def rdStep (n : Nat) (r v : Int) (l : List Int) : List Int := if r = 2 then (if v ∈ l then l else l ++ [v]) else if r = 4 then l ++ argsL v n else l
def rdTo (n : Nat) (R V : Nat → Int) : Nat → List Int
  | 0 => []
  | j + 1 => rdStep n (R j) (V j) (rdTo n R V j)
theorem rdStep_len (n : Nat) (hn : n ≤ 16) (r v : Int) (l : List Int) : (rdStep n r v l).length ≤ l.length + 16 := by
  unfold rdStep
  split
  · split <;> simp
  · split
    · simp [argsL_len]; omega
    · omega
theorem rdTo_len (n : Nat) (hn : n ≤ 16) (R V : Nat → Int) : ∀ j, (rdTo n R V j).length ≤ 16 * j
  | 0 => by simp [rdTo]
  | j + 1 => by
    have h1 := rdStep_len n hn (R j) (V j) (rdTo n R V j)
    have h2 := rdTo_len n hn R V j
    show (rdStep n (R j) (V j) (rdTo n R V j)).length ≤ _
    omega
def R3 (r0 r1 r2 : Int) (j : Nat) : Int := [r0, r1, r2].getD j 0

end Go.Proofs.Ytmjappcjfjajmaa

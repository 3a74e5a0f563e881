/- Plain mathematics of the list of all that are in a set, and the walk of All. -/
import Derived.Test.YthnnbhpaejemnaaDoorSvK
import Derived.Test.YthnnbhpaejemnaaDoorSvH
namespace Go.Proofs.YthnnbhpaejemnaaDoor
open Go.RowKit

/-- All that are in the set and below m, rising. -/
def els (S : Nat → Bool) : Nat → List Int
  | 0 => []
  | m + 1 => els S m ++ if S m then [(m : Int)] else []
theorem els_len (S : Nat → Bool) : ∀ m, (els S m).length = cnt S m
  | 0 => rfl
  | m + 1 => by unfold els cnt; rw [List.length_append, els_len S m]; split <;> simp
theorem els_none (S : Nat → Bool) (m : Nat) : ∀ d, (∀ y, m ≤ y → y < m + d → S y = false) → els S (m + d) = els S m
  | 0, _ => rfl
  | d + 1, h => by
    show els S (m + d) ++ (if S (m + d) then [((m + d : Nat) : Int)] else []) = els S m
    rw [h (m + d) (by omega) (by omega), els_none S m d fun y h1 h2 => h y h1 (by omega)]
    simp
theorem els_next (S : Nat → Bool) (m z : Nat) (hz : m ≤ z) (hS : S z = true) (h : ∀ y, m ≤ y → y < z → S y = false) : els S (z + 1) = els S m ++ [(z : Int)] := by
  obtain ⟨d, rfl⟩ := Nat.le.dest hz
  show els S (m + d) ++ (if S (m + d) then [((m + d : Nat) : Int)] else []) = _
  rw [els_none S m d h, hS]
  simp

theorem nxF_cases (T : Nat → Bool) : ∀ f x, (nxF T f x = -1 ∧ ∀ y, x ≤ y → y < x + f → T y = false) ∨ ∃ z : Nat, nxF T f x = (z : Int) ∧ x ≤ z ∧ z < x + f ∧ T z = true ∧ ∀ y, x ≤ y → y < z → T y = false
  | 0, x => Or.inl ⟨rfl, fun y h1 h2 => by omega⟩
  | f + 1, x => by
    cases hx : T x
    · rcases nxF_cases T f (x + 1) with ⟨h1, h2⟩ | ⟨z, h1, h2, h3, h4, h5⟩
      · refine Or.inl ⟨by unfold nxF; rw [hx]; exact h1, fun y g1 g2 => ?_⟩
        by_cases e : y = x
        · rw [e]; exact hx
        · exact h2 y (by omega) (by omega)
      · refine Or.inr ⟨z, by unfold nxF; rw [hx]; exact h1, by omega, by omega, h4, fun y g1 g2 => ?_⟩
        by_cases e : y = x
        · rw [e]; exact hx
        · exact h5 y (by omega) g2
    · exact Or.inr ⟨x, by unfold nxF; rw [hx]; rfl, Nat.le_refl _, by omega, hx, fun y g1 g2 => by omega⟩
theorem nx_cases (T : Nat → Bool) (n m : Nat) : (nx T n (m : Int) = -1 ∧ ∀ y, m ≤ y → y < n → T y = false) ∨ ∃ z : Nat, nx T n (m : Int) = (z : Int) ∧ m ≤ z ∧ z < n ∧ T z = true ∧ ∀ y, m ≤ y → y < z → T y = false := by
  unfold nx
  rw [Int.toNat_natCast]
  rcases nxF_cases T (n - m) m with ⟨h1, h2⟩ | ⟨z, h1, h2, h3, h4, h5⟩
  · exact Or.inl ⟨h1, fun y g1 g2 => h2 y g1 (by omega)⟩
  · exact Or.inr ⟨z, h1, h2, by omega, h4, h5⟩

/-- A measure that falls from one to the next. -/
def stepM (n : Nat) (k : Int) : Nat := if k < 0 then 0 else n + 1 - k.toNat
theorem stepM_nat (n k : Nat) : stepM n (k : Int) = n + 1 - k := by
  unfold stepM; rw [if_neg (by omega), Int.toNat_natCast]
theorem stepM_neg (n : Nat) : stepM n (-1) = 0 := rfl
theorem stepM_next (T : Nat → Bool) (n z : Nat) (hz : z < n) : stepM n (nx T n ((z + 1 : Nat) : Int)) < stepM n (z : Int) := by
  rcases nx_cases T n (z + 1) with ⟨h1, _⟩ | ⟨y, h1, h2, h3, _⟩
  · rw [h1, stepM_neg, stepM_nat]; omega
  · rw [h1, stepM_nat, stepM_nat]; omega
theorem nx_le (T : Nat → Bool) (n m : Nat) : nx T n (m : Int) < n ∨ nx T n (m : Int) = -1 := by
  rcases nx_cases T n m with ⟨h1, _⟩ | ⟨y, h1, h2, h3, _⟩
  · exact Or.inr h1
  · exact Or.inl (by rw [h1]; omega)

theorem Tryd.info3 : (Tryd.prog.info? 3).map (fun i => (i.zero, i.size, i.bytes)) = some (some (.int .i64 0), 1, 8) := by kernel_rfl

theorem SvAt.below {B : Nat} {w w' : World} {b bw n : Nat} {S : Nat → Bool} (h : SvAt w b bw n S) (hb : Below B w w') (h1 : b < B) (h2 : bw < B) : SvAt w' b bw n S :=
  ⟨h.hd.of_block (hb.block _ h1), h.ws.of_block (hb.block _ h2), h.le, h.out⟩

set_option maxHeartbeats 400000 in
theorem all_nil (w : World) :
    Calls Tryd.prog 13 #[.pointer none] w fun e w' => e = .returned (.slice none 0 0) ∧ ∃ q, w' = w.drewN q := by
  go_enter Tryd.func13, Tryd.ntmps13
  go_wp2_with fail
  refine (next_nil _ _).mono ?_
  rintro e w' ⟨rfl, q, rfl⟩
  go_wp2_with fail
  go_loop [3, 4] (fun v k => v = .slice none 0 0 ∧ k = .int .i64 (-1)) (fun _ _ => 0)
  case atStart => exact ⟨rfl, rfl⟩
  case round =>
    obtain ⟨rfl, rfl⟩ := hrel
    go_wp2
    go_ret
    exact ⟨rfl, q, rfl⟩

set_option maxHeartbeats 1000000 in
theorem all_any (w : World) {b bw n : Nat} {S : Nat → Bool} (h : SvAt w b bw n S) (hT : Tab w) :
    Calls Tryd.prog 13 #[.pointer (some ⟨b, 0, none⟩)] w fun e w' => ∃ v, e = .returned v ∧
      w'.ownsRow w.heap.size 3 1 v (cnt S n) ((els S n).map (Value.int .i64)) ∧ Below w.heap.size w w' := by
  obtain ⟨i0, hi, hz0, hz1, hz2⟩ := info_parts Tryd.info3
  have hle := h.le
  have hb1 := h.blt
  have hb2 := h.bwlt
  have HS : Hid (SvAt w b bw n S) := h
  have HT : Hid (Tab w) := hT
  clear h hT
  go_enter Tryd.func13, Tryd.ntmps13
  go_wp2_with fail
  refine (next_any 0 _ (by decide) HS.out HT.out).mono ?_
  rintro e w' ⟨rfl, q, rfl⟩
  go_wp2_with fail
  go_loopw [3, 4] (fun v k wr => ∃ m : Nat, m ≤ n ∧ k = .int .i64 (nx S n (m : Int)) ∧ wr.ownsRow w.heap.size 3 1 v (cnt S m) ((els S m).map (Value.int .i64)) ∧ Below w.heap.size w wr) (fun _ k _ => stepM n (intOf k))
  case atStart => exact ⟨0, Nat.zero_le _, rfl, World.ownsRow_nil _ _ _ _, below_drewN (Below.refl _ _) _⟩
  case round =>
    obtain ⟨m, hm, rfl, hown, hB⟩ := hrel
    rcases nx_cases S n m with ⟨h1, h2⟩ | ⟨z, h1, h2, h3, h4, h5⟩
    · rw [h1]
      go_wp2
      go_ret
      obtain ⟨d, rfl⟩ := Nat.le.dest hm
      have e1 : els S (m + d) = els S m := els_none S m d h2
      have e2 : cnt S (m + d) = cnt S m := by rw [← els_len, e1, els_len]
      exact ⟨_, rfl, by rw [e1, e2]; exact hown, hB⟩
    · have hE := els_next S m z h2 h4 h5
      have HE : Hid (els S (z + 1) = els S m ++ [(z : Int)]) := hE
      have HL : Hid (cnt S (z + 1) = cnt S m + 1) := by unfold Hid; rw [← els_len, hE, List.length_append, els_len]; rfl
      have hcm := cnt_le S m
      have HM : Hid (stepM n (nx S n ((z + 1 : Nat) : Int)) < stepM n (z : Int)) := stepM_next S n z h3
      rw [h1]
      clear hE h1 h5 h4
      go_wp2_with (at_builtin; refine wpList_append_own _ rfl _ _ 35 rfl w.heap.size 3 i0 (.int .i64 0) 1 8 Tryd.underlying35 hi hz0 hz1 hz2 rfl (by decide) _ _ _ rfl (hown.alloc _) ⟨wr.heap.size, 0, none⟩ 1 1 [.int .i64 z] rfl rfl ?c1 ?c2 ?c3 ?c4 ?c5 ?_)
      case c1 =>
        intro j u hj
        match j, hj with
        | 0, hj => simp at hj; subst hj; simp [Addr.add]
      case c2 => intro u hu; simp at hu; subst hu; rfl
      case c3 => unfold maxLen; omega
      case c4 => omega
      case c5 => have := hB.size; simp; omega
      · intro v' w1 hown' hgrow _
        have hBa : Below w.heap.size w (wr.alloc (.cells #[.int .i64 (z : Int)] 3)) := hB.alloc hB.size _
        have hB1 : Below w.heap.size w w1 := hBa.grown hgrow hBa.size (fun k hk => (hown.lt k hk).1)
        clear hBa hgrow hown hB
        go_wp2_with fail
        rw [show ((z : Int) + 1) = ((z + 1 : Nat) : Int) from by omega]
        refine (next_any ((z + 1 : Nat) : Int) _ (by omega) (HS.out.below hB1 hb1 hb2) (HT.out.below hB1 HT.out.size)).mono ?_
        rintro e w2 ⟨rfl, q2, rfl⟩
        go_wp2_with fail
        exact ⟨⟨z + 1, by omega, rfl, by rw [HE.out, HL.out, List.map_append]; exact hown', below_drewN hB1 _⟩, HM.out⟩

end Go.Proofs.YthnnbhpaejemnaaDoor

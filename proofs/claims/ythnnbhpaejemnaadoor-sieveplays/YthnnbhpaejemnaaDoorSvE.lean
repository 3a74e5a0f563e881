/- The walk of Put. -/
import Derived.Test.YthnnbhpaejemnaaDoorSvD
import Derived.Deep.RegionWith
namespace Go.Proofs.YthnnbhpaejemnaaDoor
open Go.RowKit

/-- One number put in; is it a new one? -/
def put1 (n : Nat) (S : Nat → Bool) (k : Int) : Nat → Bool := if mayB n k then up S k.toNat true else S
def fresh1 (n : Nat) (S : Nat → Bool) (k : Int) : Nat := if mayB n k && !S k.toNat then 1 else 0
def putS (n : Nat) : (Nat → Bool) → List Int → (Nat → Bool)
  | S, [] => S
  | S, k :: l => putS n (put1 n S k) l
def putC (n : Nat) : (Nat → Bool) → List Int → Nat
  | _, [] => 0
  | S, k :: l => fresh1 n S k + putC n (put1 n S k) l

theorem putS_snoc (n : Nat) : ∀ (l : List Int) (S : Nat → Bool) (k : Int), putS n S (l ++ [k]) = put1 n (putS n S l) k
  | [], _, _ => rfl
  | a :: l, S, k => putS_snoc n l (put1 n S a) k
theorem putC_snoc (n : Nat) : ∀ (l : List Int) (S : Nat → Bool) (k : Int), putC n S (l ++ [k]) = putC n S l + fresh1 n (putS n S l) k
  | [], _, _ => by simp [putC, putS]
  | a :: l, S, k => by
    show fresh1 n S a + putC n (put1 n S a) (l ++ [k]) = _
    rw [putC_snoc n l (put1 n S a) k]
    show _ = fresh1 n S a + putC n (put1 n S a) l + fresh1 n (putS n (put1 n S a) l) k
    omega
theorem putC_le (n : Nat) : ∀ (l : List Int) (S : Nat → Bool), putC n S l ≤ l.length
  | [], _ => Nat.le_refl _
  | a :: l, S => by
    have := putC_le n l (put1 n S a)
    show fresh1 n S a + putC n (put1 n S a) l ≤ l.length + 1
    have : fresh1 n S a ≤ 1 := by unfold fresh1; split <;> omega
    omega
theorem take_snocD (L : List Int) (j : Nat) (h : j < L.length) : L.take (j + 1) = L.take j ++ [L.getD j 0] := by
  rw [List.take_succ_eq_append_getElem h]
  simp [h]

theorem SvAt.ne {w : World} {b bw n : Nat} {S : Nat → Bool} (h : SvAt w b bw n S) : b ≠ bw := by
  intro e
  subst e
  obtain ⟨c, hb, _⟩ := h.hd
  obtain ⟨c', hb', _⟩ := h.ws
  rw [hb] at hb'
  simp at hb'

theorem SvAt.but {w w' : World} {b bw n k : Nat} {S : Nat → Bool} (h : SvAt w b bw n S) (hw : But k w w') (h1 : b ≠ k) (h2 : bw ≠ k) : SvAt w' b bw n S :=
  ⟨hw.row h.hd h1, hw.row h.ws h2, h.le, h.out⟩

theorem SvAt.set {w : World} {b bw n k : Nat} {S : Nat → Bool} (h : SvAt w b bw n S) (v : Bool) (hk : k < n) (x : Nat) (hx : x = wd (up S k v) (k / 64)) :
    SvAt (w.setCell ⟨bw, k / 64, none⟩ (.int .u64 x)) b bw n (up S k v) := by
  refine ⟨h.hd.setOther h.ne _, (h.ws.set (k / 64) _).congr fun j _ => ?_, h.le, fun y hy => ?_⟩
  · by_cases e : j = k / 64
    · subst e; rw [if_pos rfl, hx]
    · rw [if_neg e, wd_other S k j v e]
  · have : y ≠ k := by omega
    simp [up, this, h.out y hy]

theorem SvAt.fw {w : World} {b bw n : Nat} {S : Nat → Bool} (h : SvAt w b bw n S) (j : Nat) : w.frozen? ⟨bw, j, none⟩ = false := h.ws.frozen j

theorem has_is (k : Int) (v : Bool) (w : World) {b bw n : Nat} {S : Nat → Bool} (h : SvAt w b bw n S) (hv : hasB n S k = v) :
    Calls Tryd.prog 20 #[.pointer (some ⟨b, 0, none⟩), .int .i64 k] w fun e w' => e = .returned (.bool v) ∧ ∃ q, w' = w.drewN q := by
  rw [← hv]; exact has_any k w h

set_option maxHeartbeats 1000000 in
theorem put_core (L : List Int) (w : World) {b bw n bl off c : Nat} {S : Nat → Bool} (h : SvAt w b bw n S) (hbl : bl ≠ bw) (hlt : bl < w.heap.size) (hlen : L.length ≤ maxLen)
    (hc : ∀ j, j < L.length → w.cell? ⟨bl, off + j, none⟩ = some (.int .i64 (L.getD j 0))) :
    Calls Tryd.prog 10 #[.pointer (some ⟨b, 0, none⟩), .slice (some ⟨bl, off, none⟩) L.length c] w fun e w' =>
      e = .returned (.int .i64 (putC n S L)) ∧ SvAt w' b bw n (putS n S L) ∧ But bw w w' := by
  unfold maxLen at hlen
  have HC : Hid (∀ j, j < L.length → w.cell? ⟨bl, off + j, none⟩ = some (.int .i64 (L.getD j 0))) := hc
  clear hc
  go_enter Tryd.func10, Tryd.ntmps10
  go_wp2
  go_loopw [5, 10] (fun f i wr => ∃ j : Nat, j ≤ L.length ∧ i = .int .i64 j ∧ f = .int .i64 (putC n S (L.take j)) ∧ SvAt wr b bw n (putS n S (L.take j)) ∧ But bw w wr) (fun _ i _ => L.length - (intOf i).toNat)
  case atStart => exact ⟨0, Nat.zero_le _, rfl, rfl, h, But.refl _ _⟩
  case round =>
    obtain ⟨j, hj, rfl, rfl, hs, hw⟩ := hrel
    by_cases hlt' : j < L.length
    · have hcell : wr.cell? ⟨bl, off + j, none⟩ = some (.int .i64 (L.getD j 0)) := by
        rw [← HC.out j hlt']; exact World.cell?_of_block (hw.block bl hlt hbl)
      have HS : Hid (putS n S (L.take (j + 1)) = put1 n (putS n S (L.take j)) (L.getD j 0)) := by rw [take_snocD L j hlt']; exact putS_snoc n _ _ _
      have HN : Hid (putC n S (L.take (j + 1)) = putC n S (L.take j) + fresh1 n (putS n S (L.take j)) (L.getD j 0)) := by rw [take_snocD L j hlt']; exact putC_snoc n _ _ _
      have hcl : putC n S (L.take j) ≤ j := Nat.le_trans (putC_le n _ S) (List.length_take_le j L)
      have hle := h.le
      clear h HC
      generalize L.getD j 0 = k at *
      generalize putS n S (L.take j) = T at *
      generalize putC n S (L.take j) = c0 at *
      cases hm : mayB n k
      · go_wp2_with (go_at_call 26; refine (may_is k false _ hs hm).mono ?_; rintro e w' ⟨rfl, rfl⟩)
        go_roundw
        case rel => exact ⟨j + 1, by omega, by go_num, by rw [HN.out]; simp [fresh1, hm], by rw [HS.out]; simpa [put1, hm] using hs, hw⟩
        case measure => simp [intOf]; omega
      · have hm' := hm
        simp [mayB] at hm'
        obtain ⟨h0, h1⟩ := hm'
        obtain ⟨x, rfl⟩ := Int.eq_ofNat_of_zero_le h0
        have HM : Hid (mayB n (x : Int) = true) := hm
        clear hm h0
        cases hT : T x
        · have hh : hasB n T (x : Int) = false := by simp [hasB, hT]
          have HH : Hid (hasB n T (x : Int) = false) := hh
          clear hh
          go_wp2_with (first
            | (go_at_call 26; refine (may_is _ true _ hs HM.out).mono ?_; rintro e w' ⟨rfl, rfl⟩)
            | (go_at_call 20; refine (has_is _ false _ hs HH.out).mono ?_; rintro e w' ⟨rfl, qq, rfl⟩))
          have hxn : x < n := by omega
          have hcw := hs.cw
          have hcs := hs.cs (x / 64) (by unfold svK; omega)
          have hfz := hs.fw (x / 64)
          have hq : (x : Int) / 64 = ((x / 64 : Nat) : Int) := by omega
          have hqK : ((x / 64 : Nat) : Int) < (svK n : Int) := by unfold svK; omega
          have hp : 2 ^ (x % 64) < 2 ^ 64 := Nat.pow_lt_pow_of_lt (by decide) (Nat.mod_lt _ (by decide))
          have hor := u64_or_nat (wd T (x / 64)) (2 ^ (x % 64)) (wd_lt _ _) hp
          have HP := wd_put T x
          have HP' : Hid (wd (up T x true) (x / 64) = wd T (x / 64) ||| 2 ^ (x % 64)) := HP
          have HQ : Hid (x / 64 = x / 64) := rfl
          have hset := hs.set (k := x) true hxn _ HP.symm
          have HSet : Hid (SvAt (w'.setCell ⟨bw, x / 64, none⟩ (.int .u64 ((wd T (x / 64) ||| 2 ^ (x % 64) : Nat) : Int))) b bw n (up T x true)) := hset
          have HB : Hid (But bw w (w'.setCell ⟨bw, x / 64, none⟩ (.int .u64 ((wd T (x / 64) ||| 2 ^ (x % 64) : Nat) : Int)))) := hw.setCell _ _
          have HF : Hid (fresh1 n T (x : Int) = 1) := by unfold Hid fresh1; simp [HM.out, hT]
          have HT : Hid (put1 n T (x : Int) = up T x true) := by unfold Hid put1; simp [HM.out]
          clear HP HP' hset hs hw hT HH
          generalize wd T (x / 64) ||| 2 ^ (x % 64) = r at *
          generalize wd T (x / 64) = v at *
          generalize x / 64 = q at *
          generalize svK n = K at *
          have Ht : Hid (2 ^ (x % 64) = 2 ^ (x % 64)) := rfl
          obtain ⟨t, HT2⟩ : ∃ t, t = 2 ^ (x % 64) := ⟨_, rfl⟩
          rw [← HT2] at hor
          have Ht2 : Hid (2 ^ (x % 64) = t) := HT2.symm
          clear HT2 Ht HQ hp
          go_region_with ((go_at_call 27; refine (bit_is x t _ (by omega) Ht2).mono ?_; rintro e w' ⟨rfl, rfl⟩))
          all_goals
            go_wp2
            go_roundw
            case rel => exact ⟨j + 1, by omega, by go_num, by rw [HN.out, HF.out]; go_num, by rw [HS.out, HT.out]; exact HSet.out.drewN _, HB.out.drewN _⟩
            case measure => simp [intOf]; omega
        · have hh : hasB n T (x : Int) = true := by simp [hasB, hT, HM.out]
          have HH : Hid (hasB n T (x : Int) = true) := hh
          clear hh
          go_wp2_with (first
            | (go_at_call 26; refine (may_is _ true _ hs HM.out).mono ?_; rintro e w' ⟨rfl, rfl⟩)
            | (go_at_call 20; refine (has_is _ true _ hs HH.out).mono ?_; rintro e w' ⟨rfl, qq, rfl⟩))
          have eT : put1 n T (x : Int) = T := by
            funext y
            by_cases hy : y = x <;> simp [put1, HM.out, up, hy, hT]
          go_roundw
          case rel => exact ⟨j + 1, by omega, by go_num, by rw [HN.out]; simp [fresh1, hT], by rw [HS.out, eT]; exact hs.drewN _, hw.drewN _⟩
          case measure => simp [intOf]; omega
    · go_wp2
      go_ret
      have e : L.take j = L := List.take_of_length_le (by omega)
      rw [e] at hs
      exact ⟨ret_int (by rw [e]), hs, hw⟩

end Go.Proofs.YthnnbhpaejemnaaDoor

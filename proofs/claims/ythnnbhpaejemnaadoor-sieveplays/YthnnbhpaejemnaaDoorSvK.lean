/- The walks of Cut and Gap; Put and Cut of an empty list. -/
import Derived.Test.YthnnbhpaejemnaaDoorSvG
namespace Go.Proofs.YthnnbhpaejemnaaDoor
open Go.RowKit

/-- One number taken out; was it in it? -/
def cut1 (n : Nat) (S : Nat → Bool) (k : Int) : Nat → Bool := if hasB n S k then up S k.toNat false else S
def gone1 (n : Nat) (S : Nat → Bool) (k : Int) : Nat := if hasB n S k then 1 else 0
def cutS (n : Nat) : (Nat → Bool) → List Int → (Nat → Bool)
  | S, [] => S
  | S, k :: l => cutS n (cut1 n S k) l
def cutC (n : Nat) : (Nat → Bool) → List Int → Nat
  | _, [] => 0
  | S, k :: l => gone1 n S k + cutC n (cut1 n S k) l

theorem cutS_snoc (n : Nat) : ∀ (l : List Int) (S : Nat → Bool) (k : Int), cutS n S (l ++ [k]) = cut1 n (cutS n S l) k
  | [], _, _ => rfl
  | a :: l, S, k => cutS_snoc n l (cut1 n S a) k
theorem cutC_snoc (n : Nat) : ∀ (l : List Int) (S : Nat → Bool) (k : Int), cutC n S (l ++ [k]) = cutC n S l + gone1 n (cutS n S l) k
  | [], _, _ => by simp [cutC, cutS]
  | a :: l, S, k => by
    show gone1 n S a + cutC n (cut1 n S a) (l ++ [k]) = _
    rw [cutC_snoc n l (cut1 n S a) k]
    show _ = gone1 n S a + cutC n (cut1 n S a) l + gone1 n (cutS n (cut1 n S a) l) k
    omega
theorem cutC_le (n : Nat) : ∀ (l : List Int) (S : Nat → Bool), cutC n S l ≤ l.length
  | [], _ => Nat.le_refl _
  | a :: l, S => by
    have := cutC_le n l (cut1 n S a)
    show gone1 n S a + cutC n (cut1 n S a) l ≤ l.length + 1
    have : gone1 n S a ≤ 1 := by unfold gone1; split <;> omega
    omega

set_option maxHeartbeats 1000000 in
theorem cut_core (L : List Int) (w : World) {b bw n bl off c : Nat} {S : Nat → Bool} (h : SvAt w b bw n S) (hbl : bl ≠ bw) (hlt : bl < w.heap.size) (hlen : L.length ≤ maxLen)
    (hc : ∀ j, j < L.length → w.cell? ⟨bl, off + j, none⟩ = some (.int .i64 (L.getD j 0))) :
    Calls Tryd.prog 12 #[.pointer (some ⟨b, 0, none⟩), .slice (some ⟨bl, off, none⟩) L.length c] w fun e w' =>
      e = .returned (.int .i64 (cutC n S L)) ∧ SvAt w' b bw n (cutS n S L) ∧ But bw w w' := by
  unfold maxLen at hlen
  have HC : Hid (∀ j, j < L.length → w.cell? ⟨bl, off + j, none⟩ = some (.int .i64 (L.getD j 0))) := hc
  clear hc
  go_enter Tryd.func12, Tryd.ntmps12
  go_wp2
  go_loopw [5, 10] (fun f i wr => ∃ j : Nat, j ≤ L.length ∧ i = .int .i64 j ∧ f = .int .i64 (cutC n S (L.take j)) ∧ SvAt wr b bw n (cutS n S (L.take j)) ∧ But bw w wr) (fun _ i _ => L.length - (intOf i).toNat)
  case atStart => exact ⟨0, Nat.zero_le _, rfl, rfl, h, But.refl _ _⟩
  case round =>
    obtain ⟨j, hj, rfl, rfl, hs, hw⟩ := hrel
    by_cases hlt' : j < L.length
    · have hcell : wr.cell? ⟨bl, off + j, none⟩ = some (.int .i64 (L.getD j 0)) := by
        rw [← HC.out j hlt']; exact World.cell?_of_block (hw.block bl hlt hbl)
      have HS : Hid (cutS n S (L.take (j + 1)) = cut1 n (cutS n S (L.take j)) (L.getD j 0)) := by rw [take_snocD L j hlt']; exact cutS_snoc n _ _ _
      have HN : Hid (cutC n S (L.take (j + 1)) = cutC n S (L.take j) + gone1 n (cutS n S (L.take j)) (L.getD j 0)) := by rw [take_snocD L j hlt']; exact cutC_snoc n _ _ _
      have hcl : cutC n S (L.take j) ≤ j := Nat.le_trans (cutC_le n _ S) (List.length_take_le j L)
      have hle := h.le
      clear h HC
      generalize L.getD j 0 = k at *
      generalize cutS n S (L.take j) = T at *
      generalize cutC n S (L.take j) = c0 at *
      cases hh : hasB n T k
      · have HH : Hid (hasB n T k = false) := hh
        clear hh
        go_wp2_with (go_at_call 20; refine (has_is _ false _ hs HH.out).mono ?_; rintro e w' ⟨rfl, qq, rfl⟩)
        go_roundw
        case rel => exact ⟨j + 1, by omega, by go_num, by rw [HN.out]; simp [gone1, HH.out], by rw [HS.out]; simpa [cut1, HH.out] using hs.drewN _, hw.drewN _⟩
        case measure => simp [intOf]; omega
      · have hm' := hh
        simp [hasB, mayB] at hm'
        obtain ⟨⟨h0, h1⟩, _⟩ := hm'
        obtain ⟨x, rfl⟩ := Int.eq_ofNat_of_zero_le h0
        have HH : Hid (hasB n T (x : Int) = true) := hh
        clear hh h0
        go_wp2_with (go_at_call 20; refine (has_is _ true _ hs HH.out).mono ?_; rintro e w' ⟨rfl, qq, rfl⟩)
        have hxn : x < n := by omega
        have hcw := hs.cw
        have hcs := hs.cs (x / 64) (by unfold svK; omega)
        have hfz := hs.fw (x / 64)
        have hq : (x : Int) / 64 = ((x / 64 : Nat) : Int) := by omega
        have hqK : ((x / 64 : Nat) : Int) < (svK n : Int) := by unfold svK; omega
        have hp : 2 ^ (x % 64) < 2 ^ 64 := Nat.pow_lt_pow_of_lt (by decide) (Nat.mod_lt _ (by decide))
        have hor := u64_andNot_nat (wd T (x / 64)) (2 ^ (x % 64)) (wd_lt _ _) hp
        have HP := wd_cut T x
        have hset := hs.set (k := x) false hxn _ HP.symm
        have HSet : Hid (SvAt (wr.setCell ⟨bw, x / 64, none⟩ (.int .u64 ((wd T (x / 64) &&& (18446744073709551615 - 2 ^ (x % 64)) : Nat) : Int))) b bw n (up T x false)) := hset
        have HB : Hid (But bw w (wr.setCell ⟨bw, x / 64, none⟩ (.int .u64 ((wd T (x / 64) &&& (18446744073709551615 - 2 ^ (x % 64)) : Nat) : Int)))) := hw.setCell _ _
        have HF : Hid (gone1 n T (x : Int) = 1) := by unfold Hid gone1; simp [HH.out]
        have HT : Hid (cut1 n T (x : Int) = up T x false) := by unfold Hid cut1; simp [HH.out]
        clear HP hset hs hw HH
        generalize wd T (x / 64) &&& (18446744073709551615 - 2 ^ (x % 64)) = r at *
        generalize wd T (x / 64) = v at *
        generalize x / 64 = q at *
        generalize svK n = K at *
        obtain ⟨t, HT2⟩ : ∃ t, t = 2 ^ (x % 64) := ⟨_, rfl⟩
        rw [← HT2] at hor
        have Ht2 : Hid (2 ^ (x % 64) = t) := HT2.symm
        clear HT2 hp
        go_region_with ((go_at_call 27; refine (bit_is x t _ (by omega) Ht2).mono ?_; rintro e w' ⟨rfl, rfl⟩))
        all_goals
          go_wp2
          go_roundw
          case rel => exact ⟨j + 1, by omega, by go_num, by rw [HN.out, HF.out]; go_num, by rw [HS.out, HT.out]; exact HSet.out.drewN _, HB.out.drewN _⟩
          case measure => simp [intOf]; omega
    · go_wp2
      go_ret
      have e : L.take j = L := List.take_of_length_le (by omega)
      rw [e] at hs
      exact ⟨ret_int (by rw [e]), hs, hw⟩

set_option maxHeartbeats 400000 in
theorem put_zero (r : Value) (a : Option Addr) (c : Nat) (w : World) :
    Calls Tryd.prog 10 #[r, .slice a 0 c] w fun e w' => e = .returned (.int .i64 0) ∧ w' = w := by
  go_enter Tryd.func10, Tryd.ntmps10
  go_wp2
  go_loop [5, 10] (fun f i => f = .int .i64 0 ∧ i = .int .i64 0) (fun _ _ => 0)
  case atStart => exact ⟨rfl, rfl⟩
  case round =>
    obtain ⟨rfl, rfl⟩ := hrel
    go_wp2
    go_ret
    exact ⟨rfl, rfl⟩

set_option maxHeartbeats 400000 in
theorem cut_zero (r : Value) (a : Option Addr) (c : Nat) (w : World) :
    Calls Tryd.prog 12 #[r, .slice a 0 c] w fun e w' => e = .returned (.int .i64 0) ∧ w' = w := by
  go_enter Tryd.func12, Tryd.ntmps12
  go_wp2
  go_loop [5, 10] (fun f i => f = .int .i64 0 ∧ i = .int .i64 0) (fun _ _ => 0)
  case atStart => exact ⟨rfl, rfl⟩
  case round =>
    obtain ⟨rfl, rfl⟩ := hrel
    go_wp2
    go_ret
    exact ⟨rfl, rfl⟩

/-- THE VALUE v IS A SLICE OF THE INTS L, IN A BLOCK BELOW B (or it is empty). -/
def IntsIn (w : World) (B : Nat) (v : Value) (L : List Int) : Prop :=
  (L = [] ∧ ∃ a c, v = .slice a 0 c) ∨ ∃ bl off c, v = .slice (some ⟨bl, off, none⟩) L.length c ∧ bl < B ∧ B ≤ w.heap.size ∧ ∀ j, j < L.length → w.cell? ⟨bl, off + j, none⟩ = some (.int .i64 (L.getD j 0))

theorem IntsIn.below {w w' : World} {B : Nat} {v : Value} {L : List Int} (h : IntsIn w B v L) (hb : Below B w w') : IntsIn w' B v L := by
  rcases h with h | ⟨bl, off, c, h1, h2, h3, h4⟩
  · exact Or.inl h
  · exact Or.inr ⟨bl, off, c, h1, h2, Nat.le_trans h3 hb.size, fun j hj => (hb.cell (p := ⟨bl, off + j, none⟩) h2).trans (h4 j hj)⟩

theorem put_any (L : List Int) (v : Value) (w : World) {B b bw n : Nat} {S : Nat → Bool} (h : SvAt w b bw n S) (hB : B ≤ bw) (hL : IntsIn w B v L) (hlen : L.length ≤ maxLen) :
    Calls Tryd.prog 10 #[.pointer (some ⟨b, 0, none⟩), v] w fun e w' => e = .returned (.int .i64 (putC n S L)) ∧ SvAt w' b bw n (putS n S L) ∧ But bw w w' := by
  rcases hL with ⟨rfl, a, c, rfl⟩ | ⟨bl, off, c, rfl, h2, h3, h4⟩
  · refine (put_zero _ a c w).mono ?_
    rintro e w' ⟨rfl, rfl⟩
    exact ⟨rfl, h, But.refl _ _⟩
  · exact put_core L w h (by omega) (by omega) hlen h4

theorem cut_any (L : List Int) (v : Value) (w : World) {B b bw n : Nat} {S : Nat → Bool} (h : SvAt w b bw n S) (hB : B ≤ bw) (hL : IntsIn w B v L) (hlen : L.length ≤ maxLen) :
    Calls Tryd.prog 12 #[.pointer (some ⟨b, 0, none⟩), v] w fun e w' => e = .returned (.int .i64 (cutC n S L)) ∧ SvAt w' b bw n (cutS n S L) ∧ But bw w w' := by
  rcases hL with ⟨rfl, a, c, rfl⟩ | ⟨bl, off, c, rfl, h2, h3, h4⟩
  · refine (cut_zero _ a c w).mono ?_
    rintro e w' ⟨rfl, rfl⟩
    exact ⟨rfl, h, But.refl _ _⟩
  · exact cut_core L w h (by omega) (by omega) hlen h4

set_option maxHeartbeats 400000 in
theorem gap_any (fr : Int) (w : World) (hfr : fr ≤ 9223372036854775807) {b bw n : Nat} {S : Nat → Bool} (h : SvAt w b bw n S) (hT : Tab w) :
    Calls Tryd.prog 18 #[.pointer (some ⟨b, 0, none⟩), .int .i64 fr] w fun e w' => e = .returned (.int .i64 (nx (notIn S) n fr)) ∧ ∃ q, w' = w.drewN q := by
  have hc := seek_any fr true w hfr h hT
  rw [sought_out] at hc
  have HC : Hid (Calls Tryd.prog 29 #[.pointer (some ⟨b, 0, none⟩), .int .i64 fr, .int .u64 ((flipN true : Nat) : Int)] w fun e w' => e = .returned (.int .i64 (nx (notIn S) n fr)) ∧ ∃ q, w' = w.drewN q) := hc
  clear hc h hT
  go_enter Tryd.func18, Tryd.ntmps18
  go_wp2_with fail
  refine (HC.out).mono ?_
  rintro e w' ⟨rfl, q, rfl⟩
  go_wp2_with fail
  go_ret
  exact ⟨rfl, q, rfl⟩

set_option maxHeartbeats 400000 in
theorem gap_nil (fr : Int) (w : World) :
    Calls Tryd.prog 18 #[.pointer none, .int .i64 fr] w fun e w' => e = .returned (.int .i64 (-1)) ∧ ∃ q, w' = w.drewN q := by
  go_enter Tryd.func18, Tryd.ntmps18
  go_wp2_with fail
  refine (seek_nil _ _ _).mono ?_
  rintro e w' ⟨rfl, q, rfl⟩
  go_wp2_with fail
  go_ret
  exact ⟨rfl, q, rfl⟩

end Go.Proofs.YthnnbhpaejemnaaDoor

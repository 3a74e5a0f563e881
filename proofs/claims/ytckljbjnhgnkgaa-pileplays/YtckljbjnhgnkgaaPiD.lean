/- Two Piles side by side; the walk of the law PileClears. -/
import Derived.Test.YtckljbjnhgnkgaaPiC
namespace Go.Proofs.Ytckljbjnhgnkgaa
open Go.RowKit

theorem PiAt.mono {w : World} {B B' b : Nat} {v : Value} {R : Nat} {L : List Int} {l : Bool} (h : PiAt w B b v R L l) (hB : B' ≤ B) : PiAt w B' b v R L l :=
  ⟨h.hd, own_base h.ow hB, h.r1, h.r2, h.le, Nat.le_trans hB h.bB⟩
theorem PiAt.nb {w : World} {B B' b b' : Nat} {v v' : Value} {R R' : Nat} {L L' : List Int} {l l' : Bool} (h : PiAt w B b v R L l) (h' : PiAt w B' b' v' R' L' l') : v'.ownBlock ≠ some b := by
  intro e
  rcases h'.ow.2 with ⟨rfl, _⟩ | ⟨g, cap, cur, rfl, _, hg, _⟩
  · simp [Value.ownBlock] at e
  · simp [Value.ownBlock] at e
    obtain ⟨c, hc, _⟩ := h.hd
    rw [← e, hg] at hc
    simp at hc

/-- TWO PILES SIDE BY SIDE. -/
structure Tv (w wr : World) (b1 b2 R : Nat) (v1 v2 : Value) (L1 L2 : List Int) (l1 l2 : Bool) : Prop where
  p : PiAt wr w.heap.size b1 v1 R L1 l1
  q : PiAt wr w.heap.size b2 v2 R L2 l2
  ne : b1 ≠ b2
  ap : v1.ownBlock = none ∨ v1.ownBlock ≠ v2.ownBlock
  lo : Below w.heap.size w wr
def Tw (w wr : World) (b1 b2 R : Nat) (L1 L2 : List Int) (l1 l2 : Bool) : Prop := ∃ v1 v2, Tv w wr b1 b2 R v1 v2 L1 L2 l1 l2

section
variable {w wr w' : World} {b1 b2 R : Nat} {v1 v2 : Value} {L1 L2 : List Int} {l1 l2 : Bool}
theorem Tv.sym (h : Tv w wr b1 b2 R v1 v2 L1 L2 l1 l2) : Tv w wr b2 b1 R v2 v1 L2 L1 l2 l1 := by
  refine ⟨h.q, h.p, h.ne.symm, ?_, h.lo⟩
  rcases h.ap with e | e
  · cases e2 : v2.ownBlock with
    | none => exact Or.inl rfl
    | some k => right; rw [e]; simp
  · right; exact fun e2 => e e2.symm
theorem Tw.sym (h : Tw w wr b1 b2 R L1 L2 l1 l2) : Tw w wr b2 b1 R L2 L1 l2 l1 := by
  obtain ⟨v1, v2, h⟩ := h
  exact ⟨v2, v1, h.sym⟩
/-- Behind a call on the first one. -/
theorem Tv.to {L1' : List Int} {l1' : Bool} {v1' : Value} (h : Tv w wr b1 b2 R v1 v2 L1 L2 l1 l2) (h1 : PiAt w' w.heap.size b1 v1' R L1' l1') (hf : Pf b1 v1.ownBlock wr w') (ho : v1'.ownBlock = v1.ownBlock ∨ ∀ k, v1'.ownBlock = some k → wr.heap.size ≤ k) :
    Tw w w' b1 b2 R L1' L2 l1' l2 := by
  have hs := h.sym
  refine ⟨v1', v2, h1, h.q.other hf h.ne.symm (h.q.nb h.p) hs.ap (h.p.nb h.q), h.ne, ?_, h.lo.trans (hf.below h.p.bB h.p.own h.lo.size)⟩
  rcases ho with e | e
  · rw [e]; exact h.ap
  · cases e1 : v1'.ownBlock with
    | none => exact Or.inl rfl
    | some k =>
      right
      intro e2
      have h3 := e k e1
      have h4 := (h.q.ow.lt k e2.symm).2
      omega
theorem Tw.lo (h : Tw w wr b1 b2 R L1 L2 l1 l2) : Below w.heap.size w wr := by
  obtain ⟨v1, v2, h⟩ := h
  exact h.lo
theorem tw_len (h : Tw w wr b1 b2 R L1 L2 l1 l2) :
    Calls Try.prog 13 #[.pointer (some ⟨b1, 0, none⟩)] wr fun e w' => e = .returned (.int .i64 (L1.length : Int)) ∧ w' = wr := by
  obtain ⟨v1, v2, h⟩ := h
  exact plen_any _ h.p
theorem tw_lost (h : Tw w wr b1 b2 R L1 L2 l1 l2) :
    Calls Try.prog 14 #[.pointer (some ⟨b1, 0, none⟩)] wr fun e w' => e = .returned (.bool l1) ∧ w' = wr := by
  obtain ⟨v1, v2, h⟩ := h
  exact plost_any _ h.p
theorem tw_lost2 (h : Tw w wr b1 b2 R L1 L2 l1 l2) :
    Calls Try.prog 14 #[.pointer (some ⟨b2, 0, none⟩)] wr fun e w' => e = .returned (.bool l2) ∧ w' = wr := tw_lost h.sym
theorem tw_put {x : Value} {M : List Int} {K : Nat} (h : Tw w wr b1 b2 R L1 L2 l1 l2) (hx : SrcC w x M) (hK : min M.length (R - L1.length) = K) :
    Calls Try.prog 9 #[.pointer (some ⟨b1, 0, none⟩), x] wr fun e w' => e = .returned (.int .i64 (K : Int)) ∧ Tw w w' b1 b2 R (L1 ++ M.take K) L2 (l1 || decide (K < M.length)) l2 := by
  obtain ⟨v1, v2, h⟩ := h
  refine (put_any wr h.p h.lo.size (fun w' hf => hx.below (h.lo.trans (hf.below h.p.bB h.p.own h.lo.size))) hK).mono ?_
  rintro e w' ⟨rfl, v', g⟩
  exact ⟨rfl, h.to g.at_ g.fr g.own⟩
theorem tw_put2 {x : Value} {M : List Int} {K : Nat} (h : Tw w wr b1 b2 R L1 L2 l1 l2) (hx : SrcC w x M) (hK : min M.length (R - L2.length) = K) :
    Calls Try.prog 9 #[.pointer (some ⟨b2, 0, none⟩), x] wr fun e w' => e = .returned (.int .i64 (K : Int)) ∧ Tw w w' b1 b2 R L1 (L2 ++ M.take K) l1 (l2 || decide (K < M.length)) := by
  refine (tw_put h.sym hx hK).mono ?_
  rintro e w' ⟨rfl, g⟩
  exact ⟨rfl, g.sym⟩
theorem tw_clear (h : Tw w wr b1 b2 R L1 L2 l1 l2) :
    Calls Try.prog 12 #[.pointer (some ⟨b1, 0, none⟩)] wr fun e w' => e = .returned (.tuple #[]) ∧ Tw w w' b1 b2 R [] L2 false l2 := by
  obtain ⟨v1, v2, h⟩ := h
  refine (clear_any _ h.p).mono ?_
  rintro e w' ⟨rfl, g, hf⟩
  exact ⟨rfl, h.to g hf (Or.inr fun k hk => by simp [Value.ownBlock] at hk)⟩
theorem tw_take {x : Int} (h : Tw w wr b1 b2 R (L1 ++ [x]) L2 l1 l2) :
    Calls Try.prog 10 #[.pointer (some ⟨b1, 0, none⟩)] wr fun e w' => e = .returned (.tuple #[.int .i64 x, .bool true]) ∧ Tw w w' b1 b2 R L1 L2 l1 l2 := by
  obtain ⟨v1, v2, h⟩ := h
  refine (ptake_some _ h.p).mono ?_
  rintro e w' ⟨rfl, v', g, hf, ho⟩
  exact ⟨rfl, h.to g hf (Or.inl ho)⟩
theorem tw_take2 {x : Int} (h : Tw w wr b1 b2 R L1 (L2 ++ [x]) l1 l2) :
    Calls Try.prog 10 #[.pointer (some ⟨b2, 0, none⟩)] wr fun e w' => e = .returned (.tuple #[.int .i64 x, .bool true]) ∧ Tw w w' b1 b2 R L1 L2 l1 l2 := by
  refine (tw_take h.sym).mono ?_
  rintro e w' ⟨rfl, g⟩
  exact ⟨rfl, g.sym⟩
theorem tw_none (h : Tw w wr b1 b2 R [] L2 l1 l2) :
    Calls Try.prog 10 #[.pointer (some ⟨b1, 0, none⟩)] wr fun e w' => e = .returned (.tuple #[.int .i64 0, .bool false]) ∧ w' = wr := by
  obtain ⟨v1, v2, h⟩ := h
  exact ptake_none _ h.p
theorem tw_none2 (h : Tw w wr b1 b2 R L1 [] l1 l2) :
    Calls Try.prog 10 #[.pointer (some ⟨b2, 0, none⟩)] wr fun e w' => e = .returned (.tuple #[.int .i64 0, .bool false]) ∧ w' = wr := tw_none h.sym
theorem tw_new {w1 w2 w3 : World} (hB1 : Below w.heap.size w w1) (h2 : PiAt w2 w1.heap.size w1.heap.size (.slice none 0 0) R [] false) (hB2 : Below w1.heap.size w1 w2) (h3 : PiAt w3 w2.heap.size w2.heap.size (.slice none 0 0) R [] false) (hB3 : Below w2.heap.size w2 w3) :
    Tw w w3 w1.heap.size w2.heap.size R [] [] false false := by
  have hs1 := hB1.size
  have hs2 := hB2.size
  have hlt := h2.lt
  refine ⟨_, _, (h2.below hB3).mono hs1, h3.mono (by omega), by omega, Or.inl (by simp [Value.ownBlock]), (hB1.trans (hB2.mono hs1)).trans (hB3.mono (by omega))⟩
end

set_option maxRecDepth 100000 in
set_option maxHeartbeats 1000000 in
theorem clears_few (n : Int) (a : Option Addr) (l c : Nat) (w : World) (h : n < 1 ∨ 50 < n ∨ 100 < l) :
    Calls Try.prog 5 #[.int .i64 n, .slice a l c] w fun e w' => e = .returned (.bool true) ∧ Below w.heap.size w w' := by
  by_cases h1 : n < 1
  · go_enter Try.func5, Try.ntmps5
    go_wp2_with fail
    refine (alive_any _).mono ?_
    rintro e w1 ⟨rfl, hB1⟩
    go_wp2_with fail
    go_ret
    exact ⟨rfl, hB1⟩
  · by_cases h2 : 50 < n
    · go_enter Try.func5, Try.ntmps5
      go_wp2_with fail
      refine (alive_any _).mono ?_
      rintro e w1 ⟨rfl, hB1⟩
      go_wp2_with fail
      go_ret
      exact ⟨rfl, hB1⟩
    · have h3 : 100 < (l : Int) := by omega
      go_enter Try.func5, Try.ntmps5
      go_wp2_with fail
      refine (alive_any _).mono ?_
      rintro e w1 ⟨rfl, hB1⟩
      go_wp2_with fail
      go_ret
      exact ⟨rfl, hB1⟩

set_option maxRecDepth 100000 in
set_option maxHeartbeats 8000000 in
theorem clears_main (n : Nat) (M : List Int) (a : Option Addr) (m c : Nat) (w : World) (h1 : 1 ≤ n) (h2 : n ≤ 50) (hm : M.length = m) (hl : m ≤ 100) (hD : SrcC w (.slice a m c) M) :
    Calls Try.prog 5 #[.int .i64 n, .slice a m c] w fun e w' => e = .returned (.bool true) ∧ Below w.heap.size w w' := by
  have HD : Hid (SrcC w (.slice a m c) M) := hD
  obtain ⟨K, hK⟩ : ∃ K, min m n = K := ⟨_, rfl⟩
  have HK : Hid (min M.length (n - ([] : List Int).length) = K) := by
    show min M.length (n - 0) = K
    rw [hm, Nat.sub_zero]; exact hK
  have HT : Hid ((M.take K).length = K ∧ K ≤ n) := ⟨by rw [List.length_take]; omega, by omega⟩
  clear hD hK hm
  go_enter Try.func5, Try.ntmps5
  go_wp2_with fail
  refine (alive_any _).mono ?_
  rintro e w1 ⟨rfl, hB1⟩
  have HB1 : Hid (Below w.heap.size w w1) := hB1
  clear hB1
  go_wp2_with fail
  refine (pnew_any n n _ (by omega)).mono ?_
  rintro e w2 ⟨rfl, hp2, hB2⟩
  have H2 : Hid (PiAt w2 w1.heap.size w1.heap.size (.slice none 0 0) n [] false ∧ Below w1.heap.size w1 w2) := ⟨hp2, hB2⟩
  clear hp2 hB2
  go_wp2_with fail
  refine (pnew_any n n _ (by omega)).mono ?_
  rintro e w3 ⟨rfl, hp3, hB3⟩
  have H3 : Hid (Tw w w3 w1.heap.size w2.heap.size n [] [] false false) := tw_new HB1.out H2.out.1 H2.out.2 hp3 hB3
  clear hp3 hB3 H2 HB1
  generalize w1.heap.size = b1 at *
  generalize w2.heap.size = b2 at *
  go_wp2_with fail
  refine (tw_put H3.out HD.out HK.out).mono ?_
  rintro e w4 ⟨rfl, h4⟩
  have H4 : Hid (Tw w w4 b1 b2 n ([] ++ M.take K) [] (false || decide (K < M.length)) false) := h4
  clear h4 H3
  go_wp2_with fail
  refine (tw_clear H4.out).mono ?_
  rintro e w5 ⟨rfl, h5⟩
  have H5 : Hid (Tw w w5 b1 b2 n [] [] false false) := h5
  clear h5 H4
  go_wp2_with fail
  refine (tw_len H5.out).mono ?_
  rintro e wz ⟨rfl, hz⟩
  subst wz
  go_wp2_with fail
  refine (tw_lost H5.out).mono ?_
  rintro e wz ⟨rfl, hz⟩
  subst wz
  go_wp2_with fail
  refine (tw_put H5.out HD.out HK.out).mono ?_
  rintro e w6 ⟨rfl, h6⟩
  have H6 : Hid (Tw w w6 b1 b2 n ([] ++ M.take K) [] (false || decide (K < M.length)) false) := h6
  clear h6 H5
  go_wp2_with fail
  refine (tw_put2 H6.out HD.out HK.out).mono ?_
  rintro e w7 ⟨rfl, h7⟩
  have H7 : Hid (Tw w w7 b1 b2 n ([] ++ M.take K) ([] ++ M.take K) (false || decide (K < M.length)) (false || decide (K < M.length))) := h7
  clear h7 H6
  generalize (false || decide (K < M.length)) = lo at *
  go_wp2_with fail
  refine (tw_lost H7.out).mono ?_
  rintro e wz ⟨rfl, hz⟩
  subst wz
  go_wp2_with fail
  refine (tw_lost2 H7.out).mono ?_
  rintro e wz ⟨rfl, hz⟩
  subst wz
  go_wp2_with fail
  have H8 : Hid (∃ T : List Int, T.length = K - 0 ∧ Tw w w7 b1 b2 n T T lo lo) := ⟨M.take K, HT.out.1, H7.out⟩
  clear H7
  go_loopw [7] (fun iv wr => ∃ i : Nat, i ≤ n + 1 ∧ iv = .int .i64 i ∧ Hid (∃ T : List Int, T.length = K - i ∧ Tw w wr b1 b2 n T T lo lo)) (fun iv _ => n + 1 - (intOf iv).toNat)
  case atStart => exact ⟨0, Nat.zero_le _, rfl, H8⟩
  case round =>
    obtain ⟨i, hi, rfl, HR⟩ := hrel
    by_cases hlt : i < n + 1
    · have hle : (i : Int) ≤ (n : Int) := by omega
      obtain ⟨T, hT, hW⟩ := HR.out
      rcases List.eq_nil_or_concat T with rfl | ⟨T', x, rfl⟩
      · have HW : Hid (K - i = 0 ∧ Tw w wr b1 b2 n [] [] lo lo) := ⟨hT.symm, hW⟩
        clear hT hW HR
        go_wp2_with fail
        refine (tw_none HW.out.2).mono ?_
        rintro e wz ⟨rfl, hz⟩
        subst wz
        go_wp2_with fail
        refine (tw_none2 HW.out.2).mono ?_
        rintro e wz ⟨rfl, hz⟩
        subst wz
        go_wp2_with fail
        go_roundw
        case rel => exact ⟨i + 1, by omega, by go_num, [], by have := HW.out.1; show 0 = _; omega, HW.out.2⟩
        case measure => simp [intOf]; omega
      · rw [List.concat_eq_append] at hT hW
        have HW : Hid (T'.length = K - (i + 1) ∧ Tw w wr b1 b2 n (T' ++ [x]) (T' ++ [x]) lo lo) := ⟨by simp at hT; omega, hW⟩
        clear hT hW HR
        go_wp2_with fail
        refine (tw_take HW.out.2).mono ?_
        rintro e w8 ⟨rfl, h8⟩
        have H8 : Hid (Tw w w8 b1 b2 n T' (T' ++ [x]) lo lo) := h8
        clear h8
        go_wp2_with fail
        refine (tw_take2 H8.out).mono ?_
        rintro e w9 ⟨rfl, h9⟩
        have H9 : Hid (∃ T : List Int, T.length = K - (i + 1) ∧ Tw w w9 b1 b2 n T T lo lo) := ⟨T', HW.out.1, h9⟩
        clear h9 H8 HW
        go_wp2_with fail
        go_roundw
        case rel => exact ⟨i + 1, by omega, by go_num, H9⟩
        case measure => simp [intOf]; omega
    · have hle : ¬ (i : Int) ≤ (n : Int) := by omega
      obtain ⟨T, hT, hW⟩ := HR.out
      have e : T = [] := List.eq_nil_of_length_eq_zero (by have := HT.out.2; omega)
      subst e
      have HW : Hid (Tw w wr b1 b2 n [] [] lo lo) := hW
      clear hT hW HR
      go_wp2_with fail
      refine (tw_len HW.out).mono ?_
      rintro e wz ⟨rfl, hz⟩
      subst wz
      go_wp2_with fail
      go_ret
      exact ⟨rfl, HW.out.lo⟩
theorem clears_any (n : Int) (M : List Int) (a : Option Addr) (c : Nat) (w : World) (hD : SrcC w (.slice a M.length c) M) :
    Calls Try.prog 5 #[.int .i64 n, .slice a M.length c] w fun e w' => e = .returned (.bool true) ∧ Below w.heap.size w w' := by
  by_cases h : n < 1 ∨ 50 < n ∨ 100 < M.length
  · exact clears_few n a M.length c w h
  · obtain ⟨m, rfl⟩ := Int.eq_ofNat_of_zero_le (a := n) (by omega)
    exact clears_main m M a _ c w (by omega) (by omega) rfl (by omega) hD

end Go.Proofs.Ytckljbjnhgnkgaa

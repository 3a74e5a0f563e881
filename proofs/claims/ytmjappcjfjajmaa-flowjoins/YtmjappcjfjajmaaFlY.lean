/- The walk of FlowJoins. FlowJoins, of arguments as read. -/
import Derived.Test.YtmjappcjfjajmaaFlW
import Derived.Test.YtmjappcjfjajmaaCkW
namespace Go.Proofs.Ytmjappcjfjajmaa
open Go.RowKit

theorem joinK_comm (a b : List Int) : joinK a b = joinK b a := by
  refine ext_getD (by rw [joinK_len, joinK_len, Nat.min_comm]) fun k hk => ?_
  rw [joinK_len] at hk
  rw [joinK_at (by omega) (by omega), joinK_at (by omega) (by omega)]
  by_cases e : a.getD k 0 = b.getD k 0
  · rw [if_pos e, if_pos e.symm, e]
  · rw [if_neg e, if_neg (fun h => e h.symm)]
theorem joinK_assoc (a b c : List Int) : joinK (joinK a b) c = joinK a (joinK b c) := by
  refine ext_getD (by simp only [joinK_len]; omega) fun k hk => ?_
  simp only [joinK_len] at hk
  have e1 : (joinK (joinK a b) c).getD k 0 = if (joinK a b).getD k 0 = c.getD k 0 then (joinK a b).getD k 0 else 0 := joinK_at (by rw [joinK_len]; omega) (by omega)
  have e2 : (joinK a (joinK b c)).getD k 0 = if a.getD k 0 = (joinK b c).getD k 0 then a.getD k 0 else 0 := joinK_at (by omega) (by rw [joinK_len]; omega)
  have e3 : (joinK a b).getD k 0 = if a.getD k 0 = b.getD k 0 then a.getD k 0 else 0 := joinK_at (by omega) (by omega)
  have e4 : (joinK b c).getD k 0 = if b.getD k 0 = c.getD k 0 then b.getD k 0 else 0 := joinK_at (by omega) (by omega)
  rw [e1, e2, e3, e4]
  generalize a.getD k 0 = x
  generalize b.getD k 0 = y
  generalize c.getD k 0 = z
  repeat' split
  all_goals omega
theorem joinK_self (a : List Int) : joinK a a = a := by
  refine ext_getD (by rw [joinK_len, Nat.min_self]) fun k hk => ?_
  rw [joinK_len] at hk
  rw [joinK_at (by omega) (by omega), if_pos rfl]

set_option maxRecDepth 100000 in
set_option maxHeartbeats 8000000 in
theorem joins_big {A B C : List Int} {a b c : Option Addr} {ca cb cc : Nat} (w : World) (hA : A.length ≤ 9223372036854775807 ∧ B.length ≤ 9223372036854775807 ∧ C.length ≤ 9223372036854775807) (h : 30 < A.length ∨ 30 < B.length ∨ 30 < C.length) :
    Calls Try.prog 5 #[.slice a A.length ca, .slice b B.length cb, .slice c C.length cc] w fun e w' => e = .returned (.bool true) ∧ Below w.heap.size w w' := by
  by_cases h1 : 30 < A.length
  · have h1I : (30 : Int) < (A.length : Int) := by omega
    go_enter Try.func5, Try.ntmps5
    go_wp2_with fail
    refine (alive_any _).mono ?_
    rintro e w1 ⟨rfl, hb⟩
    have HB : Hid (Below w.heap.size w w1) := hb
    clear hb
    go_wp2_with fail
    go_ret
    exact ⟨rfl, HB.out⟩
  · have h1I : ¬ (30 : Int) < (A.length : Int) := by omega
    by_cases h2 : 30 < B.length
    · have h2I : (30 : Int) < (B.length : Int) := by omega
      go_enter Try.func5, Try.ntmps5
      go_wp2_with fail
      refine (alive_any _).mono ?_
      rintro e w1 ⟨rfl, hb⟩
      have HB : Hid (Below w.heap.size w w1) := hb
      clear hb
      go_wp2_with fail
      go_ret
      exact ⟨rfl, HB.out⟩
    · have h2I : ¬ (30 : Int) < (B.length : Int) := by omega
      have h3I : (30 : Int) < (C.length : Int) := by omega
      go_enter Try.func5, Try.ntmps5
      go_wp2_with fail
      refine (alive_any _).mono ?_
      rintro e w1 ⟨rfl, hb⟩
      have HB : Hid (Below w.heap.size w w1) := hb
      clear hb
      go_wp2_with fail
      go_ret
      exact ⟨rfl, HB.out⟩

set_option maxRecDepth 100000 in
set_option maxHeartbeats 8000000 in
theorem joins_small {A B C : List Int} {a b c : Option Addr} {ca cb cc : Nat} (w : World) (h1 : A.length ≤ 30) (h2 : B.length ≤ 30) (h3 : C.length ≤ 30) (hA : SrcAt w (.slice a A.length ca) A) (hB : SrcAt w (.slice b B.length cb) B) (hC : SrcAt w (.slice c C.length cc) C) :
    Calls Try.prog 5 #[.slice a A.length ca, .slice b B.length cb, .slice c C.length cc] w fun e w' => e = .returned (.bool true) ∧ Below w.heap.size w w' := by
  have h1I : ¬ (30 : Int) < (A.length : Int) := by omega
  have h2I : ¬ (30 : Int) < (B.length : Int) := by omega
  have h3I : ¬ (30 : Int) < (C.length : Int) := by omega
  obtain ⟨J, hJ⟩ : ∃ J, joinK A B = J := ⟨_, rfl⟩
  obtain ⟨K, hK⟩ : ∃ K, joinK B C = K := ⟨_, rfl⟩
  obtain ⟨M, hM⟩ : ∃ M, joinK J C = M := ⟨_, rfl⟩
  have hJl : J.length = min A.length B.length := by rw [← hJ, joinK_len]
  have hKl : K.length = min B.length C.length := by rw [← hK, joinK_len]
  have hMl : M.length = min J.length C.length := by rw [← hM, joinK_len]
  have HE : Hid (joinK A B = J ∧ joinK B A = J ∧ joinK J C = M ∧ joinK B C = K ∧ joinK A K = M ∧ joinK A A = A) := ⟨hJ, by rw [joinK_comm]; exact hJ, hM, hK, by rw [← hK, ← joinK_assoc, hJ]; exact hM, joinK_self A⟩
  have HL : Hid (A.length ≤ 3000 ∧ B.length ≤ 3000 ∧ C.length ≤ 3000 ∧ J.length ≤ 3000 ∧ K.length ≤ 3000 ∧ M.length ≤ 3000) := by unfold Hid; omega
  have HJA : Hid (∀ k, k < J.length → k < A.length ∧ k < B.length ∧ (J.getD k 0 = 0 ∨ (A.getD k 0 = J.getD k 0 ∧ B.getD k 0 = J.getD k 0))) := fun k hk => by
    refine ⟨by omega, by omega, ?_⟩
    rw [← hJ, joinK_at (by omega) (by omega)]
    by_cases e : A.getD k 0 = B.getD k 0
    · rw [if_pos e]; exact Or.inr ⟨rfl, e.symm⟩
    · rw [if_neg e]; exact Or.inl rfl
  have hmn : min (A.length : Int) (B.length : Int) = (J.length : Int) := by omega
  have HS : Hid (SrcAt w (.slice a A.length ca) A ∧ SrcAt w (.slice b B.length cb) B ∧ SrcAt w (.slice c C.length cc) C) := ⟨hA, hB, hC⟩
  clear hJ hK hM hJl hKl hMl hA hB hC h1 h2 h3
  go_enter Try.func5, Try.ntmps5
  go_wp2_with fail
  refine (alive_any _).mono ?_
  rintro e w1 ⟨rfl, hb⟩
  have HS1 : Hid (SrcAt w1 (.slice a A.length ca) A ∧ SrcAt w1 (.slice b B.length cb) B ∧ SrcAt w1 (.slice c C.length cc) C ∧ Below w.heap.size w w1) := ⟨HS.out.1.below hb, HS.out.2.1.below hb, HS.out.2.2.below hb, hb⟩
  clear hb HS
  go_wp2_with fail
  refine (join_any A B _ _ _ HL.out.1 HL.out.2.1 HS1.out.1 HS1.out.2.1).mono ?_
  rw [HE.out.1]
  rintro e w2 ⟨g2, rfl, _, hs2, hb⟩
  have HS2 : Hid (SrcAt w2 (.slice a A.length ca) A ∧ SrcAt w2 (.slice b B.length cb) B ∧ SrcAt w2 (.slice c C.length cc) C ∧ Below w.heap.size w w2) := ⟨HS1.out.1.below hb, HS1.out.2.1.below hb, HS1.out.2.2.1.below hb, HS1.out.2.2.2.trans (hb.mono HS1.out.2.2.2.size)⟩
  have HJ2 : Hid (SrcAt w2 (.slice (some ⟨g2, 0, none⟩) J.length J.length) J) := hs2
  clear hb hs2 HS1
  go_wp2_with fail
  refine (join_any B A _ _ _ HL.out.2.1 HL.out.1 HS2.out.2.1 HS2.out.1).mono ?_
  rw [HE.out.2.1]
  rintro e w3 ⟨g3, rfl, _, hs3, hb⟩
  have HS3 : Hid (SrcAt w3 (.slice a A.length ca) A ∧ SrcAt w3 (.slice b B.length cb) B ∧ SrcAt w3 (.slice c C.length cc) C ∧ Below w.heap.size w w3) := ⟨HS2.out.1.below hb, HS2.out.2.1.below hb, HS2.out.2.2.1.below hb, HS2.out.2.2.2.trans (hb.mono HS2.out.2.2.2.size)⟩
  have HJ3 : Hid (SrcAt w3 (.slice (some ⟨g2, 0, none⟩) J.length J.length) J ∧ SrcAt w3 (.slice (some ⟨g3, 0, none⟩) J.length J.length) J) := ⟨HJ2.out.below hb, hs3⟩
  clear hb hs3 HS2 HJ2
  go_wp2_with fail
  refine (join_any A B _ _ _ HL.out.1 HL.out.2.1 HS3.out.1 HS3.out.2.1).mono ?_
  rw [HE.out.1]
  rintro e w4 ⟨g4, rfl, _, hs4, hb⟩
  have HS4 : Hid (SrcAt w4 (.slice a A.length ca) A ∧ SrcAt w4 (.slice b B.length cb) B ∧ SrcAt w4 (.slice c C.length cc) C ∧ Below w.heap.size w w4) := ⟨HS3.out.1.below hb, HS3.out.2.1.below hb, HS3.out.2.2.1.below hb, HS3.out.2.2.2.trans (hb.mono HS3.out.2.2.2.size)⟩
  have HJ4 : Hid (SrcAt w4 (.slice (some ⟨g2, 0, none⟩) J.length J.length) J ∧ SrcAt w4 (.slice (some ⟨g3, 0, none⟩) J.length J.length) J ∧ SrcAt w4 (.slice (some ⟨g4, 0, none⟩) J.length J.length) J) := ⟨HJ3.out.1.below hb, HJ3.out.2.below hb, hs4⟩
  clear hb hs4 HS3 HJ3
  go_wp2_with fail
  refine (join_any J C _ _ _ HL.out.2.2.2.1 HL.out.2.2.1 HJ4.out.2.2 HS4.out.2.2.1).mono ?_
  rw [HE.out.2.2.1]
  rintro e w5 ⟨g5, rfl, _, hs5, hb⟩
  have HS5 : Hid (SrcAt w5 (.slice a A.length ca) A ∧ SrcAt w5 (.slice b B.length cb) B ∧ SrcAt w5 (.slice c C.length cc) C ∧ Below w.heap.size w w5) := ⟨HS4.out.1.below hb, HS4.out.2.1.below hb, HS4.out.2.2.1.below hb, HS4.out.2.2.2.trans (hb.mono HS4.out.2.2.2.size)⟩
  have HJ5 : Hid (SrcAt w5 (.slice (some ⟨g2, 0, none⟩) J.length J.length) J ∧ SrcAt w5 (.slice (some ⟨g3, 0, none⟩) J.length J.length) J ∧ SrcAt w5 (.slice (some ⟨g5, 0, none⟩) M.length M.length) M) := ⟨HJ4.out.1.below hb, HJ4.out.2.1.below hb, hs5⟩
  clear hb hs5 HS4 HJ4
  go_wp2_with fail
  refine (join_any B C _ _ _ HL.out.2.1 HL.out.2.2.1 HS5.out.2.1 HS5.out.2.2.1).mono ?_
  rw [HE.out.2.2.2.1]
  rintro e w6 ⟨g6, rfl, _, hs6, hb⟩
  have HS6 : Hid (SrcAt w6 (.slice a A.length ca) A ∧ SrcAt w6 (.slice b B.length cb) B ∧ Below w.heap.size w w6) := ⟨HS5.out.1.below hb, HS5.out.2.1.below hb, HS5.out.2.2.2.trans (hb.mono HS5.out.2.2.2.size)⟩
  have HJ6 : Hid (SrcAt w6 (.slice (some ⟨g2, 0, none⟩) J.length J.length) J ∧ SrcAt w6 (.slice (some ⟨g3, 0, none⟩) J.length J.length) J ∧ SrcAt w6 (.slice (some ⟨g5, 0, none⟩) M.length M.length) M ∧ SrcAt w6 (.slice (some ⟨g6, 0, none⟩) K.length K.length) K) := ⟨HJ5.out.1.below hb, HJ5.out.2.1.below hb, HJ5.out.2.2.below hb, hs6⟩
  clear hb hs6 HS5 HJ5
  go_wp2_with fail
  refine (join_any A K _ _ _ HL.out.1 HL.out.2.2.2.2.1 HS6.out.1 HJ6.out.2.2.2).mono ?_
  rw [HE.out.2.2.2.2.1]
  rintro e w7 ⟨g7, rfl, _, hs7, hb⟩
  have HS7 : Hid (SrcAt w7 (.slice a A.length ca) A ∧ SrcAt w7 (.slice b B.length cb) B ∧ Below w.heap.size w w7) := ⟨HS6.out.1.below hb, HS6.out.2.1.below hb, HS6.out.2.2.trans (hb.mono HS6.out.2.2.size)⟩
  have HJ7 : Hid (SrcAt w7 (.slice (some ⟨g2, 0, none⟩) J.length J.length) J ∧ SrcAt w7 (.slice (some ⟨g3, 0, none⟩) J.length J.length) J ∧ SrcAt w7 (.slice (some ⟨g5, 0, none⟩) M.length M.length) M ∧ SrcAt w7 (.slice (some ⟨g7, 0, none⟩) M.length M.length) M) := ⟨HJ6.out.1.below hb, HJ6.out.2.1.below hb, HJ6.out.2.2.1.below hb, hs7⟩
  clear hb hs7 HS6 HJ6
  have HLM : Hid (J.length ≤ maxLen ∧ M.length ≤ maxLen ∧ A.length ≤ maxLen) := by have := HL.out; unfold Hid maxLen; omega
  go_wp2_with fail
  refine (same_any J _ _ _ HLM.out.1 HJ7.out.1 HJ7.out.2.1).mono ?_
  rintro e w8 ⟨rfl, q8, rfl⟩
  go_wp2_with fail
  refine (same_any M _ _ (w7.drewN q8) HLM.out.2.1 HJ7.out.2.2.1 HJ7.out.2.2.2).mono ?_
  rintro e w9 ⟨rfl, q9, hw9⟩
  have hb9 : Below w7.heap.size w7 w9 := by rw [hw9]; exact below_drewN (below_drewN (Below.refl _ _) q8) q9
  have HS9 : Hid (SrcAt w9 (.slice a A.length ca) A ∧ SrcAt w9 (.slice b B.length cb) B ∧ Below w.heap.size w w9 ∧ SrcAt w9 (.slice (some ⟨g2, 0, none⟩) J.length J.length) J) := ⟨HS7.out.1.below hb9, HS7.out.2.1.below hb9, HS7.out.2.2.trans (hb9.mono HS7.out.2.2.size), HJ7.out.1.below hb9⟩
  clear hb9 hw9 HS7 HJ7
  go_wp2_with fail
  refine (join_any A A _ _ _ HL.out.1 HL.out.1 HS9.out.1 HS9.out.1).mono ?_
  rw [HE.out.2.2.2.2.2]
  rintro e w10 ⟨g10, rfl, _, hs10, hb⟩
  have HS10 : Hid (SrcAt w10 (.slice a A.length ca) A ∧ SrcAt w10 (.slice b B.length cb) B ∧ Below w.heap.size w w10 ∧ SrcAt w10 (.slice (some ⟨g2, 0, none⟩) J.length J.length) J ∧ SrcAt w10 (.slice (some ⟨g10, 0, none⟩) A.length A.length) A) := ⟨HS9.out.1.below hb, HS9.out.2.1.below hb, HS9.out.2.2.1.trans (hb.mono HS9.out.2.2.1.size), HS9.out.2.2.2.below hb, hs10⟩
  clear hb hs10 HS9
  go_wp2_with fail
  refine (same_any A _ _ _ HLM.out.2.2 HS10.out.2.2.2.2 HS10.out.1).mono ?_
  rintro e w11 ⟨rfl, q11, hw11⟩
  have hb11 : Below w10.heap.size w10 w11 := by rw [hw11]; exact below_drewN (Below.refl _ _) q11
  have HS11 : Hid (SrcAt w11 (.slice a A.length ca) A ∧ SrcAt w11 (.slice b B.length cb) B ∧ Below w.heap.size w w11 ∧ SrcAt w11 (.slice (some ⟨g2, 0, none⟩) J.length J.length) J) := ⟨HS10.out.1.below hb11, HS10.out.2.1.below hb11, HS10.out.2.2.1.trans (hb11.mono HS10.out.2.2.1.size), HS10.out.2.2.2.1.below hb11⟩
  clear hb11 hw11 HS10 HLM HE
  go_wp2_with fail
  all_goals
    go_loopw [11] (fun iv wr => ∃ k : Nat, k ≤ J.length ∧ iv = .int .i64 (k : Nat) ∧ Hid (SrcAt wr (.slice a A.length ca) A ∧ SrcAt wr (.slice b B.length cb) B ∧ Below w.heap.size w wr ∧ SrcAt wr (.slice (some ⟨g2, 0, none⟩) J.length J.length) J)) (fun iv _ => J.length - (intOf iv).toNat)
    case atStart => exact ⟨0, Nat.zero_le _, rfl, HS11⟩
    case round =>
      obtain ⟨k, hk, rfl, HR⟩ := hrel
      clear HS11
      by_cases hlt : k < J.length
      · obtain ⟨hkA, hkB, hor⟩ := HJA.out k hlt
        obtain ⟨ba, oa, rfl, _, _, ka⟩ := HR.out.1.p.some hkA
        obtain ⟨bb, ob, rfl, _, _, kb⟩ := HR.out.2.1.p.some hkB
        obtain ⟨bj, oj, hjj, _, _, kj⟩ := HR.out.2.2.2.p.some hlt
        cases hjj
        rw [Nat.zero_add] at kj
        have hkAI : (k : Int) < (A.length : Int) := by omega
        have hkBI : (k : Int) < (B.length : Int) := by omega
        have hltI : (k : Int) < (J.length : Int) := by omega
        have hk3 : k + 1 ≤ 9223372036854775807 := by have := HL.out; omega
        have HN : Hid (∀ q, SrcAt (wr.drewN q) (.slice (some ⟨ba, oa, none⟩) A.length ca) A ∧ SrcAt (wr.drewN q) (.slice (some ⟨bb, ob, none⟩) B.length cb) B ∧ Below w.heap.size w (wr.drewN q) ∧ SrcAt (wr.drewN q) (.slice (some ⟨g2, 0, none⟩) J.length J.length) J) := fun q => ⟨HR.out.1, HR.out.2.1, below_drewN HR.out.2.2.1 q, HR.out.2.2.2⟩
        generalize A.getD k 0 = x at *
        generalize B.getD k 0 = y at *
        generalize J.getD k 0 = z at *
        clear HR
        rcases hor with hz0 | ⟨hx, hy⟩
        · subst hz0
          go_wp2_with fail
          go_quiet (fail)
          go_wp2_with fail
          go_roundw
          case rel => exact ⟨k + 1, by omega, by go_num, HN.out _⟩
          case measure => simp [intOf]; omega
        · obtain ⟨u, hu⟩ : ∃ u, u = z := ⟨_, rfl⟩
          rw [← hu] at kj hx hy
          rw [hx] at ka
          rw [hy] at kb
          clear hx hy hu
          by_cases hz : u = 0
          · rw [hz] at kj ka kb
            clear hz
            go_wp2_with fail
            go_quiet (fail)
            go_wp2_with fail
            go_roundw
            case rel => exact ⟨k + 1, by omega, by go_num, HN.out _⟩
            case measure => simp [intOf]; omega
          · have hz1 : (u != 0) = true := by simpa using hz
            go_wp2_with fail
            go_quiet (fail)
            go_wp2_with fail
            go_roundw
            case rel => exact ⟨k + 1, by omega, by go_num, HN.out _⟩
            case measure => simp [intOf]; omega
      · obtain rfl : k = J.length := by omega
        go_wp2_with fail
        go_ret
        exact ⟨rfl, HR.out.2.2.1⟩

end Go.Proofs.Ytmjappcjfjajmaa

namespace Go.Proofs.Ytmjappcjfjajmaa
open Go.ChangeShapes Go.WideShapes Go.ChangeAt Go.RowKit

set_option maxRecDepth 100000 in
theorem intsK_arg {H : Type} {enc : TypeId × Value → H} {W : World} {base : Nat} {v : Value} {d : DataW H} {p : List MemPlace} (h : DataW.Trod enc Try.prog W 0 (fun _ => true) true 22 v d p)
    (hv : Value.okWide Try.prog W .any base 22 v) : ∃ (L : List Int) (a : Option Addr) (c : Nat), v = .slice a L.length c ∧ SrcAt W (.slice a L.length c) L ∧ L.length ≤ maxLen ∧ FitL L := by
  obtain ⟨a0, len, cap, rfl⟩ := okWide_slice Try.underlying22 hv
  obtain ⟨fuel, hf⟩ := h
  obtain ⟨L, hs, hl, hfit⟩ := ints_cs hf
  obtain ⟨a, c, hv2⟩ := hs.len
  rw [hv2] at hs
  exact ⟨L, a, c, hv2, hs.at_, hl, hfit⟩
set_option maxRecDepth 100000 in
theorem joins_arg {H : Type} {enc : TypeId × Value → H} {W : World} {base : Nat} {v0 v1 v2 : Value} {d0 d1 d2 : DataW H} {p0 p1 p2 : List MemPlace} (h0 : DataW.Trod enc Try.prog W 0 (fun _ => true) true 22 v0 d0 p0) (u0 : Value.okWide Try.prog W .any base 22 v0)
    (h1 : DataW.Trod enc Try.prog W 0 (fun _ => true) true 22 v1 d1 p1) (u1 : Value.okWide Try.prog W .any base 22 v1) (h2 : DataW.Trod enc Try.prog W 0 (fun _ => true) true 22 v2 d2 p2) (u2 : Value.okWide Try.prog W .any base 22 v2) :
    Calls Try.prog 5 #[v0, v1, v2] W fun e w' => e = .returned (.bool true) ∧ Below W.heap.size W w' := by
  obtain ⟨A, a, ca, rfl, hA, lA, _⟩ := intsK_arg h0 u0
  obtain ⟨B, b, cb, rfl, hB, lB, _⟩ := intsK_arg h1 u1
  obtain ⟨C, c, cc, rfl, hC, lC, _⟩ := intsK_arg h2 u2
  unfold maxLen at lA lB lC
  by_cases h : 30 < A.length ∨ 30 < B.length ∨ 30 < C.length
  · exact joins_big W (by omega) h
  · exact joins_small W (by omega) (by omega) (by omega) hA hB hC

end Go.Proofs.Ytmjappcjfjajmaa

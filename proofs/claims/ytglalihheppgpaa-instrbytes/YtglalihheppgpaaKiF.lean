/- The walks of besombook's stillInts and markedInts. -/
import Derived.Test.YtglalihheppgpaaKiE
import Derived.Deep.RegionHeld3
namespace Go.Proofs.Ytglalihheppgpaa
open Go.RowKit

theorem own_cell {w : World} {B n : Nat} {e : TypeId} {v : Value} {xs : List Value} (h : w.ownsRow B e 1 v n xs) (hn : 0 < n) : ∃ g cap, v = .slice (some ⟨g, 0, none⟩) n cap ∧ B ≤ g ∧ g < w.heap.size ∧ (∀ j, j < n → w.cell? ⟨g, j, none⟩ = xs[j]?) ∧ ∀ j, w.frozen? ⟨g, j, none⟩ = false := by
  obtain ⟨g, cap, rfl, h1, h2⟩ := h.form hn
  exact ⟨g, cap, rfl, h1, h2, fun j hj => h.cellAt j (by omega), fun j => h.frozenAt j⟩

theorem map_fst_at {I : List (Value × List Ins)} {j : Nat} {p : Value × List Ins} (h : I[j]? = some p) : (I.map Prod.fst)[j]? = some p.1 := by simp [h]

set_option maxHeartbeats 1000000 in
theorem stillInstrs_any (w : World) {B bk : Nat} {vi vw : Value} {I W : List (Value × List Ins)} (h : BookAt w B bk vi vw I W) (hIW : I.map Prod.snd = W.map Prod.snd) (hIl : I.length ≤ 250) (hL : ∀ p ∈ I, p.2.length ≤ 1000) :
    Calls Try.prog 34 #[.pointer (some ⟨bk, 0, none⟩)] w fun e w' => e = .returned (.bool true) ∧ ∃ q, w' = w.drewN q := by
  have hlenW : W.length = I.length := by have := congrArg List.length hIW; simpa using this.symm
  have hc0 := h.c0
  have hc1 := h.c1
  obtain ⟨ai, ci, evi⟩ := own_lenG h.oi
  obtain ⟨aw, cw, evw⟩ := own_lenG h.ow
  subst evi evw
  have H : Hid (BookAt w B bk (.slice ai I.length ci) (.slice aw W.length cw) I W) := h
  have HIW : Hid (I.map Prod.snd = W.map Prod.snd) := hIW
  have HL : Hid (∀ p ∈ I, p.2.length ≤ 1000) := hL
  have HlW : Hid (W.length = I.length) := hlenW
  clear h hIW hL hlenW
  go_enter Try.func34, Try.ntmps34
  go_wp2
  go_loopw [3] (fun i wr => ∃ j : Nat, j ≤ I.length ∧ i = .int .i64 j ∧ ∃ q, wr = w.drewN q) (fun i _ => I.length - (intOf i).toNat)
  case atStart => exact ⟨0, Nat.zero_le _, rfl, 0, rfl⟩
  case round =>
    obtain ⟨j, hj, rfl, hq⟩ := hrel
    have HQ : Hid (∃ q, wr = w.drewN q) := hq
    have B1 : Hid (BookAt wr B bk (.slice ai I.length ci) (.slice aw W.length cw) I W) := by obtain ⟨q, rfl⟩ := hq; exact H.out.drewN q
    have hc0' := B1.out.c0
    clear hc0 hc1 hq
    by_cases hlt : j < I.length
    · have hc1' := B1.out.c1
      obtain ⟨g0, c0, e0, _, _, k0, _⟩ := own_cell B1.out.oi (by omega)
      obtain ⟨g1, c1, e1, _, _, k1, _⟩ := own_cell B1.out.ow (by have := HlW.out; omega)
      have hjW : j < W.length := by have := HlW.out; omega
      simp only [Value.slice.injEq, true_and] at e0 e1
      obtain ⟨rfl, rfl⟩ := e0
      obtain ⟨rfl, rfl⟩ := e1
      have hp : I[j]? = some I[j] := List.getElem?_eq_getElem hlt
      have hp' : W[j]? = some W[j] := List.getElem?_eq_getElem hjW
      have hm : I[j] ∈ I := List.getElem_mem hlt
      have hm' : W[j] ∈ W := List.getElem_mem hjW
      have hsnd : W[j].2 = I[j].2 := by
        have := congrArg (fun l => l[j]?) HIW.out
        simp [hp, hp'] at this
        exact this.symm
      have hk0 := k0 j hlt
      have hk1 := k1 j hjW
      rw [map_fst_at hp] at hk0
      rw [map_fst_at hp'] at hk1
      have o0 := B1.out.ri _ hm
      have o1 := B1.out.rc _ hm'
      have hl0 := HL.out _ hm
      generalize I[j] = p0 at *
      generalize W[j] = p1 at *
      obtain ⟨v0, L0⟩ := p0
      obtain ⟨v1, L1⟩ := p1
      have es : L1 = L0 := hsnd
      subst es
      obtain ⟨x0, y0, z0⟩ := own_lenG o0
      obtain ⟨x1, y1, z1⟩ := own_lenG o1
      have z0' : v0 = .slice x0 L1.length y0 := z0
      have z1' : v1 = .slice x1 L1.length y1 := z1
      subst z0' z1'
      have HS : Hid (SrcI wr (.slice x0 L1.length y0) L1 ∧ SrcI wr (.slice x1 L1.length y1) L1) := ⟨srcI_of_own o0, srcI_of_own o1⟩
      have hlI : (j : Int) < (I.length : Int) := by omega
      have hlW' : (j : Int) < (W.length : Int) := by omega
      clear k0 k1 hp hp' hm hm' hsnd o0 o1 z0 z1 B1 H HIW HL HlW
      go_upto_region 4 with (fail)
      go_quiet ((go_at_call 26; exact Calls.quiet_of (same_anyI L1 _ _ _ (by have : L1.length ≤ 1000 := hl0; unfold maxLen; omega) (HS.out.1.drewN _) (HS.out.2.drewN _))))
      go_wp2
      go_roundw
      case rel => exact ⟨j + 1, by omega, by go_num, drewN_more HQ.out _⟩
      case measure => simp [intOf]; omega
    · go_wp2
      go_ret
      exact ⟨rfl, HQ.out⟩

theorem mark_zero (i n : Nat) (w : World) (hi' : i ≤ 1000) (hn : n ≤ 100000) :
    Calls Try.prog 67 #[.int .i64 i, .int .i64 0, .int .i64 n] w fun e w' => ∃ v, e = .returned v ∧ w'.ownsRow w.heap.size 23 4 v n ((mks i 0 n).flatMap Ins.cs) ∧ Below w.heap.size w w' := mark_any i 0 n w hi' (by omega) hn

set_option maxHeartbeats 1000000 in
theorem markedInstrs_core (w : World) {B : Nat} {al : Option Addr} {cl' : Nat} {G : List (Value × List Ins)} (ho : w.ownsRow B 43 1 (.slice al G.length cl') G.length (G.map Prod.fst)) (hGl : G.length ≤ 250)
    (hG : ∀ j p, G[j]? = some p → OwnInts w B p ∧ p.2 = mks j 0 p.2.length ∧ p.2.length ≤ 1000) :
    Calls Try.prog 49 #[.slice al G.length cl'] w fun e w' => e = .returned (.bool true) ∧ Below w.heap.size w w' := by
  have HO : Hid (w.ownsRow B 43 1 (.slice al G.length cl') G.length (G.map Prod.fst)) := ho
  have HG : Hid (∀ j p, G[j]? = some p → OwnInts w B p ∧ p.2 = mks j 0 p.2.length ∧ p.2.length ≤ 1000) := hG
  clear ho hG
  go_enter Try.func49, Try.ntmps49
  go_wp2
  go_loopw [3] (fun i wr => ∃ j : Nat, j ≤ G.length ∧ i = .int .i64 j ∧ Below w.heap.size w wr) (fun i _ => G.length - (intOf i).toNat)
  case atStart => exact ⟨0, Nat.zero_le _, rfl, Below.refl _ _⟩
  case round =>
    obtain ⟨j, hj, rfl, hB⟩ := hrel
    have HB : Hid (Below w.heap.size w wr) := hB
    clear hB
    by_cases hlt : j < G.length
    · obtain ⟨g0, c0, e0, _, hg0, k0, _⟩ := own_cell HO.out (by omega)
      simp only [Value.slice.injEq, true_and] at e0
      obtain ⟨rfl, rfl⟩ := e0
      have hp : G[j]? = some G[j] := List.getElem?_eq_getElem hlt
      have hk := (HB.out.cell (p := ⟨g0, j, none⟩) hg0).trans (k0 j hlt)
      rw [map_fst_at hp] at hk
      obtain ⟨o0, hm0, hl0⟩ := HG.out j _ hp
      generalize G[j] = p0 at *
      obtain ⟨v0, L0⟩ := p0
      obtain ⟨x0, y0, z0⟩ := own_lenG o0
      have z0' : v0 = .slice x0 L0.length y0 := z0
      subst z0'
      have hg0' : g0 < wr.heap.size := Nat.lt_of_lt_of_le hg0 HB.out.size
      have HS : Hid (SrcI wr (.slice x0 L0.length y0) L0) := (srcI_of_own o0).below HB.out
      have HM : Hid (L0 = mks j 0 L0.length) := hm0
      have hl : L0.length ≤ 1000 := hl0
      have hlG : (j : Int) < (G.length : Int) := by omega
      have HJ : Hid (j ≤ 1000) := by show j ≤ 1000; omega
      clear k0 hp o0 z0 HO HG hm0 hl0
      go_upto_region 4 with (fail)
      go_region_held3 (fun w' => w'.cell? ⟨g0, j, none⟩ = some (.slice x0 L0.length y0)) (first | (exact (hB2.cell (p := ⟨g0, j, none⟩) hg0').trans hk) | go_keep) (first | (go_at_call 67; refine (mark_zero j L0.length _ HJ.out (by omega)).mono ?_; rintro e w2 ⟨vm, rfl, hom, hB2⟩; obtain ⟨am, cm, rfl⟩ := own_lenG hom; have HS2 : Hid (SrcI w2 (.slice x0 L0.length y0) L0 ∧ SrcI w2 (.slice am L0.length cm) L0) := ⟨HS.out.below ⟨hB2.os, hB2.tape, hB2.output, hB2.size, hB2.block⟩, by rw [← HM.out] at hom; exact srcI_of_own hom⟩) | (go_at_call 26; refine (same_anyI L0 _ _ _ (by unfold maxLen; omega) HS2.out.1 HS2.out.2).mono ?_; rintro e w3 ⟨rfl, q3, rfl⟩))
      all_goals
        have HB2 : Hid (Below w.heap.size w w2) := HB.out.trans (Below.mono ⟨hB2.os, hB2.tape, hB2.output, hB2.size, hB2.block⟩ HB.out.size)
        clear hB2 hom
        go_wp2
        go_roundw
        case rel => exact ⟨j + 1, by omega, by go_num, below_drewN HB2.out _⟩
        case measure => simp [intOf]; omega
    · go_wp2
      go_ret
      exact ⟨rfl, HB.out⟩

theorem markedInstrs_any (w : World) {B : Nat} {v : Value} {G : List (Value × List Ins)} (ho : w.ownsRow B 43 1 v G.length (G.map Prod.fst)) (hGl : G.length ≤ 250)
    (hG : ∀ j p, G[j]? = some p → OwnInts w B p ∧ p.2 = mks j 0 p.2.length ∧ p.2.length ≤ 1000) :
    Calls Try.prog 49 #[v] w fun e w' => e = .returned (.bool true) ∧ Below w.heap.size w w' := by
  obtain ⟨a, c, rfl⟩ := own_lenG ho
  exact markedInstrs_core w ho hGl hG

end Go.Proofs.Ytglalihheppgpaa

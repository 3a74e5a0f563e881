/- SievePlays: its argument opened; the cases that need no round. -/
import Derived.Test.YthnnbhpaejemnaaDoorPlB
import Derived.Test.YthnnbhpaejemnaaDoorSvR
import Derived.Deep.Slices
namespace Go.Proofs.YthnnbhpaejemnaaDoor
open Go.ChangeShapes Go.WideShapes Go.ChangeAt Go.RowKit

theorem Tryd.cells37 : Tryd.prog.cellsOf 37 = 2 := by kernel_rfl
theorem Tryd.cells35 : Tryd.prog.cellsOf 35 = 1 := by kernel_rfl

theorem ints_of {H : Type} {enc : TypeId × Value → H} {W : World} {n : Nat} {cs : List Value} {y : DataW H × List MemPlace} (h : DataW.trod enc Tryd.prog W 0 (fun _ => true) true n 35 cs = some y) :
    ∃ (L : List Int) (v : Value), cs = [v] ∧ L.length ≤ maxLen ∧ SrcAt W v L := by
  rcases open_ints Tryd.underlying35 Tryd.underlying3 Tryd.cells3 h with ⟨rfl, _⟩ | ⟨a, len', cap', zs, rfl, _, hl, hm, hz, _, hcell, _⟩
  · exact ⟨[], _, rfl, Nat.zero_le _, Or.inl ⟨rfl, Or.inl rfl⟩⟩
  · simp at hz
    have hlen : (zs.take len').length = len' := by rw [List.length_take]; omega
    refine ⟨zs.take len', _, rfl, by rw [hlen]; omega, ?_⟩
    by_cases h0 : len' = 0
    · subst h0
      exact Or.inl ⟨by simp, Or.inr ⟨a, cap', rfl⟩⟩
    · have hc0 := cell_lt (hcell 0 (by omega))
      obtain ⟨ab, ao, sp⟩ := a
      have hsp : sp = none := hc0.2
      subst hsp
      refine Or.inr ⟨ab, ao, cap', by rw [hlen], hc0.1, fun j hj => ?_⟩
      rw [hlen] at hj
      have := hcell j (by omega)
      rw [← Go.WideShapes.add_plain, this]
      simp [List.getD, hj]

theorem ops_arg {H : Type} {enc : TypeId × Value → H} {W : World} {base : Nat} {v : Value} {d : DataW H} {p : List MemPlace} (h : DataW.Trod enc Tryd.prog W 0 (fun _ => true) true 22 v d p)
    (hv : Value.okWide Tryd.prog W .any base 22 v) : ∃ (ops : List (Int × Value × List Int)) (a : Option Addr) (c : Nat), v = .slice a ops.length c ∧ ops.length ≤ maxLen ∧ OpsAt W (.slice a ops.length c) ops := by
  obtain ⟨a0, len, cap, rfl⟩ := okWide_slice Tryd.underlying22 hv
  obtain ⟨fuel, hf⟩ := h
  rcases Deep.open_slice Tryd.underlying22 hf with ⟨hcs, _⟩ | ⟨a, len', cap', m, n, D, Pl, hcs, _, hl, hm, hmm, _, hel⟩
  · simp only [Value.cells] at hcs
    simp at hcs
    obtain ⟨rfl, rfl, rfl⟩ := hcs
    exact ⟨[], none, 0, rfl, Nat.zero_le _, Or.inl ⟨rfl, _, _, rfl⟩⟩
  · simp only [Value.cells] at hcs
    simp at hcs
    obtain ⟨rfl, rfl, rfl⟩ := hcs
    simp at hmm
    rw [Tryd.cells37] at hel
    have each : ∀ i, i < len → ∃ o : Int × Value × List Int, W.cell? ((a.add (i * 2)).add 0) = some (.int .i64 o.1) ∧ W.cell? ((a.add (i * 2)).add 1) = some o.2.1 ∧ SrcAt W o.2.1 o.2.2 ∧ o.2.2.length ≤ maxLen := by
      intro i hi
      obtain ⟨cs', h1, h2⟩ := hel i (by omega)
      obtain ⟨_, hlen', hcell⟩ := World.cells?_some h1
      obtain ⟨y0, y1, n', _, _, g0, g1⟩ := trod_struct2 Tryd.underlying37 h2
      match cs', hlen' with
      | [c0, c1], _ =>
        have g0' : DataW.trod enc Tryd.prog W 0 (fun _ => true) true n' 3 [c0] = some y0 := by simpa [Tryd.cells3] using g0
        have g1' : DataW.trod enc Tryd.prog W 0 (fun _ => true) true n' 35 [c1] = some y1 := by simpa [Tryd.cells35] using g1
        obtain ⟨kd, e0, _, _⟩ := DataW.trod_int Tryd.underlying3 g0'
        obtain ⟨L, vL, e1, hLm, hs⟩ := ints_of g1'
        simp at e0 e1
        subst e0 e1
        exact ⟨(kd, c1, L), by simpa using hcell 0 (by decide), by simpa using hcell 1 (by decide), hs, hLm⟩
    obtain ⟨f, hf'⟩ := Deep.choose_lt each
    refine ⟨(List.range len).map f, some a, cap, by simp, by simp; omega, ?_⟩
    by_cases h0 : len = 0
    · subst h0
      exact Or.inl ⟨by simp, some a, cap, by simp⟩
    · have hc0 := cell_lt (hf' 0 (by omega)).1
      obtain ⟨ab, ao, sp⟩ := a
      have hsp : sp = none := by simpa [Addr.add] using hc0.2
      subst hsp
      refine Or.inr ⟨ab, ao, cap, by simp, by simpa [Addr.add] using hc0.1, fun j o hj => ?_⟩
      have hjl : j < len := by
        have := (List.getElem?_eq_some_iff.1 hj).1
        simpa using this
      have e : f j = o := by
        simp [hjl] at hj
        exact hj
      subst e
      obtain ⟨k1, k2, k3, k4⟩ := hf' j hjl
      rw [Go.WideShapes.add_plain, Go.WideShapes.add_plain] at k1 k2
      exact ⟨k1, k2, k3, k4⟩

set_option maxRecDepth 100000 in
set_option maxHeartbeats 1000000 in
theorem plays_long (n : Int) (m : Nat) (a : Option Addr) (c : Nat) (fr k : Int) (w : World) (hT : Tab w) (hm : m ≤ 9223372036854775807) (h1 : 40 < m) :
    Calls Tryd.prog 3 #[.int .i64 n, .slice a m c, .int .i64 fr, .int .i64 k] w fun e w' => e = .returned (.bool true) ∧ Below w.heap.size w w' := by
  have HT : Hid (Tab w) := hT
  clear hT
  go_enter Tryd.func3, Tryd.ntmps3
  go_wp2_with fail
  refine (alive_any _ HT.out).mono ?_
  rintro e w1 ⟨rfl, hB1⟩
  go_wp2_with fail
  go_ret
  exact ⟨rfl, hB1⟩
set_option maxRecDepth 100000 in
set_option maxHeartbeats 1000000 in
theorem plays_big (n : Int) (m : Nat) (a : Option Addr) (c : Nat) (fr k : Int) (w : World) (hT : Tab w) (hm : m ≤ 9223372036854775807) (h2 : 600 < n) :
    Calls Tryd.prog 3 #[.int .i64 n, .slice a m c, .int .i64 fr, .int .i64 k] w fun e w' => e = .returned (.bool true) ∧ Below w.heap.size w w' := by
  have HT : Hid (Tab w) := hT
  clear hT
  by_cases h1 : 40 < m
  all_goals
    go_enter Tryd.func3, Tryd.ntmps3
    go_wp2_with fail
    refine (alive_any _ HT.out).mono ?_
    rintro e w1 ⟨rfl, hB1⟩
    go_wp2_with fail
    go_ret
    exact ⟨rfl, hB1⟩

set_option maxRecDepth 100000 in
set_option maxHeartbeats 4000000 in
theorem plays_empty (n : Int) (a : Option Addr) (c : Nat) (fr k : Int) (w : World) (hT : Tab w) (hn1 : n ≤ 600) :
    Calls Tryd.prog 3 #[.int .i64 n, .slice a 0 c, .int .i64 fr, .int .i64 k] w fun e w' => e = .returned (.bool true) ∧ Below w.heap.size w w' := by
  have HT : Hid (Tab w) := hT
  clear hT
  go_enter Tryd.func3, Tryd.ntmps3
  go_wp2_with fail
  refine (alive_any _ HT.out).mono ?_
  rintro e w1 ⟨rfl, hB1⟩
  have HB1 : Hid (Below w.heap.size w w1) := hB1
  clear hB1
  go_wp2_with fail
  refine (new_any n _).mono ?_
  rintro e w2 ⟨b, bw, hb, hbw, rfl, hs, hB2⟩
  have HB2 : Hid (Below w.heap.size w w2) := HB1.out.trans (hB2.mono HB1.out.size)
  have HW : Hid (w.heap.size ≤ bw) := Nat.le_trans HB1.out.size hbw
  have HS : Hid (SvAt w2 b bw (svN n) (fun _ => false)) := hs
  have hN : ((svN n : Nat) : Int) = min (max n 0) 4096 := by unfold svN; omega
  have HN : Hid (((svN n : Nat) : Int) = min (max n 0) 4096) := hN
  have hNb : svN n ≤ 600 := by omega
  clear hB2 HB1 hb hbw hs hN
  generalize svN n = N at *
  go_upto_region 6 with (fail)
  go_cut [0] (fun a wr => a = .int .i64 (N : Int) ∧ wr = w2)
  case first =>
    go_wp2
    all_goals
      go_meet
      case rel => exact ⟨by have := HN.out; congr 1; omega, rfl⟩
  case rest =>
    obtain ⟨rfl, rfl⟩ := hcut
    clear HN
    have hmk := run_make_row' (P := Tryd.prog) 26 4 (.bool false) 1 Tryd.underlying26 Tryd.info4 rfl .i64 .i64 N (by omega) (by omega)
    go_wp2_with fail
    have PS := pl_start HS.out HB2.out HW.out
    generalize (wc.alloc (.cells (madeCells #[.bool false] N) 4)).alloc (.cells #[.slice none 0 0, .slice none 0 0, .slice none 0 0, .slice none 0 0, .slice none 0 0, .slice none 0 0, .slice none 0 0, .slice none 0 0, .slice none 0 0, .slice none 0 0] 34) = w3 at *
    generalize wc.heap.size + 1 = bk at *
    have HPS : Hid (PlSt w w3 b bw wc.heap.size bk N 0 (fun _ => false) (fun _ => false)) := PS
    clear PS hmk HS HB2
    go_loopw [10, 12] (fun a i wr => i = .int .i64 0 ∧ ∃ bi S, a = .slice (some ⟨bi, 0, none⟩) N N ∧ PlSt w wr b bw bi bk N 0 S S) (fun _ _ _ => 0)
    case atStart => exact ⟨rfl, _, _, rfl, HPS.out⟩
    case round =>
      obtain ⟨rfl, bi, S, rfl, hps⟩ := hrel
      have HP : Hid (PlSt w wr b bw bi bk N 0 S S) := hps
      clear hps HPS
      · as_aux_lemma =>
        go_wp2_with fail
        refine (clear_nil _).mono ?_
        rintro e w4 ⟨rfl, rfl⟩
        go_wp2_with fail
        refine (put_nil 1 _ (by simp)).mono ?_
        rintro e w5 ⟨rfl, rfl⟩
        go_wp2_with fail
        refine (cut_nil 1 _ (by simp)).mono ?_
        rintro e w6 ⟨rfl, q1, rfl⟩
        go_wp2_with fail
        refine (count_nil _).mono ?_
        rintro e w6 ⟨rfl, rfl⟩
        go_wp2_with fail
        refine (all_nil _).mono ?_
        rintro e w6 ⟨rfl, q2, rfl⟩
        go_wp2_with fail
        refine (has_nil _ _).mono ?_
        rintro e w6 ⟨rfl, q3, rfl⟩
        go_wp2_with fail
        refine (next_nil _ _).mono ?_
        rintro e w6 ⟨rfl, q4, rfl⟩
        go_wp2_with fail
        refine (gap_nil _ _).mono ?_
        rintro e w6 ⟨rfl, q5, rfl⟩
        go_wp2_with fail
        refine (word_nil _ _).mono ?_
        rintro e w6 ⟨rfl, rfl⟩
        go_wp2_with fail
        have HPz := ((HP.out.alloc (.cells #[.int .i64 1] 3)).alloc (.cells #[.int .i64 1] 3)).drewN (q1 + q2 + q3 + q4 + q5)
        obtain ⟨vi, vw, I, W, hbk, hIl, hWl, hIW, hL9⟩ := HPz.bo
        refine (apart_any _ hbk HPz.lo.size hIW (by omega) hL9).mono ?_
        rintro e w7 ⟨rfl, hB7⟩
        have HLz : Hid (Below w.heap.size w w7) := HPz.lo.trans hB7
        clear hbk hIW hL9 HPz hB7
        go_wp2_with fail
        go_ret
        exact ⟨rfl, HLz.out⟩

theorem plays_any (n : Int) (ops : List (Int × Value × List Int)) (a : Option Addr) (c : Nat) (fr k : Int) (w : World) (hT : Tab w) (hfr : fr ≤ 9223372036854775807) (hlen : ops.length ≤ maxLen) (hI : OpsAt w (.slice a ops.length c) ops) :
    Calls Tryd.prog 3 #[.int .i64 n, .slice a ops.length c, .int .i64 fr, .int .i64 k] w fun e w' => e = .returned (.bool true) ∧ Below w.heap.size w w' := by
  unfold maxLen at hlen
  by_cases h1 : 40 < ops.length
  · exact plays_long n _ a c fr k w hT (by omega) h1
  · by_cases h2 : 600 < n
    · exact plays_big n _ a c fr k w hT (by omega) h2
    · rcases hI with ⟨rfl, _⟩ | ⟨b, off, c', e, h3, h4⟩
      · exact plays_empty n a c fr k w hT (by omega)
      · simp only [Value.slice.injEq, true_and] at e
        obtain ⟨rfl, rfl⟩ := e
        exact plays_main n ops b off c fr k w hT (by omega) (by omega) hfr h3 h4

end Go.Proofs.YthnnbhpaejemnaaDoor

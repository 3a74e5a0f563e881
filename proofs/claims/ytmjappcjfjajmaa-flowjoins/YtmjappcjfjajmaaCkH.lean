/- The walks of check's faults, Func. -/
import Derived.Test.YtmjappcjfjajmaaCkG
namespace Go.Proofs.Ytmjappcjfjajmaa
open Go.RowKit Go.Maps

/-- What is wrong at the first k places of the function fn. -/
def flt (p : Pg) (fn k : Nat) (a b : Nat) : Option Int := if a = fn ∧ b < k ∧ ¬ insAt p (fn : Int) (b : Int) = 0 then some (insAt p (fn : Int) (b : Int)) else none
theorem flt_none (p : Pg) (fn : Nat) : flt p fn 0 = fun _ _ => none := by
  funext a b
  unfold flt
  rw [if_neg (by omega)]
theorem flt_same {p : Pg} {fn k : Nat} (h : insAt p (fn : Int) (k : Int) = 0) : flt p fn (k + 1) = flt p fn k := by
  funext a b
  unfold flt
  by_cases e : b = k
  · subst e
    rw [if_neg (by simp [h]), if_neg (by omega)]
  · by_cases h1 : a = fn ∧ b < k ∧ ¬ insAt p (fn : Int) (b : Int) = 0
    · rw [if_pos h1, if_pos ⟨h1.1, by omega, h1.2.2⟩]
    · rw [if_neg h1, if_neg (fun h2 => h1 ⟨h2.1, by omega, h2.2.2⟩)]
theorem flt_more {p : Pg} {fn k : Nat} {e : Int} (he : insAt p (fn : Int) (k : Int) = e) (h : ¬ e = 0) : flt p fn (k + 1) = upO (flt p fn k) fn k (some e) := by
  funext a b
  by_cases e1 : a = fn ∧ b = k
  · obtain ⟨rfl, rfl⟩ := e1
    rw [upO_same]
    unfold flt
    rw [he, if_pos ⟨rfl, by omega, h⟩]
  · rw [upO_other _ _ e1]
    unfold flt
    by_cases h1 : a = fn ∧ b < k ∧ ¬ insAt p (fn : Int) (b : Int) = 0
    · rw [if_pos h1, if_pos ⟨h1.1, by omega, h1.2.2⟩]
    · rw [if_neg h1, if_neg (fun h2 => h1 ⟨h2.1, by omega, h2.2.2⟩)]
theorem flt_at {p : Pg} {fn n k : Nat} (h : k < n) : flt p fn n fn k = if insAt p (fn : Int) (k : Int) = 0 then none else some (insAt p (fn : Int) (k : Int)) := by
  unfold flt
  by_cases h0 : insAt p (fn : Int) (k : Int) = 0
  · rw [if_neg (by simp [h0]), if_pos h0]
  · rw [if_pos ⟨rfl, h, h0⟩, if_neg h0]

theorem szP_funcs {p : Pg} (hz : szP p ≤ 3000) : p.funcs.length ≤ 3000 ∧ ∀ f ∈ p.funcs, f.code.length ≤ 3000 := by
  unfold szP at hz
  refine ⟨by omega, fun f hf => ?_⟩
  obtain ⟨j, hj⟩ := List.mem_iff_getElem?.1 hf
  have := szFs_mem hj
  unfold szF at this
  omega
/-- What a program must be for its walks. -/
structure Gd (p : Pg) : Prop where
  len : Len p
  fit : FitP p
  sz : szP p ≤ 3000

set_option maxRecDepth 100000 in
set_option maxHeartbeats 4000000 in
theorem faults_any (p : Pg) (ag az af : Option Addr) (cg cs cf : Nat) {fn : Nat} {f : Fn} (hf : Hid (fnAt p (fn : Int) = some f)) (hg : Hid (Gd p)) (w : World) (hp : PgV Any w (.slice ag p.glob.length cg) (.slice az p.shapes.length cs) (.slice af p.funcs.length cf) p) :
    Calls Try.prog 82 #[.agg #[.slice ag p.glob.length cg, .slice az p.shapes.length cs, .slice af p.funcs.length cf], .int .i64 (fn : Int)] w fun e w' => ∃ mb, e = .returned (.map (some mb)) ∧ MpAt w' mb f.code.length (flt p fn f.code.length) ∧ Below w.heap.size w w' := by
  obtain ⟨wp, hwp⟩ : ∃ wp, w.alloc (.cells #[.slice ag p.glob.length cg, .slice az p.shapes.length cs, .slice af p.funcs.length cf] 26) = wp := ⟨_, rfl⟩
  have hq := onR_start hwp hp
  have HP00 : PgV Any w (.slice ag p.glob.length cg) (.slice az p.shapes.length cs) (.slice af p.funcs.length cf) p := hp
  have hsz : wp.heap.size = w.heap.size + 1 := by rw [← hwp]; simp
  have hm := mp_made wp
  rw [hsz] at hm
  have HQ : Hid (OnR w (wp.alloc (.map #[] 0)) p ag az af cg cs cf) := hq.below ((Below.refl _ _).alloc (Nat.le_refl _) _)
  have HM : Hid (MpAt (wp.alloc (.map #[] 0)) (w.heap.size + 1) 0 (flt p fn 0)) := by unfold Hid; rw [flt_none]; exact hm
  obtain ⟨j, hjf, hj, hfj⟩ := fnAt_some hf.out
  obtain rfl : fn = j := by omega
  have HZ : Hid (fn ≤ 3000 ∧ f.code.length ≤ 3000) := by
    have h1 := szP_funcs hg.out.sz
    exact ⟨by omega, h1.2 f (List.mem_of_getElem? hfj)⟩
  have HFJ : Hid (p.funcs[fn]? = some f) := hfj
  have hmm := @run_makeMap Try.prog
  have hltF : (fn : Int) < (p.funcs.length : Int) := by omega
  clear hp hq hm hfj hjf
  obtain ⟨b, off, v0, v1, v2, v3, v4, rfl, hb, _, k0, k1, k2, k3, k4, hfc⟩ := HQ.out.pp.funcs.some HFJ.out
  obtain ⟨a0, c0, a3, c3, a4, c4, rfl, rfl, rfl⟩ := hfc.lens
  have HP0 : Hid (PgV Any w (.slice ag p.glob.length cg) (.slice az p.shapes.length cs) (.slice (some ⟨b, off, none⟩) p.funcs.length cf) p) := HP00
  obtain ⟨d0, d1, d2⟩ := HQ.out.c
  clear hfc hb HP00
  go_enter Try.func82, Try.ntmps82
  go_wp2_with fail
  clear k0 k1 k2 k3 k4 d0 d1 d2 hmm
  go_loopw [6, 7, 8, 17] (fun _ _ _ i wr => ∃ k : Nat, k ≤ f.code.length ∧ i = .int .i64 k ∧ Hid (OnR w wr p ag az (some ⟨b, off, none⟩) cg cs cf) ∧ Hid (MpAt wr (w.heap.size + 1) k (flt p fn k))) (fun _ _ _ i _ => f.code.length - (intOf i).toNat)
  case atStart => exact ⟨0, Nat.zero_le _, rfl, HQ, HM⟩
  case round =>
    obtain ⟨k, hk, rfl, HR, HK⟩ := hrel
    clear HQ HM hwp hsz
    by_cases hlt : k < f.code.length
    · have hltI : (k : Int) < (f.code.length : Int) := by omega
      have hk3 : k + 1 ≤ 9223372036854775807 := by have := HZ.out; omega
      have hA : Below wr.heap.size wr (wr.alloc (.cells #[.int .i64 (fn : Int), .int .i64 (k : Int)] 34)) := (Below.refl _ _).alloc (Nat.le_refl _) _
      have HR1 : Hid (OnR w (wr.alloc (.cells #[.int .i64 (fn : Int), .int .i64 (k : Int)] 34)) p ag az (some ⟨b, off, none⟩) cg cs cf) := HR.out.below hA
      have HK1 : Hid (MpAt (wr.alloc (.cells #[.int .i64 (fn : Int), .int .i64 (k : Int)] 34)) (w.heap.size + 1) k (flt p fn k)) := HK.out.below hA
      have HP1 : Hid ((wr.alloc (.cells #[.int .i64 (fn : Int), .int .i64 (k : Int)] 34)).rowIs wr.heap.size 34 2 (plC (fn : Int) (k : Int))) := pl_box wr _ _
      obtain ⟨wq, hwq⟩ : ∃ wq, wr.alloc (.cells #[.int .i64 (fn : Int), .int .i64 (k : Int)] 34) = wq := ⟨_, rfl⟩
      obtain ⟨q, hq⟩ : ∃ q, wr.heap.size = q := ⟨_, rfl⟩
      rw [hwq] at HR1 HK1 HP1
      rw [hq] at HP1
      clear hA HR HK
      obtain ⟨d0, d1, d2⟩ := HR1.out.c
      have p0 : wq.cell? ⟨q, 0, none⟩ = some (.int .i64 (fn : Int)) := HP1.out.cell (i := 0) (by decide)
      have p1 : wq.cell? ⟨q, 1, none⟩ = some (.int .i64 (k : Int)) := HP1.out.cell (i := 1) (by decide)
      obtain ⟨s, hs⟩ : ∃ s, Hid (insAt p (fn : Int) (k : Int) = s) := ⟨_, rfl⟩
      go_wp2_with fail
      refine (instr_any p ag az (some ⟨b, off, none⟩) cg cs cf hs ⟨hg.out.len, hg.out.fit⟩ _ HR1.out.pp).mono ?_
      rintro e w2 ⟨rfl, hb⟩
      have HR2 : Hid (OnR w w2 p ag az (some ⟨b, off, none⟩) cg cs cf) := HR1.out.below hb
      have HK2 : Hid (MpAt w2 (w.heap.size + 1) k (flt p fn k)) := HK1.out.below hb
      have HP2 : Hid (w2.rowIs q 34 2 (plC (fn : Int) (k : Int))) := HP1.out.of_block (hb.block _ HP1.out.lt)
      clear hb HR1 HK1 HP1 d0 d1 d2 p0 p1
      by_cases h0 : s = 0
      · have HK3 : Hid (MpAt w2 (w.heap.size + 1) (k + 1) (flt p fn (k + 1))) := by
          unfold Hid
          rw [flt_same (by rw [hs.out, h0])]
          exact HK2.out.mono (Nat.le_succ _)
        clear HK2
        go_wp2_with fail
        go_roundw
        case rel => exact ⟨k + 1, by omega, by go_num, HR2, HK3⟩
        case measure => simp [intOf]; omega
      · have p0 : w2.cell? ⟨q, 0, none⟩ = some (.int .i64 (fn : Int)) := HP2.out.cell (i := 0) (by decide)
        have p1 : w2.cell? ⟨q, 1, none⟩ = some (.int .i64 (k : Int)) := HP2.out.cell (i := 1) (by decide)
        obtain ⟨w3, hrun, hm3, hb3⟩ := HK2.out.store (k := fn) (s := k) (by have := HZ.out; omega) (by have := HZ.out; omega) s (by have := HZ.out; omega)
        have HR3 : Hid (OnR w w3 p ag az (some ⟨b, off, none⟩) cg cs cf) := by
          have hB := hb3.below (B := w.heap.size + 1) (Nat.le_refl _) HR2.out.rp.lt
          exact ⟨hb3.below (B := w.heap.size) (Nat.le_succ _) HR2.out.low.size |> HR2.out.low.trans, HR2.out.rp.of_block (hB.block _ (by omega)), (HP0.out.below (HR2.out.low.trans (hb3.below (B := w.heap.size) (Nat.le_succ _) HR2.out.low.size)))⟩
        have HK3 : Hid (MpAt w3 (w.heap.size + 1) (k + 1) (flt p fn (k + 1))) := by
          unfold Hid
          rw [flt_more hs.out h0]
          exact hm3.mono (by split <;> omega)
        unfold plV at hrun
        clear hm3 hb3 HK2 HR2
        go_wp2_with fail
        go_roundw
        case rel => exact ⟨k + 1, by omega, by go_num, HR3, HK3⟩
        case measure => simp [intOf]; omega
    · obtain rfl : k = f.code.length := by omega
      go_wp2_with fail
      go_ret
      exact ⟨_, rfl, HK.out, HR.out.low⟩

end Go.Proofs.Ytmjappcjfjajmaa

/- The walk of check's Func. -/
import Derived.Test.YtmjappcjfjajmaaCkH
namespace Go.Proofs.Ytmjappcjfjajmaa
open Go.RowKit Go.Maps

/-- A program's box at the end of w, a place's behind it. -/
structure OnF (w wk : World) (x y : Int) (p : Pg) (ag az af : Option Addr) (cg cs cf : Nat) : Prop where
  q : OnR w wk p ag az af cg cs cf
  rr : wk.rowIs (w.heap.size + 1) 34 2 (plC x y)
section
variable {p : Pg} {x y : Int} {ag az af : Option Addr} {cg cs cf : Nat} {w wk w2 : World}
theorem OnF.below (h : OnF w wk x y p ag az af cg cs cf) (hb : Below wk.heap.size wk w2) : OnF w w2 x y p ag az af cg cs cf := ⟨h.q.below hb, h.rr.of_block (hb.block _ h.rr.lt)⟩
theorem onF_start {wp : World} (hwp : w.alloc (.cells #[.slice ag p.glob.length cg, .slice az p.shapes.length cs, .slice af p.funcs.length cf] 26) = wp) (hp : PgV Any w (.slice ag p.glob.length cg) (.slice az p.shapes.length cs) (.slice af p.funcs.length cf) p) : OnF w (wp.alloc (.cells #[.int .i64 0, .int .i64 0] 34)) 0 0 p ag az af cg cs cf := by
  have hsz : wp.heap.size = w.heap.size + 1 := by rw [← hwp]; simp
  refine ⟨(onR_start hwp hp).below ((Below.refl _ _).alloc (Nat.le_refl _) _), ?_⟩
  have := pl_box wp 0 0
  rw [hsz] at this
  exact this
end

/-- A function's answer. -/
def funX (p : Pg) (fn : Int) : Int := if (funE p fn).1 = 0 then 0 else fn
def FunIs (p : Pg) (fn : Int) (e : Ending) : Prop := e = .returned (.tuple #[.int .i64 (funE p fn).1, .agg #[.int .i64 (funX p fn), .int .i64 ((funE p fn).2 : Int)]])
theorem fun_head {p : Pg} {fn s : Int} (hs : headP p fn = s) (h0 : ¬ s = 0) : funE p fn = (s, 0) ∧ funX p fn = fn := by
  have h : funE p fn = (s, 0) := by
    unfold headP at hs
    unfold funE
    cases hf : fnAt p fn with
    | none => rw [hf] at hs; simp only at hs; rw [hs]
    | some f => rw [hf] at hs; simp only at hs ⊢; rw [if_neg (by rw [hs]; exact h0), hs]
  exact ⟨h, by unfold funX; rw [h, if_neg h0]⟩
theorem fun_bad {p : Pg} {fn s : Int} {f : Fn} {k : Nat} (hf : fnAt p fn = some f) (hs : headP p fn = 0) (hk : k < f.code.length) (ha : ∀ j : Nat, j < k → insAt p fn (j : Int) = 0) (he : insAt p fn (k : Int) = s) (h0 : ¬ s = 0) : funE p fn = (s, k) ∧ funX p fn = fn := by
  have h : funE p fn = (s, k) := by
    unfold headP at hs
    unfold funE
    rw [hf] at hs
    rw [hf]
    simp only at hs ⊢
    rw [if_pos hs, bad_some hk ha (by rw [he]; exact h0)]
    show (insAt p fn (k : Int), k) = (s, k)
    rw [he]
  exact ⟨h, by unfold funX; rw [h, if_neg h0]⟩
theorem fun_ok {p : Pg} {fn : Int} {f : Fn} (hf : fnAt p fn = some f) (hs : headP p fn = 0) (ha : ∀ j : Nat, j < f.code.length → insAt p fn (j : Int) = 0) : funE p fn = (0, 0) ∧ funX p fn = 0 := by
  have h : funE p fn = (0, 0) := by
    unfold headP at hs
    unfold funE
    rw [hf] at hs
    rw [hf]
    simp only at hs ⊢
    rw [if_pos hs, bad_none ha]
  exact ⟨h, by unfold funX; rw [h, if_pos rfl]⟩
theorem funIs {p : Pg} {fn s x : Int} {k : Nat} (h : funE p fn = (s, k) ∧ funX p fn = x) : FunIs p fn (.returned (.tuple #[.int .i64 s, .agg #[.int .i64 x, .int .i64 (k : Int)]])) := by
  unfold FunIs
  rw [h.1, h.2]
theorem checkHead_any (p : Pg) (ag az af : Option Addr) (cg cs cf : Nat) {fn s : Int} (hs : Hid (headP p fn = s)) (HLF : Hid (Len p ∧ FitP p)) (w : World) (hp : PgV Any w (.slice ag p.glob.length cg) (.slice az p.shapes.length cs) (.slice af p.funcs.length cf) p) :
    Calls Try.prog 81 #[.agg #[.slice ag p.glob.length cg, .slice az p.shapes.length cs, .slice af p.funcs.length cf], .int .i64 fn] w fun e w' => e = .returned (.int .i64 s) ∧ Below w.heap.size w w' := by
  obtain rfl := hs.out
  cases hf : fnAt p fn with
  | none =>
    have e : headP p fn = 1 := by unfold headP; rw [hf]
    rw [e]
    exact checkHead_none p ag az af cg cs cf hf w hp
  | some f =>
    have e : headP p fn = headE p f := by unfold headP; rw [hf]
    rw [e]
    exact checkHead_some p ag az af cg cs cf hf HLF w hp
theorem cell_far {w : World} {b o g q : Nat} {u v : Value} (h : w.cell? ⟨b, o, none⟩ = some v) (hne : ¬ b = g) : (w.setCell ⟨g, q, none⟩ u).cell? ⟨b, o, none⟩ = some v :=
  (World.cell?_of_block (Below.heap_setCell _ _ _ _ hne)).trans h
theorem below_two {B b : Nat} {w wk : World} (h : Below B w wk) (hb : B ≤ b) (u v : Value) : Below B w ((wk.setCell ⟨b, 0, none⟩ u).setCell ⟨b, 1, none⟩ v) := (h.setCell (p := ⟨b, 0, none⟩) hb u).setCell (p := ⟨b, 1, none⟩) hb v

set_option maxRecDepth 100000 in
set_option maxHeartbeats 4000000 in
theorem func_head (p : Pg) (ag az af : Option Addr) (cg cs cf : Nat) {fn s : Int} (hs : Hid (headP p fn = s)) (h0 : ¬ s = 0) (hg : Hid (Gd p)) (w : World) (hp : PgV Any w (.slice ag p.glob.length cg) (.slice az p.shapes.length cs) (.slice af p.funcs.length cf) p) :
    Calls Try.prog 52 #[.agg #[.slice ag p.glob.length cg, .slice az p.shapes.length cs, .slice af p.funcs.length cf], .int .i64 fn] w fun e w' => FunIs p fn e ∧ Below w.heap.size w w' := by
  obtain ⟨wp, hwp⟩ : ∃ wp, w.alloc (.cells #[.slice ag p.glob.length cg, .slice az p.shapes.length cs, .slice af p.funcs.length cf] 26) = wp := ⟨_, rfl⟩
  have hsz : wp.heap.size = w.heap.size + 1 := by rw [← hwp]; simp
  have HQ : Hid (OnF w (wp.alloc (.cells #[.int .i64 0, .int .i64 0] 34)) 0 0 p ag az af cg cs cf) := onF_start hwp hp
  obtain ⟨w0, hw0⟩ : ∃ w0, wp.alloc (.cells #[.int .i64 0, .int .i64 0] 34) = w0 := ⟨_, rfl⟩
  rw [hw0] at HQ
  obtain ⟨d0, d1, d2⟩ := HQ.out.q.c
  have HF : Hid (funE p fn = (s, 0) ∧ funX p fn = fn) := fun_head hs.out h0
  clear hp
  go_enter Try.func52, Try.ntmps52
  go_wp2_with fail
  refine (checkHead_any p ag az af cg cs cf hs ⟨hg.out.len, hg.out.fit⟩ _ HQ.out.q.pp).mono ?_
  rintro e w1 ⟨rfl, hb⟩
  have HQ1 : Hid (OnF w w1 0 0 p ag az af cg cs cf) := HQ.out.below hb
  clear hb HQ d0 d1 d2 hw0 hwp hsz
  have r0 := HQ1.out.rr.cell (i := 0) (by decide)
  have r1 := HQ1.out.rr.cell (i := 1) (by decide)
  have z0 := HQ1.out.rr.frozen 0
  have z1 := HQ1.out.rr.frozen 1
  go_wp2_with fail
  refine bodyPost_ret (v := .tuple #[.int .i64 s, .agg #[.int .i64 fn, .int .i64 0]]) (by simp [results, go_sem, r0, r1]) rfl ?_
  exact ⟨funIs HF.out, below_two HQ1.out.q.low (Nat.le_succ _) _ _⟩

set_option maxRecDepth 100000 in
set_option maxHeartbeats 4000000 in
theorem func_ins (p : Pg) (ag az af : Option Addr) (cg cs cf : Nat) {fn : Nat} {f : Fn} (hf : Hid (fnAt p (fn : Int) = some f)) (hs : Hid (headP p (fn : Int) = 0)) (hg : Hid (Gd p)) (w : World) (hp : PgV Any w (.slice ag p.glob.length cg) (.slice az p.shapes.length cs) (.slice af p.funcs.length cf) p) :
    Calls Try.prog 52 #[.agg #[.slice ag p.glob.length cg, .slice az p.shapes.length cs, .slice af p.funcs.length cf], .int .i64 (fn : Int)] w fun e w' => FunIs p (fn : Int) e ∧ Below w.heap.size w w' := by
  obtain ⟨wp, hwp⟩ : ∃ wp, w.alloc (.cells #[.slice ag p.glob.length cg, .slice az p.shapes.length cs, .slice af p.funcs.length cf] 26) = wp := ⟨_, rfl⟩
  have hsz : wp.heap.size = w.heap.size + 1 := by rw [← hwp]; simp
  have HQ : Hid (OnF w (wp.alloc (.cells #[.int .i64 0, .int .i64 0] 34)) 0 0 p ag az af cg cs cf) := onF_start hwp hp
  obtain ⟨w0, hw0⟩ : ∃ w0, wp.alloc (.cells #[.int .i64 0, .int .i64 0] 34) = w0 := ⟨_, rfl⟩
  rw [hw0] at HQ
  obtain ⟨d0, d1, d2⟩ := HQ.out.q.c
  obtain ⟨j, hjf, hj, hfj⟩ := fnAt_some hf.out
  obtain rfl : fn = j := by omega
  have HZ : Hid (fn ≤ 3000 ∧ f.code.length ≤ 3000) := by
    have h1 := szP_funcs hg.out.sz
    exact ⟨by omega, h1.2 f (List.mem_of_getElem? hfj)⟩
  have HFJ : Hid (p.funcs[fn]? = some f) := hfj
  have hltF : (fn : Int) < (p.funcs.length : Int) := by omega
  clear hp hfj hjf
  go_enter Try.func52, Try.ntmps52
  go_wp2_with fail
  refine (checkHead_any p ag az af cg cs cf hs ⟨hg.out.len, hg.out.fit⟩ _ HQ.out.q.pp).mono ?_
  rintro e w1 ⟨rfl, hb⟩
  have HQ1 : Hid (OnF w w1 0 0 p ag az af cg cs cf) := HQ.out.below hb
  clear hb HQ d0 d1 d2 hw0 hwp hsz
  obtain ⟨d0, d1, d2⟩ := HQ1.out.q.c
  go_wp2_with fail
  refine (faults_any p ag az af cg cs cf hf hg _ HQ1.out.q.pp).mono ?_
  rintro e w2 ⟨mb, rfl, hm, hb⟩
  have HQ2 : Hid (OnF w w2 0 0 p ag az af cg cs cf) := HQ1.out.below hb
  have HM : Hid (MpAt w2 mb f.code.length (flt p fn f.code.length)) := hm
  clear hb hm HQ1 d0 d1 d2
  obtain ⟨b, off, v0, v1, v2, v3, v4, rfl, hb, _, k0, k1, k2, k3, k4, hfc⟩ := HQ2.out.q.pp.funcs.some HFJ.out
  obtain ⟨a0, c0, a3, c3, a4, c4, rfl, rfl, rfl⟩ := hfc.lens
  obtain ⟨d0, d1, d2⟩ := HQ2.out.q.c
  clear hfc hb
  go_wp2_with fail
  clear k0 k1 k2 k3 k4 d0 d1 d2
  go_loopw [8, 9, 10, 11, 30] (fun _ _ _ _ i wr => ∃ k : Nat, k ≤ f.code.length ∧ i = .int .i64 k ∧ Hid (OnF w wr 0 0 p ag az (some ⟨b, off, none⟩) cg cs cf) ∧ Hid (MpAt wr mb f.code.length (flt p fn f.code.length)) ∧ Hid (∀ m : Nat, m < k → insAt p (fn : Int) (m : Int) = 0)) (fun _ _ _ _ i _ => f.code.length - (intOf i).toNat)
  case atStart => exact ⟨0, Nat.zero_le _, rfl, HQ2, HM, fun m hm => absurd hm (by omega)⟩
  case round =>
    obtain ⟨k, hk, rfl, HR, HK, HA⟩ := hrel
    clear HQ2 HM
    by_cases hlt : k < f.code.length
    · have hltI : (k : Int) < (f.code.length : Int) := by omega
      have hk3 : k + 1 ≤ 9223372036854775807 := by have := HZ.out; omega
      have hA : Below wr.heap.size wr (wr.alloc (.cells #[.int .i64 (fn : Int), .int .i64 (k : Int)] 34)) := (Below.refl _ _).alloc (Nat.le_refl _) _
      have HR1 : Hid (OnF w (wr.alloc (.cells #[.int .i64 (fn : Int), .int .i64 (k : Int)] 34)) 0 0 p ag az (some ⟨b, off, none⟩) cg cs cf) := HR.out.below hA
      have HK1 : Hid (MpAt (wr.alloc (.cells #[.int .i64 (fn : Int), .int .i64 (k : Int)] 34)) mb f.code.length (flt p fn f.code.length)) := HK.out.below hA
      have HP1 : Hid ((wr.alloc (.cells #[.int .i64 (fn : Int), .int .i64 (k : Int)] 34)).rowIs wr.heap.size 34 2 (plC (fn : Int) (k : Int))) := pl_box wr _ _
      have hql : w.heap.size + 1 < wr.heap.size := HR.out.rr.lt
      obtain ⟨wq, hwq⟩ : ∃ wq, wr.alloc (.cells #[.int .i64 (fn : Int), .int .i64 (k : Int)] 34) = wq := ⟨_, rfl⟩
      obtain ⟨q, hq⟩ : ∃ q, wr.heap.size = q := ⟨_, rfl⟩
      rw [hwq] at HR1 HK1 HP1
      rw [hq] at HP1 hql
      clear hA HR HK
      have p0 : wq.cell? ⟨q, 0, none⟩ = some (.int .i64 (fn : Int)) := HP1.out.cell (i := 0) (by decide)
      have p1 : wq.cell? ⟨q, 1, none⟩ = some (.int .i64 (k : Int)) := HP1.out.cell (i := 1) (by decide)
      obtain ⟨s, hs1⟩ : ∃ s, Hid (insAt p (fn : Int) (k : Int) = s) := ⟨_, rfl⟩
      have hlk := (HK1.out.look (k := fn) (s := k) (by have := HZ.out; omega) (by have := HZ.out; omega)).1
      rw [flt_at hlt, hs1.out] at hlk
      unfold plV at hlk
      by_cases h0 : s = 0
      · rw [if_pos h0] at hlk
        have HA2 : Hid (∀ m : Nat, m < k + 1 → insAt p (fn : Int) (m : Int) = 0) := fun m hm => by
          by_cases e : m = k
          · rw [e, hs1.out, h0]
          · exact HA.out m (by omega)
        simp only [Option.getD_none, Option.isSome_none] at hlk
        clear HA
        go_wp2_with fail
        go_roundw
        case rel => exact ⟨k + 1, by omega, by go_num, HR1, HK1, HA2⟩
        case measure => simp [intOf]; omega
      · rw [if_neg h0] at hlk
        simp only [Option.getD_some, Option.isSome_some] at hlk
        have HF : Hid (funE p (fn : Int) = (s, k) ∧ funX p (fn : Int) = (fn : Int)) := fun_bad hf.out hs.out hlt HA.out hs1.out h0
        have r0 := HR1.out.rr.cell (i := 0) (by decide)
        have r1 := HR1.out.rr.cell (i := 1) (by decide)
        have z0 := HR1.out.rr.frozen 0
        have z1 := HR1.out.rr.frozen 1
        have hne : ¬ q = w.heap.size + 1 := by omega
        clear HA
        go_upto_region 11 with (fail)
        go_region_held3 (fun w' => w'.cell? ⟨q, 0, none⟩ = some (.int .i64 (fn : Int)) ∧ w'.cell? ⟨q, 1, none⟩ = some (.int .i64 (k : Int))) (first | exact ⟨cell_far (cell_far p0 hne) hne, cell_far (cell_far p1 hne) hne⟩ | go_keep) (fail)
        all_goals
          go_wp2_with fail
          refine bodyPost_ret (v := .tuple #[.int .i64 s, .agg #[.int .i64 (fn : Int), .int .i64 (k : Int)]]) (by simp [results, go_sem, r0, r1]) rfl ?_
          refine ⟨funIs HF.out, ?_⟩
          first
            | exact below_two HR1.out.q.low (Nat.le_succ _) _ _
            | exact (below_two HR1.out.q.low (Nat.le_succ _) _ _).drew
    · obtain rfl : k = f.code.length := by omega
      have HF : Hid (funE p (fn : Int) = (0, 0) ∧ funX p (fn : Int) = 0) := fun_ok hf.out hs.out HA.out
      have r0 := HR.out.rr.cell (i := 0) (by decide)
      have r1 := HR.out.rr.cell (i := 1) (by decide)
      have z0 := HR.out.rr.frozen 0
      have z1 := HR.out.rr.frozen 1
      clear HA
      go_wp2_with fail
      refine bodyPost_ret (v := .tuple #[.int .i64 0, .agg #[.int .i64 0, .int .i64 0]]) (by simp [results, go_sem, r0, r1]) rfl ?_
      exact ⟨funIs HF.out, below_two HR.out.q.low (Nat.le_succ _) _ _⟩

theorem func_any (p : Pg) (ag az af : Option Addr) (cg cs cf : Nat) (fn : Int) (hg : Hid (Gd p)) (w : World) (hp : PgV Any w (.slice ag p.glob.length cg) (.slice az p.shapes.length cs) (.slice af p.funcs.length cf) p) :
    Calls Try.prog 52 #[.agg #[.slice ag p.glob.length cg, .slice az p.shapes.length cs, .slice af p.funcs.length cf], .int .i64 fn] w fun e w' => FunIs p fn e ∧ Below w.heap.size w w' := by
  by_cases h0 : headP p fn = 0
  · cases hf : fnAt p fn with
    | none => unfold headP at h0; rw [hf] at h0; cases h0
    | some f =>
      obtain ⟨j, rfl, _, _⟩ := fnAt_some hf
      exact func_ins p ag az af cg cs cf hf h0 hg w hp
  · exact func_head p ag az af cg cs cf (show Hid (headP p fn = headP p fn) from rfl) h0 hg w hp

end Go.Proofs.Ytmjappcjfjajmaa

/- The walk of flow's Program. The walk of chapter 12's alive. -/
import Derived.Test.YtmjappcjfjajmaaFlU
import Derived.Test.YtmjappcjfjajmaaCkJ
namespace Go.Proofs.Ytmjappcjfjajmaa
open Go.RowKit Go.Maps

/-- The kinds of the first j functions. -/
noncomputable def GP (p : Pg) (j : Nat) : Gs := fun k s => if 0 ≤ k ∧ k < (j : Int) ∧ 0 ≤ s then gX p k.toNat s.toNat else none
theorem GP_zero (p : Pg) : GP p 0 = fun _ _ => none := by
  funext k s
  unfold GP
  rw [if_neg (by omega)]
theorem GP_none (p : Pg) (j : Nat) (s : Int) : GP p j (j : Int) s = none := by unfold GP; rw [if_neg (by omega)]
theorem GP_succ (p : Pg) (j : Nat) : GX (GP p j) j (gX p j) = GP p (j + 1) := by
  funext k s
  unfold GX GP
  by_cases e : k = (j : Int) ∧ 0 ≤ s
  · obtain ⟨rfl, hs⟩ := e
    rw [if_pos ⟨rfl, hs⟩, if_pos ⟨by omega, by omega, hs⟩, Int.toNat_natCast]
  · rw [if_neg e]
    by_cases e2 : 0 ≤ k ∧ k < (j : Int) ∧ 0 ≤ s
    · rw [if_pos e2, if_pos ⟨e2.1, by omega, e2.2.2⟩]
    · rw [if_neg e2, if_neg (fun h => by
        by_cases h3 : k = (j : Int)
        · exact e ⟨h3, h.2.2⟩
        · exact e2 ⟨h.1, by omega, h.2.2⟩)]
theorem GP_at {p : Pg} {n k : Nat} (h : k < n) (s : Nat) : GP p n (k : Int) (s : Int) = gX p k s := by unfold GP; rw [if_pos ⟨by omega, by omega, by omega⟩, Int.toNat_natCast, Int.toNat_natCast]
theorem nf16 {p : Pg} (h : (progE p).1 = 0) : p.funcs.length ≤ 16 := by
  unfold progE at h
  by_cases h0 : topE p = 0
  · unfold topE at h0
    split at h0
    · split at h0
      · rename_i h2; exact h2.2.2
      · cases h0
    · rename_i h1; exact absurd h0 h1
  · rw [if_neg h0] at h
    exact absurd h h0
theorem pot_none (f : Fn) (h : limB f = true) : potK f.code.length f.slots.toNat (fun _ => none) ≤ 1088 := by
  have hl := beg_len h
  have h1 := pot_le f.code.length f.slots.toNat (fun _ => none) (fun q K hq => by cases hq)
  have h5 : f.code.length * (f.slots.toNat + 1) ≤ 64 * 17 := Nat.mul_le_mul hl.2.2.2.1 (by omega)
  omega
theorem onF_but {w wk w2 : World} {x y : Int} {p : Pg} {ag az af : Option Addr} {cg cs cf mb : Nat} (h : OnF w wk x y p ag az af cg cs cf) (hb : But mb wk w2) (hm : w.heap.size + 1 < mb) (hp : PgV Any w (.slice ag p.glob.length cg) (.slice az p.shapes.length cs) (.slice af p.funcs.length cf) p) : OnF w w2 x y p ag az af cg cs cf := by
  have hl : Below w.heap.size w w2 := h.q.low.trans (hb.below (by omega) h.q.low.size)
  exact ⟨⟨hl, h.q.rp.of_block (hb.block _ h.q.rp.lt (by omega)), hp.below hl⟩, h.rr.of_block (hb.block _ h.rr.lt (by omega))⟩
/-- All functions that came were followed, without an error. -/
def FlOk (p : Pg) (k : Nat) : Prop := ∀ m : Nat, m < k → (flAt p m).1 = 0 ∧ ∀ f, p.funcs[m]? = some f → Great p f (gX p m)
theorem flOk_succ {p : Pg} {k : Nat} {f : Fn} (h : FlOk p k) (hf : p.funcs[k]? = some f) (h0 : (flF p k f).1 = 0) (hg : Great p f (gX p k)) : FlOk p (k + 1) := fun m hm => by
  by_cases e : m = k
  · subst e
    refine ⟨by unfold flAt; rw [hf]; exact h0, fun f' hf' => ?_⟩
    rw [hf] at hf'
    cases hf'
    exact hg
  · exact h m (by omega)
/-- What Program answers. -/
def VerIs (p : Pg) (e : Ending) (w' : World) : Prop :=
  (¬ (verE p).1 = 0 ∧ e = .returned (.tuple #[.pointer none, .int .i64 (verE p).1, .agg #[.int .i64 ((verE p).2.1 : Int), .int .i64 ((verE p).2.2 : Int)]])) ∨
  ((verE p).1 = 0 ∧ (progE p).1 = 0 ∧ FlOk p p.funcs.length ∧ ∃ mo mb n, e = .returned (.tuple #[.pointer (some ⟨mo, 0, none⟩), .int .i64 0, .agg #[.int .i64 0, .int .i64 0]]) ∧ MmAt w' mo mb n (GP p p.funcs.length))

/-- A box of numbers that are no kinds may be written anew. -/
theorem mm_box {w : World} {mo mb n q : Nat} {G : Gs} {f : Nat → Value} (h : MmAt w mo mb n G) (hr : w.rowIs q 34 2 f) (h1 : mo ≠ q) (h2 : mb ≠ q) {u v : Value} : MmAt ((w.setCell ⟨q, 0, none⟩ u).setCell ⟨q, 1, none⟩ v) mo mb n G := by
  obtain ⟨O, h3, h4⟩ := h.map
  have hb : ∀ b : Nat, b ≠ q → ((w.setCell ⟨q, 0, none⟩ u).setCell ⟨q, 1, none⟩ v).heap[b]? = w.heap[b]? := fun b hne => by
    rw [Below.heap_setCell _ _ _ _ hne, Below.heap_setCell _ _ _ _ hne]
  obtain ⟨cs, hc, _⟩ := hr
  have hK : KpI w ((w.setCell ⟨q, 0, none⟩ u).setCell ⟨q, 1, none⟩ v) := ⟨by simp, fun b ⟨cs', fl, hc'⟩ => hb b (fun e => by subst e; rw [hc] at hc'; cases hc')⟩
  exact ⟨(World.cell?_of_block (hb mo h1)).trans h.box, h.ne, O, h3.of_block (hb mb h2), fun k s hk hs => rel_keep (h4 k s hk hs) hK⟩
theorem ver_any {p : Pg} {s x y : Int} {w w' : World} (h : VerIs p (.returned (.tuple #[.pointer none, .int .i64 s, .agg #[.int .i64 x, .int .i64 y]])) w) : VerIs p (.returned (.tuple #[.pointer none, .int .i64 s, .agg #[.int .i64 x, .int .i64 y]])) w' := by
  rcases h with h | ⟨_, _, _, mo, mb, n, h, _⟩
  · exact Or.inl h
  · cases h

set_option maxRecDepth 100000 in
set_option maxHeartbeats 8000000 in
theorem flowProgram_any (p : Pg) (ag az af : Option Addr) (cg cs cf : Nat) (hg : Hid (Gd p)) (w : World) (hp : PgV Any w (.slice ag p.glob.length cg) (.slice az p.shapes.length cs) (.slice af p.funcs.length cf) p) :
    Calls Try.prog 19 #[.agg #[.slice ag p.glob.length cg, .slice az p.shapes.length cs, .slice af p.funcs.length cf]] w fun e w' => VerIs p e w' ∧ Below w.heap.size w w' := by
  obtain ⟨wp, hwp⟩ : ∃ wp, w.alloc (.cells #[.slice ag p.glob.length cg, .slice az p.shapes.length cs, .slice af p.funcs.length cf] 26) = wp := ⟨_, rfl⟩
  have hws : wp.heap.size = w.heap.size + 1 := by rw [← hwp]; simp
  have HF0 : Hid (OnF w (wp.alloc (.cells #[.int .i64 0, .int .i64 0] 34)) 0 0 p ag az af cg cs cf) := onF_start hwp hp
  have HP0 : Hid (PgV Any w (.slice ag p.glob.length cg) (.slice az p.shapes.length cs) (.slice af p.funcs.length cf) p) := hp
  have hmm := @run_makeMap Try.prog
  clear hp
  go_enter Try.func19, Try.ntmps19
  go_upto_region 1 with (fail)
  generalize wp.alloc (.cells #[.int .i64 0, .int .i64 0] 34) = w1 at *
  obtain ⟨d0, d1, d2⟩ := HF0.out.q.c
  clear hwp hws
  go_wp2_with fail
  refine (program_any p ag az af cg cs cf hg _ HF0.out.q.pp).mono ?_
  rintro e w2 ⟨he, hb⟩
  have HF2 : Hid (OnF w w2 0 0 p ag az af cg cs cf) := HF0.out.below hb
  clear hb HF0 d0 d1 d2
  unfold ProgIs at he
  obtain ⟨s, x, y, hpr⟩ : ∃ s x y, progE p = (s, x, y) := ⟨_, _, _, rfl⟩
  rw [hpr] at he
  simp only at he
  subst he
  have HPR : Hid (progE p = (s, x, y)) := hpr
  clear hpr
  have hA3 : Below w2.heap.size w2 (w2.alloc (.cells #[.int .i64 (x : Int), .int .i64 (y : Int)] 34)) := (Below.refl _ _).alloc (Nat.le_refl _) _
  have HF3 : Hid (OnF w (w2.alloc (.cells #[.int .i64 (x : Int), .int .i64 (y : Int)] 34)) 0 0 p ag az af cg cs cf) := HF2.out.below hA3
  have HQ3 : Hid ((w2.alloc (.cells #[.int .i64 (x : Int), .int .i64 (y : Int)] 34)).rowIs w2.heap.size 34 2 (plC (x : Int) (y : Int)) ∧ w.heap.size + 1 < w2.heap.size) := ⟨pl_box w2 _ _, HF2.out.rr.lt⟩
  clear hA3 HF2
  by_cases h0 : s = 0
  · subst h0
    have HPZ : Hid ((progE p).1 = 0) := by unfold Hid; rw [HPR.out]
    go_upto_region 4 with (fail)
    generalize w2.alloc (.cells #[.int .i64 (x : Int), .int .i64 (y : Int)] 34) = wq at *
    have hA : ∀ (w : World) o, Below w.heap.size w (w.alloc o) := fun w o => (Below.refl _ _).alloc (Nat.le_refl _) _
    have HF4 : Hid (OnF w ((wq.alloc (.map #[] 0)).alloc (.cells #[.map (some wq.heap.size)] 76)) 0 0 p ag az af cg cs cf) := (HF3.out.below (hA _ _)).below (hA _ _)
    have HM4 : Hid (MmAt ((wq.alloc (.map #[] 0)).alloc (.cells #[.map (some wq.heap.size)] 76)) (wq.heap.size + 1) wq.heap.size 0 (GP p 0) ∧ w.heap.size + 1 < wq.heap.size) := by
      refine ⟨⟨?_, by omega, fun _ _ => none, (mk_made wq).below (hA _ _), fun k s _ _ => by rw [GP_zero]; trivial⟩, HF3.out.rr.lt⟩
      have := cell_new (wq.alloc (.map #[] 0)) #[.map (some wq.heap.size)] 76 (j := 0) rfl
      rw [World.size_alloc] at this
      exact this
    clear HF3 HQ3 hA
    go_upto_region 5 with (fail)
    generalize (wq.alloc (.map #[] 0)).alloc (.cells #[.map (some wq.heap.size)] 76) = wb at *
    clear hmm
    obtain ⟨mb, hmb⟩ : ∃ mb, wq.heap.size = mb := ⟨_, rfl⟩
    rw [hmb] at HM4
    obtain ⟨mo, hmo⟩ : ∃ mo, mb + 1 = mo := ⟨_, rfl⟩
    rw [hmo] at HM4
    have HMO : Hid (mb + 1 = mo) := hmo
    rw [hmb, hmo]
    clear hmb hmo
    obtain ⟨d0, d1, d2⟩ := HF4.out.q.c
    have HNF : Hid (p.funcs.length ≤ 16) := nf16 HPZ.out
    have HOP : Hid (OkP p) := ok_of HPZ.out
    go_wp2_with fail
    clear d0 d1 d2
    go_loopw [26] (fun iv wr => ∃ k n : Nat, k ≤ p.funcs.length ∧ iv = .int .i64 (k : Nat) ∧ Hid (OnF w wr 0 0 p ag az af cg cs cf ∧ MmAt wr mo mb n (GP p k) ∧ n ≤ 2000 * k ∧ w.heap.size + 1 < mb) ∧ Hid (FlOk p k)) (fun iv _ => p.funcs.length - (intOf iv).toNat)
    case atStart => exact ⟨0, 0, Nat.zero_le _, rfl, ⟨HF4.out, HM4.out.1, Nat.le_refl _, HM4.out.2⟩, fun m hm => absurd hm (by omega)⟩
    case round =>
      obtain ⟨k, n, hk, rfl, HR, HA⟩ := hrel
      clear HF4 HM4
      obtain ⟨d0, d1, d2⟩ := HR.out.1.q.c
      by_cases hlt : k < p.funcs.length
      · obtain ⟨f, hfk⟩ : ∃ f, p.funcs[k]? = some f := ⟨_, List.getElem?_eq_getElem hlt⟩
        have HFK : Hid (p.funcs[k]? = some f) := hfk
        have HOK : Hid (OkP p ∧ OkF p f) := ⟨HOP.out, okF_of HPZ.out (List.mem_of_getElem? hfk)⟩
        have hltI : (k : Int) < (p.funcs.length : Int) := by omega
        have hk3 : k + 1 ≤ 9223372036854775807 := by have := HNF.out; omega
        have HJ : Hid (k ≤ 3000 ∧ f.code.length ≤ 64 ∧ 2000 * (k + 1) ≤ 2000000) := ⟨by have := HNF.out; omega, (beg_len HOK.out.2.lim).2.2.2.1, by have := HNF.out; omega⟩
        have HNB : Hid (n + potK f.code.length f.slots.toNat (fun _ => none) ≤ 2000 * (k + 1)) := by have h5 := pot_none f HOK.out.2.lim; have h6 := HR.out.2.2.1; unfold Hid; omega
        have HGN : Hid (∀ s, GP p k (k : Int) s = none) := GP_none p k
        clear hfk
        go_wp2_with fail
        refine (follow_any p ag az af cg cs cf HFK HOK HGN HJ HNB _ HR.out.1.q.pp HR.out.2.1).mono ?_
        rintro e w3 ⟨rfl, X, n3, hgr, hm3, hn3, hb3⟩
        have HX : Hid (gX p k = X) := gX_is HFK.out hgr
        have HR3 : Hid (OnF w w3 0 0 p ag az af cg cs cf ∧ MmAt w3 mo mb n3 (GP p (k + 1)) ∧ n3 ≤ 2000 * (k + 1) ∧ w.heap.size + 1 < mb) := ⟨onF_but HR.out.1 hb3 HR.out.2.2.2 HP0.out, by rw [← GP_succ, HX.out]; exact hm3, hn3, HR.out.2.2.2⟩
        have HGR : Hid (Great p f (gX p k)) := by rw [HX.out]; exact hgr
        have HGA : Hid (∀ pc : Nat, GP p (k + 1) (k : Int) (pc : Int) = gX p k pc) := fun pc => GP_at (Nat.lt_succ_self k) pc
        clear hgr hm3 hn3 hb3 HR d0 d1 d2 HX HGN HNB
        obtain ⟨d0, d1, d2⟩ := HR3.out.1.q.c
        go_wp2_with fail
        refine (fault_any p ag az af cg cs cf HFK HOK ⟨HJ.out.1, HJ.out.2.1⟩ HGA HGR _ HR3.out.1.q.pp HR3.out.2.1).mono ?_
        rintro e w4 ⟨he, hb4⟩
        obtain ⟨s, y, hfl⟩ : ∃ s y, flF p k f = (s, y) := ⟨_, _, rfl⟩
        unfold FltIs at he
        rw [hfl] at he
        simp only at he
        have HFL : Hid (flF p k f = (s, y)) := hfl
        clear hfl
        have HR4 : Hid (OnF w w4 0 0 p ag az af cg cs cf ∧ MmAt w4 mo mb n3 (GP p (k + 1)) ∧ n3 ≤ 2000 * (k + 1) ∧ w.heap.size + 1 < mb) := ⟨HR3.out.1.below hb4, HR3.out.2.1.below hb4, HR3.out.2.2.1, HR3.out.2.2.2⟩
        clear hb4 HR3 d0 d1 d2
        by_cases h0 : s = 0
        · subst h0
          rw [if_pos rfl] at he
          subst he
          have HA2 : Hid (FlOk p (k + 1)) := flOk_succ HA.out HFK.out (by rw [HFL.out]) HGR.out
          have hA5 : Below w4.heap.size w4 (w4.alloc (.cells #[.int .i64 0, .int .i64 (y : Int)] 34)) := (Below.refl _ _).alloc (Nat.le_refl _) _
          have HR5 : Hid (OnF w (w4.alloc (.cells #[.int .i64 0, .int .i64 (y : Int)] 34)) 0 0 p ag az af cg cs cf ∧ MmAt (w4.alloc (.cells #[.int .i64 0, .int .i64 (y : Int)] 34)) mo mb n3 (GP p (k + 1)) ∧ n3 ≤ 2000 * (k + 1) ∧ w.heap.size + 1 < mb) := ⟨HR4.out.1.below hA5, HR4.out.2.1.below hA5, HR4.out.2.2.1, HR4.out.2.2.2⟩
          clear hA5 HR4 HA HGA HGR
          go_wp2_with fail
          go_roundw
          case rel => exact ⟨k + 1, n3, by omega, by go_num, HR5, HA2⟩
          case measure => simp [intOf]; omega
        · rw [if_neg h0] at he
          subst he
          have HV : Hid (VerIs p (.returned (.tuple #[.pointer none, .int .i64 s, .agg #[.int .i64 (k : Int), .int .i64 (y : Int)]])) w) := Or.inl (by
            have h1 : verE p = (s, k, y) := verE_bad HPZ.out hlt (fun m hm => (HA.out m hm).1) (by unfold flAt; rw [HFK.out]; exact HFL.out) h0
            rw [h1]
            exact ⟨h0, rfl⟩)
          have hA3 : Below w4.heap.size w4 (w4.alloc (.cells #[.int .i64 (k : Int), .int .i64 (y : Int)] 34)) := (Below.refl _ _).alloc (Nat.le_refl _) _
          have HF3 : Hid (OnF w (w4.alloc (.cells #[.int .i64 (k : Int), .int .i64 (y : Int)] 34)) 0 0 p ag az af cg cs cf) := HR4.out.1.below hA3
          have HQ3 : Hid ((w4.alloc (.cells #[.int .i64 (k : Int), .int .i64 (y : Int)] 34)).rowIs w4.heap.size 34 2 (plC (k : Int) (y : Int)) ∧ w.heap.size + 1 < w4.heap.size) := ⟨pl_box w4 _ _, HR4.out.1.rr.lt⟩
          clear hA3 HR4 HA HGA HGR
          go_upto_region 11 with (fail)
          generalize w4.alloc (.cells #[.int .i64 (k : Int), .int .i64 (y : Int)] 34) = wq at *
          generalize w4.heap.size = q at *
          have p0 : wq.cell? ⟨q, 0, none⟩ = some (.int .i64 (k : Int)) := HQ3.out.1.cell (i := 0) (by decide)
          have p1 : wq.cell? ⟨q, 1, none⟩ = some (.int .i64 (y : Int)) := HQ3.out.1.cell (i := 1) (by decide)
          have r0 : wq.cell? ⟨w.heap.size + 1, 0, none⟩ = some (.int .i64 0) := HF3.out.rr.cell (i := 0) (by decide)
          have r1 : wq.cell? ⟨w.heap.size + 1, 1, none⟩ = some (.int .i64 0) := HF3.out.rr.cell (i := 1) (by decide)
          have z0 : wq.frozen? ⟨w.heap.size + 1, 0, none⟩ = false := HF3.out.rr.frozen 0
          have z1 : wq.frozen? ⟨w.heap.size + 1, 1, none⟩ = false := HF3.out.rr.frozen 1
          have hne : ¬ q = w.heap.size + 1 := by have := HQ3.out.2; omega
          have HLW : Hid (Below w.heap.size w wq ∧ w.heap.size ≤ w.heap.size + 1) := ⟨HF3.out.q.low, by omega⟩
          clear HF3 HQ3
          generalize w.heap.size + 1 = g2 at *
          go_region_held3 (fun w' => w'.cell? ⟨q, 0, none⟩ = some (.int .i64 (k : Int)) ∧ w'.cell? ⟨q, 1, none⟩ = some (.int .i64 (y : Int))) (first | exact ⟨cell_farK (cell_farK p0 hne) hne, cell_farK (cell_farK p1 hne) hne⟩ | go_keep) (fail)
          all_goals
            go_wp2_with fail
            refine bodyPost_ret (v := .tuple #[.pointer none, .int .i64 s, .agg #[.int .i64 (k : Int), .int .i64 (y : Int)]]) (by simp [results, go_sem, r0, r1]) rfl ?_
            refine ⟨ver_any HV.out, ?_⟩
            first
              | exact below_two' HLW.out.1 HLW.out.2 _ _
              | exact (below_two' HLW.out.1 HLW.out.2 _ _).drew
      · obtain rfl : k = p.funcs.length := by omega
        have HV : Hid ((verE p).1 = 0) := by
          have h1 : verE p = (0, 0, 0) := verE_ok HPZ.out (fun m hm => (HA.out m hm).1)
          unfold Hid
          rw [h1]
        have r0 : wr.cell? ⟨w.heap.size + 1, 0, none⟩ = some (.int .i64 0) := HR.out.1.rr.cell (i := 0) (by decide)
        have r1 : wr.cell? ⟨w.heap.size + 1, 1, none⟩ = some (.int .i64 0) := HR.out.1.rr.cell (i := 1) (by decide)
        have z0 : wr.frozen? ⟨w.heap.size + 1, 0, none⟩ = false := HR.out.1.rr.frozen 0
        have z1 : wr.frozen? ⟨w.heap.size + 1, 1, none⟩ = false := HR.out.1.rr.frozen 1
        clear d0 d1 d2
        go_wp2_with fail
        refine bodyPost_ret (v := .tuple #[.pointer (some ⟨mo, 0, none⟩), .int .i64 0, .agg #[.int .i64 0, .int .i64 0]]) (by simp [results, go_sem, r0, r1]) rfl ?_
        refine ⟨Or.inr ⟨HV.out, HPZ.out, HA.out, mo, mb, n, rfl, ?_⟩, below_two' HR.out.1.q.low (by omega) _ _⟩
        exact mm_box HR.out.2.1 HR.out.1.rr (by have := HR.out.2.2.2; have := HMO.out; omega) (by have := HR.out.2.2.2; omega)
  · have HV : Hid (VerIs p (.returned (.tuple #[.pointer none, .int .i64 s, .agg #[.int .i64 (x : Int), .int .i64 (y : Int)]])) w) := Or.inl (by
      have h1 : verE p = progE p := verE_top (by rw [HPR.out]; exact h0)
      rw [h1, HPR.out]
      exact ⟨h0, rfl⟩)
    go_upto_region 3 with (fail)
    generalize w2.alloc (.cells #[.int .i64 (x : Int), .int .i64 (y : Int)] 34) = wq at *
    generalize w2.heap.size = q at *
    have p0 : wq.cell? ⟨q, 0, none⟩ = some (.int .i64 (x : Int)) := HQ3.out.1.cell (i := 0) (by decide)
    have p1 : wq.cell? ⟨q, 1, none⟩ = some (.int .i64 (y : Int)) := HQ3.out.1.cell (i := 1) (by decide)
    have r0 : wq.cell? ⟨w.heap.size + 1, 0, none⟩ = some (.int .i64 0) := HF3.out.rr.cell (i := 0) (by decide)
    have r1 : wq.cell? ⟨w.heap.size + 1, 1, none⟩ = some (.int .i64 0) := HF3.out.rr.cell (i := 1) (by decide)
    have z0 : wq.frozen? ⟨w.heap.size + 1, 0, none⟩ = false := HF3.out.rr.frozen 0
    have z1 : wq.frozen? ⟨w.heap.size + 1, 1, none⟩ = false := HF3.out.rr.frozen 1
    have hne : ¬ q = w.heap.size + 1 := by have := HQ3.out.2; omega
    have HLW : Hid (Below w.heap.size w wq ∧ w.heap.size ≤ w.heap.size + 1) := ⟨HF3.out.q.low, by omega⟩
    clear HF3 HQ3
    generalize w.heap.size + 1 = g2 at *
    go_region_held3 (fun w' => w'.cell? ⟨q, 0, none⟩ = some (.int .i64 (x : Int)) ∧ w'.cell? ⟨q, 1, none⟩ = some (.int .i64 (y : Int))) (first | exact ⟨cell_farK (cell_farK p0 hne) hne, cell_farK (cell_farK p1 hne) hne⟩ | go_keep) (fail)
    all_goals
      go_wp2_with fail
      refine bodyPost_ret (v := .tuple #[.pointer none, .int .i64 s, .agg #[.int .i64 (x : Int), .int .i64 (y : Int)]]) (by simp [results, go_sem, r0, r1]) rfl ?_
      refine ⟨ver_any HV.out, ?_⟩
      first
        | exact below_two' HLW.out.1 HLW.out.2 _ _
        | exact (below_two' HLW.out.1 HLW.out.2 _ _).drew
end Go.Proofs.Ytmjappcjfjajmaa

namespace Go.Proofs.Ytmjappcjfjajmaa
open Go.RowKit Go.Maps

def aFn : Fn := ⟨[], 0, 1, [], [⟨1, 0, 1, 0⟩, ⟨10, 0, 3, 0⟩, ⟨11, 0, 0, 0⟩, ⟨27, 0, 0, 0⟩]⟩
def aPg : Pg := ⟨[], [[1]], [aFn]⟩
theorem aPg_is : progE aPg = (0, 0, 0) := by decide +kernel
theorem aPg_ok : OkP aPg := ok_of (by rw [aPg_is])
theorem aPg_gd : Gd aPg := by
  refine ⟨⟨by decide, by decide, by decide, fun L hL => ?_, fun f hf => ?_⟩, ?_, by decide⟩
  · simp [aPg] at hL
    subst hL
    decide
  · simp [aPg] at hf
    subst hf
    exact ⟨by decide, by decide, by decide⟩
  · refine ⟨fun L hL => ?_, fun f hf => ?_⟩
    · simp [aPg] at hL
      subst hL
      intro n hn
      simp at hn
      subst hn
      decide
    · simp [aPg] at hf
      subst hf
      decide
def aX1 : Ks := cmK (begX aFn) 1 (behK aPg aFn ⟨1, 0, 1, 0⟩ [0])
def aX2 : Ks := cmK aX1 2 (behK aPg aFn ⟨10, 0, 3, 0⟩ [1])
def aX3 : Ks := cmK aX2 3 (behK aPg aFn ⟨10, 0, 3, 0⟩ [1])
def aX4 : Ks := cmK aX3 3 (behK aPg aFn ⟨11, 0, 0, 0⟩ [1])
theorem aGreat : Great aPg aFn aX4 := by
  have hm : aFn ∈ aPg.funcs := by simp [aPg]
  have h0 := fi_start aPg (f := aFn) (by decide +kernel)
  have h1 := (h0.pop (W := []) (pc := 0) (i := ⟨1, 0, 1, 0⟩) (K0 := [0]) aPg_ok hm rfl (by decide +kernel)).come (t := 1) (by decide +kernel) (by decide +kernel)
  have h2 : Fi aPg aFn aX1 [1] := h1.done rfl (by decide +kernel)
  have h3 := (h2.pop (W := []) (pc := 1) (i := ⟨10, 0, 3, 0⟩) (K0 := [1]) aPg_ok hm rfl (by decide +kernel)).come (t := 2) (by decide +kernel) (by decide +kernel)
  have h4 := Fj.come (X := aX2) h3 (t := 3) (by decide +kernel) (by decide +kernel)
  have h5 : Fi aPg aFn aX3 ([2] ++ [3]) := h4.done rfl (by decide +kernel)
  have h6 := h5.pop (W := [2]) (pc := 3) (i := ⟨27, 0, 0, 0⟩) (K0 := [1]) aPg_ok hm rfl (by decide +kernel)
  have h7 : Fi aPg aFn aX3 ([] ++ [2]) := h6.done rfl (by decide +kernel)
  have h8 := (h7.pop (W := []) (pc := 2) (i := ⟨11, 0, 0, 0⟩) (K0 := [1]) aPg_ok hm rfl (by decide +kernel)).come (t := 3) (by decide +kernel) (by decide +kernel)
  have h9 : Fi aPg aFn aX4 ([] ++ [3]) := h8.done rfl (by decide +kernel)
  have h10 := h9.pop (W := []) (pc := 3) (i := ⟨27, 0, 0, 0⟩) (K0 := [0]) aPg_ok hm rfl (by decide +kernel)
  have h11 : Fi aPg aFn aX4 [] := h10.done rfl (by decide +kernel)
  exact h11.great
theorem aGX : gX aPg 0 = aX4 := gX_is rfl aGreat
theorem aVer : verE aPg = (0, 0, 0) := by
  refine verE_ok (by rw [aPg_is]) fun j hj => ?_
  have e : j = 0 := by simp [aPg] at hj; omega
  subst e
  have h : flAt aPg 0 = flF aPg 0 aFn := rfl
  rw [h, flF_ok]
  · intro k hk
    unfold e1
    rw [aGX]
    have : k = 0 ∨ k = 1 ∨ k = 2 ∨ k = 3 := by simp [aFn] at hk; omega
    rcases this with rfl | rfl | rfl | rfl <;> decide +kernel
  · intro k hk
    unfold e2
    rw [aGX]
    have : k = 0 ∨ k = 1 ∨ k = 2 ∨ k = 3 := by simp [aFn] at hk; omega
    rcases this with rfl | rfl | rfl | rfl <;> decide +kernel
theorem aGP (s : Nat) : GP aPg 1 0 (s : Int) = aX4 s := by
  have := GP_at (p := aPg) (n := 1) (k := 0) (by decide) s
  rw [aGX] at this
  exact this

theorem al_pg {w w1 w2 w3 w4 w5 : World} {B : Nat} (hB : w.heap.size = B) (h1 : w.alloc (.cells #[.int .i64 1] 3) = w1) (h2 : w1.alloc (.cells #[.slice (some ⟨B, 0, none⟩) 1 1] 58) = w2)
    (h3 : w2.alloc (.cells #[.int .i64 1, .int .i64 0, .int .i64 1, .int .i64 0, .int .i64 10, .int .i64 0, .int .i64 3, .int .i64 0, .int .i64 11, .int .i64 0, .int .i64 0, .int .i64 0, .int .i64 27, .int .i64 0, .int .i64 0, .int .i64 0] 47) = w3)
    (h4 : w3.alloc (.cells #[.slice none 0 0, .int .i64 0, .int .i64 1, .slice none 0 0, .slice (some ⟨B + 2, 0, none⟩) 4 4] 41) = w4)
    (h5 : w4.alloc (.cells #[.slice none 0 0, .slice (some ⟨B + 1, 0, none⟩) 1 1, .slice (some ⟨B + 3, 0, none⟩) 1 1] 26) = w5) :
    PgV Any w5 (.slice none 0 0) (.slice (some ⟨B + 1, 0, none⟩) 1 1) (.slice (some ⟨B + 3, 0, none⟩) 1 1) aPg ∧ w5.rowIs (B + 4) 26 3 (pgC (.slice none 0 0) (.slice (some ⟨B + 1, 0, none⟩) 1 1) (.slice (some ⟨B + 3, 0, none⟩) 1 1)) ∧ Below w.heap.size w w5 ∧ w5.heap.size = B + 5 := by
  subst hB
  have s1 : w1.heap.size = w.heap.size + 1 := by rw [← h1]; simp
  have s2 : w2.heap.size = w.heap.size + 2 := by rw [← h2]; simp [s1]
  have s3 : w3.heap.size = w.heap.size + 3 := by rw [← h3]; simp [s2]
  have s4 : w4.heap.size = w.heap.size + 4 := by rw [← h4]; simp [s3]
  have s5 : w5.heap.size = w.heap.size + 5 := by rw [← h5]; simp [s4]
  have b1 : Below w.heap.size w w1 := h1 ▸ (Below.refl _ _).alloc (Nat.le_refl _) _
  have b2 : Below w1.heap.size w1 w2 := h2 ▸ (Below.refl _ _).alloc (Nat.le_refl _) _
  have b3 : Below w2.heap.size w2 w3 := h3 ▸ (Below.refl _ _).alloc (Nat.le_refl _) _
  have b4 : Below w3.heap.size w3 w4 := h4 ▸ (Below.refl _ _).alloc (Nat.le_refl _) _
  have b5 : Below w4.heap.size w4 w5 := h5 ▸ (Below.refl _ _).alloc (Nat.le_refl _) _
  have b45 : Below w3.heap.size w3 w5 := b4.trans (b5.mono (by omega))
  have b35 : Below w2.heap.size w2 w5 := b3.trans (b45.mono (by omega))
  have b25 : Below w1.heap.size w1 w5 := b2.trans (b35.mono (by omega))
  have c0 : w1.cell? ⟨w.heap.size, 0, none⟩ = some (.int .i64 1) := h1 ▸ cell_new w _ _ rfl
  have k0 := (b25.cell (p := ⟨w.heap.size, 0, none⟩) (by show w.heap.size < _; omega)).trans c0
  have c1 : w2.cell? ⟨w1.heap.size, 0, none⟩ = some (.slice (some ⟨w.heap.size, 0, none⟩) 1 1) := h2 ▸ cell_new w1 _ _ rfl
  rw [s1] at c1
  have k1 := (b35.cell (p := ⟨w.heap.size + 1, 0, none⟩) (by show w.heap.size + 1 < _; omega)).trans c1
  have kc : ∀ o v, (#[.int .i64 1, .int .i64 0, .int .i64 1, .int .i64 0, .int .i64 10, .int .i64 0, .int .i64 3, .int .i64 0, .int .i64 11, .int .i64 0, .int .i64 0, .int .i64 0, .int .i64 27, .int .i64 0, .int .i64 0, .int .i64 0] : Array Value)[o]? = some v → w5.cell? ⟨w.heap.size + 2, o, none⟩ = some v := fun o v hv => by
    have c2 : w3.cell? ⟨w2.heap.size, o, none⟩ = some v := h3 ▸ cell_new w2 _ _ hv
    rw [s2] at c2
    exact (b45.cell (p := ⟨w.heap.size + 2, o, none⟩) (by show w.heap.size + 2 < _; omega)).trans c2
  have t4 := fn_box w3 aFn none none (some ⟨w.heap.size + 2, 0, none⟩) 0 0 4
  have t4' : w4.rowIs w3.heap.size 41 5 _ := h4 ▸ t4
  rw [s3] at t4'
  have r4 := t4'.of_block (b5.block _ (by omega))
  have t5 := pg_box w4 0 1 1 none (some ⟨w.heap.size + 1, 0, none⟩) (some ⟨w.heap.size + 3, 0, none⟩) 0 1 1
  have t5' : w5.rowIs w4.heap.size 26 3 _ := h5 ▸ t5
  rw [s4] at t5'
  refine ⟨⟨srcP_nil _ _, Or.inr ⟨w.heap.size + 1, 0, 1, rfl, by omega, trivial, fun j L hj => ?_⟩, Or.inr ⟨w.heap.size + 3, 0, 1, rfl, by omega, trivial, fun j f hj => ?_⟩⟩, t5', b1.trans (b25.mono (by omega)), s5⟩
  · match j, hj with
    | 0, hj =>
      simp [aPg] at hj
      subst hj
      refine ⟨_, k1, Or.inr ⟨w.heap.size, 0, 1, rfl, trivial, by omega, fun j hj => ?_⟩⟩
      match j, hj with
      | 0, _ => exact k0
  · match j, hj with
    | 0, hj =>
      simp [aPg] at hj
      subst hj
      refine ⟨_, _, _, _, _, r4.cell (i := 0) (by decide), r4.cell (i := 1) (by decide), r4.cell (i := 2) (by decide), r4.cell (i := 3) (by decide), r4.cell (i := 4) (by decide), srcP_nil _ _, rfl, rfl, srcP_nil _ _, Or.inr ⟨w.heap.size + 2, 0, 4, rfl, trivial, by omega, fun j i hj => ?_⟩⟩
      match j, hj with
      | 0, hj => simp [aFn] at hj; subst hj; exact ⟨kc 0 _ rfl, kc 1 _ rfl, kc 2 _ rfl, kc 3 _ rfl⟩
      | 1, hj => simp [aFn] at hj; subst hj; exact ⟨kc 4 _ rfl, kc 5 _ rfl, kc 6 _ rfl, kc 7 _ rfl⟩
      | 2, hj => simp [aFn] at hj; subst hj; exact ⟨kc 8 _ rfl, kc 9 _ rfl, kc 10 _ rfl, kc 11 _ rfl⟩
      | 3, hj => simp [aFn] at hj; subst hj; exact ⟨kc 12 _ rfl, kc 13 _ rfl, kc 14 _ rfl, kc 15 _ rfl⟩

set_option maxRecDepth 100000 in
set_option maxHeartbeats 8000000 in
theorem alive_any (w : World) : Calls Try.prog 8 #[] w fun e w' => e = .returned (.bool true) ∧ Below w.heap.size w w' := by
  obtain ⟨w1, h1⟩ : ∃ w1, w.alloc (.cells #[.int .i64 1] 3) = w1 := ⟨_, rfl⟩
  obtain ⟨w2, h2⟩ : ∃ w2, w1.alloc (.cells #[.slice (some ⟨w.heap.size, 0, none⟩) 1 1] 58) = w2 := ⟨_, rfl⟩
  obtain ⟨w3, h3⟩ : ∃ w3, w2.alloc (.cells #[.int .i64 1, .int .i64 0, .int .i64 1, .int .i64 0, .int .i64 10, .int .i64 0, .int .i64 3, .int .i64 0, .int .i64 11, .int .i64 0, .int .i64 0, .int .i64 0, .int .i64 27, .int .i64 0, .int .i64 0, .int .i64 0] 47) = w3 := ⟨_, rfl⟩
  obtain ⟨w4, h4⟩ : ∃ w4, w3.alloc (.cells #[.slice none 0 0, .int .i64 0, .int .i64 1, .slice none 0 0, .slice (some ⟨w.heap.size + 2, 0, none⟩) 4 4] 41) = w4 := ⟨_, rfl⟩
  obtain ⟨w5, h5⟩ : ∃ w5, w4.alloc (.cells #[.slice none 0 0, .slice (some ⟨w.heap.size + 1, 0, none⟩) 1 1, .slice (some ⟨w.heap.size + 3, 0, none⟩) 1 1] 26) = w5 := ⟨_, rfl⟩
  have s1 : w1.heap.size = w.heap.size + 1 := by rw [← h1]; simp
  have s2 : w2.heap.size = w.heap.size + 2 := by rw [← h2]; simp [s1]
  have s3 : w3.heap.size = w.heap.size + 3 := by rw [← h3]; simp [s2]
  have s4 : w4.heap.size = w.heap.size + 4 := by rw [← h4]; simp [s3]
  have hal := al_pg rfl h1 h2 h3 h4 h5
  have HAl : Hid (PgV Any w5 (.slice none 0 0) (.slice (some ⟨w.heap.size + 1, 0, none⟩) 1 1) (.slice (some ⟨w.heap.size + 3, 0, none⟩) 1 1) aPg ∧ Below w.heap.size w w5) := ⟨hal.1, hal.2.2.1⟩
  have d0 : w5.cell? ⟨w.heap.size + 4, 0, none⟩ = some (.slice none 0 0) := hal.2.1.cell (i := 0) (by decide)
  have d1 : w5.cell? ⟨w.heap.size + 4, 1, none⟩ = some (.slice (some ⟨w.heap.size + 1, 0, none⟩) 1 1) := hal.2.1.cell (i := 1) (by decide)
  have d2 : w5.cell? ⟨w.heap.size + 4, 2, none⟩ = some (.slice (some ⟨w.heap.size + 3, 0, none⟩) 1 1) := hal.2.1.cell (i := 2) (by decide)
  clear hal
  go_enter Try.func8, Try.ntmps8
  go_wp2_with fail
  refine (flowProgram_any aPg none (some ⟨w.heap.size + 1, 0, none⟩) (some ⟨w.heap.size + 3, 0, none⟩) 0 1 1 aPg_gd _ HAl.out.1).mono ?_
  rintro e w6 ⟨he, hb⟩
  have HB6 : Hid (Below w.heap.size w w6) := HAl.out.2.trans (hb.mono HAl.out.2.size)
  rcases he with ⟨hne, _⟩ | ⟨_, _, _, mo, mb, n, rfl, hm⟩
  · rw [aVer] at hne
    exact absurd rfl hne
  · have hA7 : Below w6.heap.size w6 (w6.alloc (.cells #[.int .i64 0, .int .i64 0] 34)) := (Below.refl _ _).alloc (Nat.le_refl _) _
    have HM7 : Hid (MmAt (w6.alloc (.cells #[.int .i64 0, .int .i64 0] 34)) mo mb n (GP aPg 1) ∧ Below w.heap.size w (w6.alloc (.cells #[.int .i64 0, .int .i64 0] 34))) := ⟨hm.below hA7, HB6.out.trans (hA7.mono HB6.out.size)⟩
    clear hb hm hA7 HB6 d0 d1 d2 h1 h2 h3 h4 h5 s1 s2 s3 s4 HAl
    go_upto_region 3 with (fail)
    generalize w6.alloc (.cells #[.int .i64 0, .int .i64 0] 34) = w7 at *
    have HX : Hid (GP aPg 1 0 2 = some [1] ∧ GP aPg 1 0 3 = some [0] ∧ GP aPg 1 0 4 = none) := ⟨(aGP 2).trans (by decide +kernel), (aGP 3).trans (by decide +kernel), (aGP 4).trans (by decide +kernel)⟩
    have HI : Hid (I64 0 ∧ I64 2 ∧ I64 3 ∧ I64 4) := ⟨by unfold I64; omega, by unfold I64; omega, by unfold I64; omega, by unfold I64; omega⟩
    go_wp2_with fail
    refine (kinds_any HM7.out.1 HI.out.1 HI.out.2.1 (by rw [HX.out.1]; decide)).mono ?_
    rintro e w8 ⟨v8, rfl, ho8, hb8⟩
    rw [HX.out.1] at ho8
    have ho8' : w8.ownsRow w7.heap.size 3 1 v8 1 [.int .i64 1] := ho8
    obtain ⟨g8, c8, rfl, _, hg8⟩ := ho8'.form (by decide)
    have k8 : w8.cell? ⟨g8, 0, none⟩ = some (.int .i64 1) := ho8'.cellAt 0 (by decide)
    have HM8 : Hid (MmAt w8 mo mb n (GP aPg 1) ∧ Below w.heap.size w w8) := ⟨HM7.out.1.below hb8, HM7.out.2.trans (hb8.mono HM7.out.2.size)⟩
    clear ho8 ho8' hb8 HM7
    go_wp2_with fail
    refine (kinds_any HM8.out.1 HI.out.1 HI.out.2.2.1 (by rw [HX.out.2.1]; decide)).mono ?_
    rintro e w9 ⟨v9, rfl, ho9, hb9⟩
    rw [HX.out.2.1] at ho9
    have ho9' : w9.ownsRow w8.heap.size 3 1 v9 1 [.int .i64 0] := ho9
    obtain ⟨g9, c9, rfl, _, _⟩ := ho9'.form (by decide)
    have k9 : w9.cell? ⟨g9, 0, none⟩ = some (.int .i64 0) := ho9'.cellAt 0 (by decide)
    have k8' : w9.cell? ⟨g8, 0, none⟩ = some (.int .i64 1) := (hb9.cell (p := ⟨g8, 0, none⟩) hg8).trans k8
    have HM9 : Hid (MmAt w9 mo mb n (GP aPg 1) ∧ Below w.heap.size w w9) := ⟨HM8.out.1.below hb9, HM8.out.2.trans (hb9.mono HM8.out.2.size)⟩
    clear ho9 ho9' hb9 HM8 k8 hg8
    go_wp2_with fail
    refine (reached_any HM9.out.1 HI.out.1 HI.out.2.2.1 (b := true) (by rw [HX.out.2.1]; rfl)).mono ?_
    rintro e w10 ⟨rfl, hw10⟩
    subst hw10
    go_wp2_with fail
    refine (reached_any HM9.out.1 HI.out.1 HI.out.2.2.2 (b := false) (by rw [HX.out.2.2]; rfl)).mono ?_
    rintro e w11 ⟨rfl, hw11⟩
    subst hw11
    go_wp2_with fail
    go_ret
    exact ⟨rfl, HM9.out.2⟩

end Go.Proofs.Ytmjappcjfjajmaa

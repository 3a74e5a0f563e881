/- The walk of image's Copy. -/
import Derived.Test.YtkgicalkcbagaaaImO
import Derived.Test.YtkgicalkcbagaaaImM
namespace Go.Proofs.Ytkgicalkcbagaaa
open Go.RowKit

/-- A program all of whose lists lie in rows of their own, from B on. -/
structure PgO (w : World) (B : Nat) (vg vs vf : Value) (p : Pg) (Ss : List (List Int × Value)) (Fs : List FnV) : Prop where
  shs : p.shapes = Ss.map Prod.fst
  fns : p.funcs = Fs.map FnV.f
  glob : OwnI w B vg p.glob
  sh : w.ownsRow B 42 1 vs Ss.length (Ss.map Prod.snd)
  fn : w.ownsRow B 45 5 vf Fs.length (Fs.flatMap FnV.cs)
  es : ∀ q ∈ Ss, OwnI w B q.2 q.1
  ef : ∀ q ∈ Fs, FnO w B q
theorem PgO.pgV {w : World} {B : Nat} {vg vs vf : Value} {p : Pg} {Ss : List (List Int × Value)} {Fs : List FnV} (h : PgO w B vg vs vf p Ss Fs) : PgV (fun b => B ≤ b) w vg vs vf p := by
  have := pgV_rows h.glob h.sh h.fn h.es h.ef
  rw [← h.shs, ← h.fns] at this
  exact this

/-- In the midst of Copy: the box of what is copied, the result's box, the copy. -/
structure CyAt (w wk : World) (B x : Nat) (p0 p1 p2 : Value) (p : Pg) (vg vs vf : Value) (G : List Int) (Ss : List (List Int × Value)) (Fs : List FnV) : Prop where
  low : Below B w wk
  src : wk.rowIs B 26 3 (pgC p0 p1 p2)
  res : wk.rowIs (B + 1) 26 3 (pgC (.slice none 0 0) (.slice none 0 0) (.slice none 0 0))
  pg : PgV (fun b => b < B) wk p0 p1 p2 p
  pq : PqAt wk B x vg vs vf G Ss Fs
  ne : B ≠ x
  ne1 : B + 1 ≠ x
section
variable {w wk w2 : World} {B x : Nat} {p0 p1 p2 vg vs vf : Value} {p : Pg} {G : List Int} {Ss : List (List Int × Value)} {Fs : List FnV}
theorem CyAt.bw (h : CyAt w wk B x p0 p1 p2 p vg vs vf G Ss Fs) : B ≤ wk.heap.size := Nat.le_of_lt h.src.lt
theorem CyAt.below (h : CyAt w wk B x p0 p1 p2 p vg vs vf G Ss Fs) (hb : Below wk.heap.size wk w2) : CyAt w w2 B x p0 p1 p2 p vg vs vf G Ss Fs :=
  ⟨h.low.trans (hb.mono h.bw), h.src.of_block (hb.block _ h.src.lt), h.res.of_block (hb.block _ h.res.lt), h.pg.below hb, h.pq.below hb, h.ne, h.ne1⟩
theorem CyAt.drewN (h : CyAt w wk B x p0 p1 p2 p vg vs vf G Ss Fs) (n : Nat) : CyAt w (wk.drewN n) B x p0 p1 p2 p vg vs vf G Ss Fs := h.below (below_drewN (Below.refl _ _) n)
theorem CyAt.shape {w3 : World} {v v' : Value} {L : List Int} (h : CyAt w wk B x p0 p1 p2 p vg vs vf G Ss Fs) (hv : OwnI wk B v L)
    (ho : w3.ownsRow B 42 1 v' (Ss.length + 1) (Ss.map Prod.snd ++ [v])) (hg : wk.grownBy w3 vs.ownBlock) :
    CyAt w (w3.setCell ⟨x, 1, none⟩ v') B x p0 p1 p2 p vg v' vf G (Ss ++ [(L, v)]) Fs ∧ w3.rowIs x 26 3 (pgC vg vs vf) := by
  obtain ⟨h1, h2, h3, h4⟩ := h.pq.shape hv ho hg
  exact ⟨⟨h.low.trans (h2.below h.bw), h4 _ _ _ h.ne h.src, h4 _ _ _ h.ne1 h.res, h.pg.stay ⟨h2.size, fun b hb hP => h2.low b hb hP⟩, h1, h.ne, h.ne1⟩, h3⟩
theorem CyAt.func {w3 : World} {v' : Value} {f : FnV} (h : CyAt w wk B x p0 p1 p2 p vg vs vf G Ss Fs) (hv : FnO wk B f)
    (ho : w3.ownsRow B 45 5 v' (Fs.length + 1) (Fs.flatMap FnV.cs ++ f.cs)) (hg : wk.grownBy w3 vf.ownBlock) :
    CyAt w (w3.setCell ⟨x, 2, none⟩ v') B x p0 p1 p2 p vg vs v' G Ss (Fs ++ [f]) ∧ w3.rowIs x 26 3 (pgC vg vs vf) := by
  obtain ⟨h1, h2, h3, h4⟩ := h.pq.func hv ho hg
  exact ⟨⟨h.low.trans (h2.below h.bw), h4 _ _ _ h.ne h.src, h4 _ _ _ h.ne1 h.res, h.pg.stay ⟨h2.size, fun b hb hP => h2.low b hb hP⟩, h1, h.ne, h.ne1⟩, h3⟩
end

def ClR (w : World) (L : List Int) (v : Value) (w' : World) : Prop := OwnI w' w.heap.size v L ∧ Below w.heap.size w w'
theorem clone_call (L : List Int) (v : Value) (w : World) (hl : L.length ≤ 3000) (h : SrcAt w v L) :
    Calls Try.prog 32 #[v] w fun e w' => ∃ v', e = .returned v' ∧ ClR w L v' w' := clone_any L v w hl h
def CfR (w : World) (f : Fn) (v : Value) (w' : World) : Prop :=
  ∃ a0' c0' a3' c3' a4' c4', v = .agg #[.slice a0' f.args.length c0', .int .i64 f.res, .int .i64 f.slots, .slice a3' f.objs.length c3', .slice a4' f.code.length c4'] ∧ FnO w' w.heap.size ⟨f, .slice a0' f.args.length c0', .slice a3' f.objs.length c3', .slice a4' f.code.length c4'⟩ ∧ Below w.heap.size w w'
theorem copyF_call (f : Fn) (a0 a3 a4 : Option Addr) (c0 c3 c4 : Nat) (w : World) (hz : szF f ≤ 3000) (h : FnC Any w f (.slice a0 f.args.length c0) (.int .i64 f.res) (.int .i64 f.slots) (.slice a3 f.objs.length c3) (.slice a4 f.code.length c4)) :
    Calls Try.prog 33 #[.agg #[.slice a0 f.args.length c0, .int .i64 f.res, .int .i64 f.slots, .slice a3 f.objs.length c3, .slice a4 f.code.length c4]] w fun e w' => ∃ v, e = .returned v ∧ CfR w f v w' := copyF_any f a0 a3 a4 c0 c3 c4 w hz h
theorem run_clone (u : Value) (w : World) : (callFunc 32 #[u]).run Try.prog w = .ok (.enter 32 #[u]) w := by
  simp [go_sem]
theorem run_copyF (u : Value) (w : World) : (callFunc 33 #[u]).run Try.prog w = .ok (.enter 33 #[u]) w := by
  simp [go_sem]
theorem PgV.of_lt {P : Nat → Prop} {w : World} {v0 v1 v2 : Value} {p : Pg} (h : PgV P w v0 v1 v2 p) {B : Nat} (hB : w.heap.size = B) : PgV (fun b => b < B) w v0 v1 v2 p := h.mono (fun b hb _ => by rw [← hB]; exact hb)

set_option maxRecDepth 100000 in
set_option maxHeartbeats 4000000 in
theorem copy_any (p : Pg) (n0 n1 n2 : Nat) (ag az af : Option Addr) (cg cs cf : Nat) (w : World) (hz : szP p ≤ 3000) (hn : Hid (p.glob.length = n0 ∧ p.shapes.length = n1 ∧ p.funcs.length = n2)) (h : PgV Any w (.slice ag n0 cg) (.slice az n1 cs) (.slice af n2 cf) p) :
    Calls Try.prog 13 #[.agg #[.slice ag n0 cg, .slice az n1 cs, .slice af n2 cf]] w fun e w' => ∃ v, e = .returned v ∧ ∃ bg dg bs ds bf df Ss Fs, v = .agg #[.slice bg n0 dg, .slice bs n1 ds, .slice bf n2 df] ∧ PgO w' w.heap.size (.slice bg n0 dg) (.slice bs n1 ds) (.slice bf n2 df) p Ss Fs ∧ Below w.heap.size w w' := by
  obtain ⟨i0, hi, hz0, hz1, hz2⟩ := info_parts Try.info42
  obtain ⟨i1, hj0, hy0, hy1, hy2⟩ := info_parts Try.info45
  have hz' : p.glob.length + p.shapes.length + p.funcs.length + szS p.shapes + szFs p.funcs ≤ 3000 := hz
  have HZ : Hid (p.glob.length ≤ 3000 ∧ szS p.shapes ≤ 3000 ∧ szFs p.funcs ≤ 3000) := ⟨by omega, by omega, by omega⟩
  have hn1 : n1 ≤ 3000 := by have := hn.out; omega
  have hn2 : n2 ≤ 3000 := by have := hn.out; omega
  obtain ⟨B, hBw⟩ : ∃ B, w.heap.size = B := ⟨_, rfl⟩
  obtain ⟨wa, hwa⟩ : ∃ wa, (w.alloc (.cells #[.slice ag n0 cg, .slice az n1 cs, .slice af n2 cf] 26)).alloc (.cells #[.slice none 0 0, .slice none 0 0, .slice none 0 0] 26) = wa := ⟨_, rfl⟩
  have hA : Below w.heap.size w wa := hwa ▸ ((Below.refl _ _).alloc (Nat.le_refl _) _).alloc (by simp) _
  have hsrc : wa.rowIs B 26 3 (pgC (.slice ag n0 cg) (.slice az n1 cs) (.slice af n2 cf)) := by
    rw [← hBw]; exact hwa ▸ (pg_box w _ _ _ ag az af cg cs cf).alloc _
  have hres : wa.rowIs (B + 1) 26 3 (pgC (.slice none 0 0) (.slice none 0 0) (.slice none 0 0)) := by
    have := pg_box (w.alloc (.cells #[.slice ag n0 cg, .slice az n1 cs, .slice af n2 cf] 26)) 0 0 0 none none none 0 0 0
    rw [World.size_alloc, hBw] at this
    exact hwa ▸ this
  have HSrc : Hid (wa.rowIs B 26 3 (pgC (.slice ag n0 cg) (.slice az n1 cs) (.slice af n2 cf))) := hsrc
  have HRes : Hid (wa.rowIs (B + 1) 26 3 (pgC (.slice none 0 0) (.slice none 0 0) (.slice none 0 0))) := hres
  have HLow : Hid (Below B w wa) := hBw ▸ hA
  have HPg : Hid (PgV (fun b => b < B) wa (.slice ag n0 cg) (.slice az n1 cs) (.slice af n2 cf) p) := (h.of_lt hBw).below hA
  have d0 : wa.cell? ⟨B, 0, none⟩ = some (.slice ag n0 cg) := hsrc.cell (i := 0) (by decide)
  clear hsrc hres hA h hz hz'
  go_enter Try.func13, Try.ntmps13
  go_wp2_with fail
  refine (clone_any p.glob _ _ HZ.out.1 HPg.out.glob.at_).mono ?_
  rintro e w1 ⟨vg, rfl, ho, hb⟩
  obtain ⟨bg, dg, rfl⟩ := own4_len ho
  rw [hn.out.1]
  have hlwa := HRes.out.lt
  have HO1 : Hid (OwnI w1 B (.slice bg n0 dg) p.glob) := by rw [← hn.out.1]; exact own_base ho (by omega)
  have HSrc1 : Hid (w1.rowIs B 26 3 (pgC (.slice ag n0 cg) (.slice az n1 cs) (.slice af n2 cf))) := HSrc.out.of_block (hb.block _ HSrc.out.lt)
  have HRes1 : Hid (w1.rowIs (B + 1) 26 3 (pgC (.slice none 0 0) (.slice none 0 0) (.slice none 0 0))) := HRes.out.of_block (hb.block _ HRes.out.lt)
  have HLow1 : Hid (Below B w w1) := HLow.out.trans (hb.mono (by omega))
  have HPg1 : Hid (PgV (fun b => b < B) w1 (.slice ag n0 cg) (.slice az n1 cs) (.slice af n2 cf) p) := HPg.out.below hb
  clear ho hb HSrc HRes HLow HPg d0
  obtain ⟨x, hx⟩ : ∃ x, w1.heap.size = x := ⟨_, rfl⟩
  obtain ⟨wp, hwp⟩ : ∃ wp, w1.alloc (.cells #[.slice bg n0 dg, .slice none 0 0, .slice none 0 0] 26) = wp := ⟨_, rfl⟩
  have hPa : Below w1.heap.size w1 wp := hwp ▸ (Below.refl _ _).alloc (Nat.le_refl _) _
  have HC : Hid (CyAt w wp B x (.slice ag n0 cg) (.slice az n1 cs) (.slice af n2 cf) p (.slice bg n0 dg) (.slice none 0 0) (.slice none 0 0) p.glob [] []) := by
    have hBx : B + 1 < x := by rw [← hx]; exact HRes1.out.lt
    refine ⟨HLow1.out.trans (hPa.mono (by omega)), HSrc1.out.of_block (hPa.block _ HSrc1.out.lt), HRes1.out.of_block (hPa.block _ HRes1.out.lt), HPg1.out.below hPa, ⟨by omega, ?_, (Ty.of_below (K := []) (B := 0) hPa).own HO1.out (by simp), World.ownsRow_nil _ _ _ _, World.ownsRow_nil _ _ _ _, fun q hq => by simp at hq, fun q hq => by simp at hq⟩, by omega, by omega⟩
    rw [← hwp, ← hx]
    exact pg_box w1 n0 0 0 bg none none dg 0 0
  have e1 : wp.cell? ⟨B, 1, none⟩ = some (.slice az n1 cs) := HC.out.src.cell (i := 1) (by decide)
  clear HSrc1 HRes1 HLow1 HPg1 hPa HO1
  subst hwp
  go_wp2_with fail
  clear e1
  go_loopw [5, 15] (fun _ k wr => ∃ j : Nat, j ≤ n1 ∧ k = .int .i64 j ∧ Hid (∃ vs Ss, CyAt w wr B x (.slice ag n0 cg) (.slice az n1 cs) (.slice af n2 cf) p (.slice bg n0 dg) vs (.slice none 0 0) p.glob Ss [] ∧ Ss.length = j ∧ Ss.map Prod.fst = p.shapes.take j)) (fun _ k _ => n1 - (intOf k).toNat)
  case atStart => exact ⟨0, Nat.zero_le _, rfl, _, [], HC.out, rfl, by simp⟩
  case round =>
    obtain ⟨j, hj, rfl, HR⟩ := hrel
    clear HC
    by_cases hlt : j < n1
    · obtain ⟨vs, Ss, hC, hSs, hM⟩ := HR.out
      obtain ⟨_, _, bs, ds, _, _, -, rfl, -⟩ := hC.pq.lens
      obtain ⟨L, hL⟩ : ∃ L, p.shapes[j]? = some L := ⟨_, List.getElem?_eq_getElem (by have := hn.out; omega)⟩
      obtain ⟨b, off, v, rfl, hb, _, k0, hsx⟩ := hC.pg.shapes.some hL
      obtain ⟨la, lc, rfl⟩ := hsx.len
      obtain ⟨y, hy⟩ : ∃ y, wr.heap.size = y := ⟨_, rfl⟩
      obtain ⟨wc, hwc⟩ : ∃ wc, wr.alloc (.cells #[.slice la L.length lc] 42) = wc := ⟨_, rfl⟩
      have hAc : Below wr.heap.size wr wc := hwc ▸ (Below.refl _ _).alloc (Nat.le_refl _) _
      have kc : wc.cell? ⟨y, 0, none⟩ = some (.slice la L.length lc) := by rw [← hy]; exact hwc ▸ cell_new wr _ _ rfl
      have HC : Hid (CyAt w wc B x (.slice ag n0 cg) (.slice (some ⟨b, off, none⟩) n1 cs) (.slice af n2 cf) p (.slice bg n0 dg) (.slice bs Ss.length ds) (.slice none 0 0) p.glob Ss []) := hC.below hAc
      have HSX : Hid (SrcAt wc (.slice la L.length lc) L) := (hsx.stay (Stay.all hAc)).at_
      have HLL : Hid (L.length ≤ 3000) := by have := HZ.out; have := szS_mem hL; unfold Hid; omega
      have HSs : Hid (Ss.length = j) := hSs
      have HM : Hid (Ss.map Prod.fst ++ [L] = p.shapes.take (j + 1)) := by
        obtain ⟨h8, h9⟩ := List.getElem?_eq_some_iff.1 hL
        unfold Hid
        rw [hM, List.take_succ_eq_append_getElem h8, h9]
      have hltI : (j : Int) < (n1 : Int) := by omega
      clear hC hsx hSs hM hL HR hb hAc
      go_upto_region 5 with (fail)
      clear k0
      have hc1 : wc.cell? ⟨x, 1, none⟩ = some (.slice bs Ss.length ds) := HC.out.pq.c.2.1
      have hf1 : wc.frozen? ⟨x, 1, none⟩ = false := HC.out.pq.box.frozen 1
      have hxl := HC.out.pq.box.lt
      go_region_law (first
        | (refine step_call1 (by rfl) _ 32 _ (by rfl) _ (by rfl) _ (clone_call L _ _ HLL.out (by exact HSX.out)) (run_clone _ _) ?_; rintro v2 w2 ⟨g3, g5⟩; obtain ⟨a2, c2, rfl⟩ := own4_len g3; have HC2 : Hid (CyAt w w2 B x (.slice ag n0 cg) (.slice (some ⟨b, off, none⟩) n1 cs) (.slice af n2 cf) p (.slice bg n0 dg) (.slice bs Ss.length ds) (.slice none 0 0) p.glob Ss []) := (HC.out.drewN 1).below g5; have hc2 : w2.cell? ⟨x, 1, none⟩ = some (.slice bs Ss.length ds) := HC2.out.pq.c.2.1; have hf2 : w2.frozen? ⟨x, 1, none⟩ = false := HC2.out.pq.box.frozen 1; have hxl2 := HC2.out.pq.box.lt; have HO2 : Hid (OwnI w2 B (.slice a2 L.length c2) L) := own_base g3 HC.out.bw; clear g3 g5)
        | (refine step_append_lies _ (by rfl) _ _ 23 (by rfl) B 42 i0 (.agg #[.slice none 0 0]) 1 24 Try.underlying23 hi hz0 hz1 hz2 rfl (by decide) _ _ _ (by rfl) (HC2.out.pq.sh.alloc _) ⟨w2.heap.size, 0, none⟩ 1 1 [.slice a2 L.length c2] (by rfl) rfl (one_at w2 _ _) (slice_one _ _ _) (by decide) (by have := HSs.out; unfold maxLen; omega) (by have := HSs.out; omega) (by have := HC2.out.bw; simp; omega) (w2.heap.size + 1) (by simp) ?_; intro g3 cap3 w3 ho3 hg3 hat3 hlt3; have HA3 : Hid (CyAt w (w3.setCell ⟨x, 1, none⟩ (.slice (some ⟨g3, 0, none⟩) (Ss.length + 1) cap3)) B x (.slice ag n0 cg) (.slice (some ⟨b, off, none⟩) n1 cs) (.slice af n2 cf) p (.slice bg n0 dg) (.slice (some ⟨g3, 0, none⟩) (Ss.length + 1) cap3) (.slice none 0 0) p.glob (Ss ++ [(L, .slice a2 L.length c2)]) [] ∧ w3.rowIs x 26 3 (pgC (.slice bg n0 dg) (.slice bs Ss.length ds) (.slice none 0 0))) := (HC2.out.below ((Below.refl _ _).alloc (Nat.le_refl _) _)).shape (HO2.out.alloc _) ho3 hg3; have hc3 : w3.cell? ⟨x, 1, none⟩ = some (.slice bs Ss.length ds) := HA3.out.2.cell (i := 1) (by decide); have hf3 : w3.frozen? ⟨x, 1, none⟩ = false := HA3.out.2.frozen 1; have hxl3 := HA3.out.2.lt; clear ho3 hg3 hat3 hlt3))
      all_goals
        have HX : Hid (∃ vs' Ss', CyAt w (w3.setCell ⟨x, 1, none⟩ (.slice (some ⟨g3, 0, none⟩) (Ss.length + 1) cap3)) B x (.slice ag n0 cg) (.slice (some ⟨b, off, none⟩) n1 cs) (.slice af n2 cf) p (.slice bg n0 dg) vs' (.slice none 0 0) p.glob Ss' [] ∧ Ss'.length = j + 1 ∧ Ss'.map Prod.fst = p.shapes.take (j + 1)) :=
          ⟨_, Ss ++ [(L, .slice a2 L.length c2)], HA3.out.1, by rw [List.length_append, HSs.out]; rfl, by rw [List.map_append]; exact HM.out⟩
        clear HA3 HM HSs HC HC2 HO2 HSX HLL hc1 hf1 hxl hc2 hf2 hxl2 hc3 hf3 hxl3 kc
        go_wp2_with fail
        go_roundw
        case rel => exact ⟨j + 1, by omega, by go_num, HX⟩
        case measure => simp [intOf]; omega
    · have e : j = n1 := by omega
      subst e
      obtain ⟨vs, Ss, hC, hSs, hM⟩ := HR.out
      obtain ⟨_, _, bs, ds, _, _, -, rfl, -⟩ := hC.pq.lens
      have HSH : Hid (p.shapes = Ss.map Prod.fst) := by
        unfold Hid
        rw [hM, List.take_of_length_le (by have := hn.out; omega)]
      rw [hSs] at hC
      have HC : Hid (CyAt w wr B x (.slice ag n0 cg) (.slice az j cs) (.slice af n2 cf) p (.slice bg n0 dg) (.slice bs j ds) (.slice none 0 0) p.glob Ss []) := hC
      have e2 : wr.cell? ⟨B, 2, none⟩ = some (.slice af n2 cf) := hC.src.cell (i := 2) (by decide)
      have HSl : Hid (Ss.length = j) := hSs
      clear HR hC hSs hM
      go_wp2_with fail
      clear e2
      obtain ⟨wq, hwq⟩ : ∃ wq, wq = wr := ⟨_, rfl⟩
      subst hwq
      obtain ⟨n1, hn1j⟩ : ∃ n1, n1 = j := ⟨_, rfl⟩
      subst hn1j
      go_loopw [7, 32] (fun _ k wr => ∃ j : Nat, j ≤ n2 ∧ k = .int .i64 j ∧ Hid (∃ vf Fs, CyAt w wr B x (.slice ag n0 cg) (.slice az n1 cs) (.slice af n2 cf) p (.slice bg n0 dg) (.slice bs n1 ds) vf p.glob Ss Fs ∧ Fs.length = j ∧ Fs.map FnV.f = p.funcs.take j)) (fun _ k _ => n2 - (intOf k).toNat)
      case atStart => exact ⟨0, Nat.zero_le _, rfl, _, [], HC.out, rfl, by simp⟩
      case round =>
        obtain ⟨j, hj, rfl, HR⟩ := hrel
        clear HC
        by_cases hlt : j < n2
        · obtain ⟨vf, Fs, hC, hSs, hM⟩ := HR.out
          obtain ⟨_, _, _, _, bf, df, -, -, rfl⟩ := hC.pq.lens
          obtain ⟨f, hL⟩ : ∃ f, p.funcs[j]? = some f := ⟨_, List.getElem?_eq_getElem (by have := hn.out; omega)⟩
          obtain ⟨b, off, v0, v1, v2, v3, v4, rfl, hb, _, k0, k1, k2, k3, k4, hsx⟩ := hC.pg.funcs.some hL
          obtain ⟨fa0, fc0, fa3, fc3, fa4, fc4, rfl, rfl, rfl⟩ := hsx.lens
          obtain rfl := hsx.res
          obtain rfl := hsx.slots
          obtain ⟨y, hy⟩ : ∃ y, wr.heap.size = y := ⟨_, rfl⟩
          obtain ⟨wc, hwc⟩ : ∃ wc, wr.alloc (.cells #[.slice fa0 f.args.length fc0, .int .i64 f.res, .int .i64 f.slots, .slice fa3 f.objs.length fc3, .slice fa4 f.code.length fc4] 45) = wc := ⟨_, rfl⟩
          have hAc : Below wr.heap.size wr wc := hwc ▸ (Below.refl _ _).alloc (Nat.le_refl _) _
          have hkc : ∀ k v, (#[.slice fa0 f.args.length fc0, .int .i64 f.res, .int .i64 f.slots, .slice fa3 f.objs.length fc3, .slice fa4 f.code.length fc4] : Array Value)[k]? = some v → wc.cell? ⟨y, k, none⟩ = some v := fun k v hk => by rw [← hy]; exact hwc ▸ cell_new wr _ _ hk
          have m0 : wc.cell? ⟨y, 0, none⟩ = some (.slice fa0 f.args.length fc0) := hkc 0 _ rfl
          have m1 : wc.cell? ⟨y, 1, none⟩ = some (.int .i64 f.res) := hkc 1 _ rfl
          have m2 : wc.cell? ⟨y, 2, none⟩ = some (.int .i64 f.slots) := hkc 2 _ rfl
          have m3 : wc.cell? ⟨y, 3, none⟩ = some (.slice fa3 f.objs.length fc3) := hkc 3 _ rfl
          have m4 : wc.cell? ⟨y, 4, none⟩ = some (.slice fa4 f.code.length fc4) := hkc 4 _ rfl
          have HC : Hid (CyAt w wc B x (.slice ag n0 cg) (.slice az n1 cs) (.slice (some ⟨b, off, none⟩) n2 cf) p (.slice bg n0 dg) (.slice bs n1 ds) (.slice bf Fs.length df) p.glob Ss Fs) := hC.below hAc
          have HSX : Hid (FnC Any wc f (.slice fa0 f.args.length fc0) (.int .i64 f.res) (.int .i64 f.slots) (.slice fa3 f.objs.length fc3) (.slice fa4 f.code.length fc4)) := (hsx.stay (Stay.all hAc)).mono (fun _ _ _ => trivial)
          have HLL : Hid (szF f ≤ 3000) := by have := HZ.out; have := szFs_mem hL; unfold Hid; omega
          have HSs : Hid (Fs.length = j) := hSs
          have HM : Hid (Fs.map FnV.f ++ [f] = p.funcs.take (j + 1)) := by
            obtain ⟨h8, h9⟩ := List.getElem?_eq_some_iff.1 hL
            unfold Hid
            rw [hM, List.take_succ_eq_append_getElem h8, h9]
          have hltI : (j : Int) < (n2 : Int) := by omega
          clear hC hsx hSs hM hL HR hb hAc hkc
          go_upto_region 10 with (fail)
          clear k0 k1 k2 k3 k4
          have hc1 : wc.cell? ⟨x, 2, none⟩ = some (.slice bf Fs.length df) := HC.out.pq.c.2.2
          have hf1 : wc.frozen? ⟨x, 2, none⟩ = false := HC.out.pq.box.frozen 2
          have hxl := HC.out.pq.box.lt
          go_region_law (first
            | (refine step_call1 (by rfl) _ 33 _ (by rfl) _ (by rfl) _ (copyF_call f _ _ _ _ _ _ _ HLL.out (by exact HSX.out.below (below_drewN (Below.refl _ _) 1))) (run_copyF _ _) ?_; rintro v2 w2 ⟨a0, c0, a3, c3, a4, c4, rfl, g3, g5⟩; have HC2 : Hid (CyAt w w2 B x (.slice ag n0 cg) (.slice az n1 cs) (.slice (some ⟨b, off, none⟩) n2 cf) p (.slice bg n0 dg) (.slice bs n1 ds) (.slice bf Fs.length df) p.glob Ss Fs) := (HC.out.drewN 1).below g5; have hc2 : w2.cell? ⟨x, 2, none⟩ = some (.slice bf Fs.length df) := HC2.out.pq.c.2.2; have hf2 : w2.frozen? ⟨x, 2, none⟩ = false := HC2.out.pq.box.frozen 2; have hxl2 := HC2.out.pq.box.lt; have HO2 : Hid (FnO w2 B ⟨f, .slice a0 f.args.length c0, .slice a3 f.objs.length c3, .slice a4 f.code.length c4⟩) := g3.base HC.out.bw; clear g3 g5)
            | (refine step_append_lies _ (by rfl) _ _ 24 (by rfl) B 45 i1 (.agg #[.slice none 0 0, .int .i64 0, .int .i64 0, .slice none 0 0, .slice none 0 0]) 5 88 Try.underlying24 hj0 hy0 hy1 hy2 rfl (by decide) _ _ _ (by rfl) (HC2.out.pq.fn.alloc _) ⟨w2.heap.size, 0, none⟩ 1 1 [.slice a0 f.args.length c0, .int .i64 f.res, .int .i64 f.slots, .slice a3 f.objs.length c3, .slice a4 f.code.length c4] (by rfl) rfl (five_at w2 _ _ _ _ _ _) (five_one _ _ _ _ _ _ _ _ _ _ _) (by decide) (by have := HSs.out; unfold maxLen; omega) (by have := HSs.out; omega) (by have := HC2.out.bw; simp; omega) (w2.heap.size + 1) (by simp) ?_; intro g3 cap3 w3 ho3 hg3 hat3 hlt3; have HA3 : Hid (CyAt w (w3.setCell ⟨x, 2, none⟩ (.slice (some ⟨g3, 0, none⟩) (Fs.length + 1) cap3)) B x (.slice ag n0 cg) (.slice az n1 cs) (.slice (some ⟨b, off, none⟩) n2 cf) p (.slice bg n0 dg) (.slice bs n1 ds) (.slice (some ⟨g3, 0, none⟩) (Fs.length + 1) cap3) p.glob Ss (Fs ++ [⟨f, .slice a0 f.args.length c0, .slice a3 f.objs.length c3, .slice a4 f.code.length c4⟩]) ∧ w3.rowIs x 26 3 (pgC (.slice bg n0 dg) (.slice bs n1 ds) (.slice bf Fs.length df))) := (HC2.out.below ((Below.refl _ _).alloc (Nat.le_refl _) _)).func (HO2.out.ty (K := []) (B' := 0) (Ty.of_below ((Below.refl _ _).alloc (Nat.le_refl _) _)) (by simp) (by simp)) ho3 hg3; have hc3 : w3.cell? ⟨x, 2, none⟩ = some (.slice bf Fs.length df) := HA3.out.2.cell (i := 2) (by decide); have hf3 : w3.frozen? ⟨x, 2, none⟩ = false := HA3.out.2.frozen 2; have hxl3 := HA3.out.2.lt; clear ho3 hg3 hat3 hlt3))
          all_goals
            have HX : Hid (∃ vf' Fs', CyAt w (w3.setCell ⟨x, 2, none⟩ (.slice (some ⟨g3, 0, none⟩) (Fs.length + 1) cap3)) B x (.slice ag n0 cg) (.slice az n1 cs) (.slice (some ⟨b, off, none⟩) n2 cf) p (.slice bg n0 dg) (.slice bs n1 ds) vf' p.glob Ss Fs' ∧ Fs'.length = j + 1 ∧ Fs'.map FnV.f = p.funcs.take (j + 1)) :=
              ⟨_, Fs ++ [⟨f, .slice a0 f.args.length c0, .slice a3 f.objs.length c3, .slice a4 f.code.length c4⟩], HA3.out.1, by rw [List.length_append, HSs.out]; rfl, by rw [List.map_append]; exact HM.out⟩
            clear HA3 HM HSs HC HC2 HO2 HSX HLL hc1 hf1 hxl hc2 hf2 hxl2 hc3 hf3 hxl3 m0 m1 m2 m3 m4
            go_wp2_with fail
            go_roundw
            case rel => exact ⟨j + 1, by omega, by go_num, HX⟩
            case measure => simp [intOf]; omega
        · have e : j = n2 := by omega
          subst e
          obtain ⟨vf, Fs, hC, hSs, hM⟩ := HR.out
          obtain ⟨_, _, _, _, bf, df, -, -, rfl⟩ := hC.pq.lens
          rw [hSs] at hC
          have HFN : Hid (p.funcs = Fs.map FnV.f) := by
            unfold Hid
            rw [hM, List.take_of_length_le (by have := hn.out; omega)]
          have x0 : wr.cell? ⟨x, 0, none⟩ = some (.slice bg n0 dg) := hC.pq.c.1
          have x1 : wr.cell? ⟨x, 1, none⟩ = some (.slice bs n1 ds) := hC.pq.c.2.1
          have x2 : wr.cell? ⟨x, 2, none⟩ = some (.slice bf j df) := hC.pq.c.2.2
          have r0 : wr.cell? ⟨B + 1, 0, none⟩ = some (.slice none 0 0) := hC.res.cell (i := 0) (by decide)
          have r1 : wr.cell? ⟨B + 1, 1, none⟩ = some (.slice none 0 0) := hC.res.cell (i := 1) (by decide)
          have r2 : wr.cell? ⟨B + 1, 2, none⟩ = some (.slice none 0 0) := hC.res.cell (i := 2) (by decide)
          have f0 := hC.res.frozen 0
          have f1 := hC.res.frozen 1
          have f2 := hC.res.frozen 2
          have hbl := hC.res.lt
          have HX : Hid (∃ v, Ending.returned (.agg #[.slice bg n0 dg, .slice bs n1 ds, .slice bf j df]) = .returned v ∧ ∃ bg' dg' bs' ds' bf' df' Ss' Fs', v = .agg #[.slice bg' n0 dg', .slice bs' n1 ds', .slice bf' j df'] ∧ PgO (((wr.setCell ⟨B + 1, 0, none⟩ (.slice bg n0 dg)).setCell ⟨B + 1, 1, none⟩ (.slice bs n1 ds)).setCell ⟨B + 1, 2, none⟩ (.slice bf j df)) B (.slice bg' n0 dg') (.slice bs' n1 ds') (.slice bf' j df') p Ss' Fs' ∧
              Below B w (((wr.setCell ⟨B + 1, 0, none⟩ (.slice bg n0 dg)).setCell ⟨B + 1, 1, none⟩ (.slice bs n1 ds)).setCell ⟨B + 1, 2, none⟩ (.slice bf j df))) := by
            have hbut : But (B + 1) wr (((wr.setCell ⟨B + 1, 0, none⟩ (.slice bg n0 dg)).setCell ⟨B + 1, 1, none⟩ (.slice bs n1 ds)).setCell ⟨B + 1, 2, none⟩ (.slice bf j df)) := (((But.refl _ _).setCell 0 _).setCell 1 _).setCell 2 _
            have hty := Ty.of_but (B := B) hbut hC.res (by omega)
            have h1 := hC.pq.sh
            have h2 := hC.pq.fn
            refine ⟨_, rfl, bg, dg, bs, ds, bf, df, Ss, Fs, rfl, ⟨HSH.out, HFN.out, hty.own hC.pq.glob (by decide), hty.own h1 (by decide), hty.own h2 (by decide), fun q hq => hty.own (hC.pq.es q hq) (by decide), fun q hq => (hC.pq.ef q hq).ty hty (by decide) (by decide)⟩, hC.low.trans (hty.below (by omega))⟩
          clear hC HR hM hSs
          go_wp2_with fail
          refine bodyPost_ret (v := .agg #[.slice bg n0 dg, .slice bs n1 ds, .slice bf j df]) (by simp [results, go_sem, r0, r1, r2]) rfl ?_
          first | exact HX.out | (rw [hBw]; exact HX.out)

end Go.Proofs.Ytkgicalkcbagaaa

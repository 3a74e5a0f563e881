/- image's Same of programs; Read with its slices written out; alive. -/
import Derived.Test.YtkgicalkcbagaaaImL
import Derived.Test.YtkgicalkcbagaaaImI
namespace Go.Proofs.Ytkgicalkcbagaaa
open Go.RowKit

theorem pg_eq {p q : Pg} : p = q ↔ p.glob = q.glob ∧ p.shapes = q.shapes ∧ p.funcs = q.funcs := by
  obtain ⟨a, b, c⟩ := p
  obtain ⟨a', b', c'⟩ := q
  simp only [Pg.mk.injEq]
theorem pg_box (w : World) (n0 n1 n2 : Nat) (ag az af : Option Addr) (cg cs cf : Nat) : (w.alloc (.cells #[.slice ag n0 cg, .slice az n1 cs, .slice af n2 cf] 26)).rowIs w.heap.size 26 3 (pgC (.slice ag n0 cg) (.slice az n1 cs) (.slice af n2 cf)) :=
  World.rowIs_alloc w #[.slice ag n0 cg, .slice az n1 cs, .slice af n2 cf] 26 _ (fun k hk => by
    have : k = 0 ∨ k = 1 ∨ k = 2 := by simp at hk; omega
    rcases this with rfl | rfl | rfl <;> rfl)

/-- Two boxes of programs, and what they lead to. -/
structure TwP (w wk : World) (bp bq : Nat) (p q : Pg) (ag az af ag' az' af' : Option Addr) (cg cs cf cg' cs' cf' : Nat) : Prop where
  low : Below w.heap.size w wk
  bp : wk.rowIs bp 26 3 (pgC (.slice ag p.glob.length cg) (.slice az p.shapes.length cs) (.slice af p.funcs.length cf))
  bq : wk.rowIs bq 26 3 (pgC (.slice ag' q.glob.length cg') (.slice az' q.shapes.length cs') (.slice af' q.funcs.length cf'))
  pp : PgV Any wk (.slice ag p.glob.length cg) (.slice az p.shapes.length cs) (.slice af p.funcs.length cf) p
  pq : PgV Any wk (.slice ag' q.glob.length cg') (.slice az' q.shapes.length cs') (.slice af' q.funcs.length cf') q
theorem TwP.below {w wk w2 : World} {bp bq : Nat} {p q : Pg} {ag az af ag' az' af' : Option Addr} {cg cs cf cg' cs' cf' : Nat} (h : TwP w wk bp bq p q ag az af ag' az' af' cg cs cf cg' cs' cf') (hb : Below wk.heap.size wk w2) : TwP w w2 bp bq p q ag az af ag' az' af' cg cs cf cg' cs' cf' :=
  ⟨h.low.trans (hb.mono h.low.size), h.bp.of_block (hb.block _ h.bp.lt), h.bq.of_block (hb.block _ h.bq.lt), h.pp.below hb, h.pq.below hb⟩
theorem TwP.c {w wk : World} {bp bq : Nat} {p q : Pg} {ag az af ag' az' af' : Option Addr} {cg cs cf cg' cs' cf' : Nat} (h : TwP w wk bp bq p q ag az af ag' az' af' cg cs cf cg' cs' cf') :
    (wk.cell? ⟨bp, 0, none⟩ = some (.slice ag p.glob.length cg) ∧ wk.cell? ⟨bp, 1, none⟩ = some (.slice az p.shapes.length cs) ∧ wk.cell? ⟨bp, 2, none⟩ = some (.slice af p.funcs.length cf)) ∧
      wk.cell? ⟨bq, 0, none⟩ = some (.slice ag' q.glob.length cg') ∧ wk.cell? ⟨bq, 1, none⟩ = some (.slice az' q.shapes.length cs') ∧ wk.cell? ⟨bq, 2, none⟩ = some (.slice af' q.funcs.length cf') :=
  ⟨⟨h.bp.cell (i := 0) (by decide), h.bp.cell (i := 1) (by decide), h.bp.cell (i := 2) (by decide)⟩, h.bq.cell (i := 0) (by decide), h.bq.cell (i := 1) (by decide), h.bq.cell (i := 2) (by decide)⟩
theorem twP_start {w : World} {p q : Pg} {ag az af ag' az' af' : Option Addr} {cg cs cf cg' cs' cf' : Nat} (h1 : PgV Any w (.slice ag p.glob.length cg) (.slice az p.shapes.length cs) (.slice af p.funcs.length cf) p) (h2 : PgV Any w (.slice ag' q.glob.length cg') (.slice az' q.shapes.length cs') (.slice af' q.funcs.length cf') q) :
    TwP w ((w.alloc (.cells #[.slice ag p.glob.length cg, .slice az p.shapes.length cs, .slice af p.funcs.length cf] 26)).alloc (.cells #[.slice ag' q.glob.length cg', .slice az' q.shapes.length cs', .slice af' q.funcs.length cf'] 26)) w.heap.size (w.heap.size + 1) p q ag az af ag' az' af' cg cs cf cg' cs' cf' := by
  have hA : Below w.heap.size w ((w.alloc (.cells #[.slice ag p.glob.length cg, .slice az p.shapes.length cs, .slice af p.funcs.length cf] 26)).alloc (.cells #[.slice ag' q.glob.length cg', .slice az' q.shapes.length cs', .slice af' q.funcs.length cf'] 26)) := ((Below.refl _ _).alloc (Nat.le_refl _) _).alloc (by simp) _
  refine ⟨hA, (pg_box w _ _ _ ag az af cg cs cf).alloc _, ?_, h1.below hA, h2.below hA⟩
  have := pg_box (w.alloc (.cells #[.slice ag p.glob.length cg, .slice az p.shapes.length cs, .slice af p.funcs.length cf] 26)) q.glob.length q.shapes.length q.funcs.length ag' az' af' cg' cs' cf'
  rw [World.size_alloc] at this
  exact this

set_option maxHeartbeats 4000000 in
theorem imgSame_any (p q : Pg) (ag az af ag' az' af' : Option Addr) (cg cs cf cg' cs' cf' : Nat) (w : World) (hz : szP p ≤ 3000)
    (h1 : PgV Any w (.slice ag p.glob.length cg) (.slice az p.shapes.length cs) (.slice af p.funcs.length cf) p) (h2 : PgV Any w (.slice ag' q.glob.length cg') (.slice az' q.shapes.length cs') (.slice af' q.funcs.length cf') q) :
    Calls Try.prog 12 #[.agg #[.slice ag p.glob.length cg, .slice az p.shapes.length cs, .slice af p.funcs.length cf], .agg #[.slice ag' q.glob.length cg', .slice az' q.shapes.length cs', .slice af' q.funcs.length cf']] w fun e w' => BoolIs e (p = q) ∧ Below w.heap.size w w' := by
  have hz' : p.glob.length + p.shapes.length + p.funcs.length + szS p.shapes + szFs p.funcs ≤ 3000 := hz
  have HZ : Hid (p.glob.length ≤ maxLen ∧ p.shapes.length ≤ 3000 ∧ szS p.shapes ≤ 3000 ∧ p.funcs.length ≤ 3000 ∧ szFs p.funcs ≤ 3000) := ⟨maxlen_of (by omega), by omega, by omega, by omega, by omega⟩
  have hT := twP_start h1 h2
  obtain ⟨wa, hwa⟩ : ∃ wa, (w.alloc (.cells #[.slice ag p.glob.length cg, .slice az p.shapes.length cs, .slice af p.funcs.length cf] 26)).alloc (.cells #[.slice ag' q.glob.length cg', .slice az' q.shapes.length cs', .slice af' q.funcs.length cf'] 26) = wa := ⟨_, rfl⟩
  rw [hwa] at hT
  obtain ⟨bp, hbp⟩ : ∃ bp, w.heap.size = bp := ⟨_, rfl⟩
  have HT : Hid (TwP w wa bp (bp + 1) p q ag az af ag' az' af' cg cs cf cg' cs' cf') := by rw [hbp] at hT; exact hT
  have HE : Hid (p = q ↔ p.glob = q.glob ∧ p.shapes = q.shapes ∧ p.funcs = q.funcs) := pg_eq
  clear hz hz' hT h1 h2
  obtain ⟨⟨d0, d1, d2⟩, e0, e1, e2⟩ := HT.out.c
  clear d1 d2 e1 e2
  go_enter Try.func12, Try.ntmps12
  go_wp2_with fail
  refine (equal_any (s := decide (p.glob = q.glob)) rfl _ _ _ HZ.out.1 HT.out.pp.glob.at_ HT.out.pq.glob.at_).mono ?_
  rintro e w1 ⟨rfl, hq⟩
  have HT1 : Hid (TwP w w1 bp (bp + 1) p q ag az af ag' az' af' cg cs cf cg' cs' cf') := HT.out.below (below_q hq)
  clear hq d0 e0 HT
  cases ha : decide (p.glob = q.glob) with
  | false =>
    have HX : Hid (BoolIs (.returned (.bool false)) (p = q)) := boolIs ⟨fun h => (by cases h), fun h => absurd (HE.out.1 h).1 (by simpa using ha)⟩
    clear ha
    go_wp2_with fail
    go_ret
    exact ⟨HX.out, HT1.out.low⟩
  | true =>
    have Ha : Hid (p.glob = q.glob) := by unfold Hid; simpa using ha
    clear ha
    obtain ⟨⟨d0, d1, d2⟩, e0, e1, e2⟩ := HT1.out.c
    clear d0 d2 e0 e2
    go_wp2_with fail
    refine (eqShapes_any p.shapes q.shapes az az' cs cs' _ HZ.out.2.1 HZ.out.2.2.1 HT1.out.pp.shapes HT1.out.pq.shapes).mono ?_
    rintro e w2 ⟨⟨s, rfl, hs⟩, hb⟩
    have HT2 : Hid (TwP w w2 bp (bp + 1) p q ag az af ag' az' af' cg cs cf cg' cs' cf') := HT1.out.below hb
    have HS : Hid (s = true ↔ p.shapes = q.shapes) := hs
    clear hb hs d1 e1 HT1
    cases s with
    | false =>
      have HX : Hid (BoolIs (.returned (.bool false)) (p = q)) := boolIs ⟨fun h => (by cases h), fun h => (by have := HS.out.2 (HE.out.1 h).2.1; cases this)⟩
      clear HS
      go_wp2_with fail
      go_ret
      exact ⟨HX.out, HT2.out.low⟩
    | true =>
      have HSS : Hid (p.shapes = q.shapes) := HS.out.1 rfl
      clear HS
      obtain ⟨⟨d0, d1, d2⟩, e0, e1, e2⟩ := HT2.out.c
      clear d0 d1 e0 e1
      go_wp2_with fail
      refine (eqFuncs_any p.funcs q.funcs af af' cf cf' _ HZ.out.2.2.2.1 HZ.out.2.2.2.2 HT2.out.pp.funcs HT2.out.pq.funcs).mono ?_
      rintro e w3 ⟨⟨s, rfl, hs⟩, hb⟩
      have HT3 : Hid (TwP w w3 bp (bp + 1) p q ag az af ag' az' af' cg cs cf cg' cs' cf') := HT2.out.below hb
      have HX : Hid (BoolIs (.returned (.bool s)) (p = q)) := boolIs ⟨fun h => HE.out.2 ⟨Ha.out, HSS.out, hs.1 h⟩, fun h => hs.2 (HE.out.1 h).2.2⟩
      clear hb hs d2 e2 HT2 HSS Ha
      go_wp2_with fail
      go_ret
      exact ⟨HX.out, HT3.out.low⟩

theorem PgV.lens {P : Nat → Prop} {w : World} {vg vs vf : Value} {p : Pg} (h : PgV P w vg vs vf p) : ∃ ag cg az cs af cf, vg = .slice ag p.glob.length cg ∧ vs = .slice az p.shapes.length cs ∧ vf = .slice af p.funcs.length cf := by
  obtain ⟨ag, cg, eg⟩ := h.glob.len
  obtain ⟨az, cs, es⟩ := h.shapes.len
  obtain ⟨af, cf, ef⟩ := h.funcs.len
  exact ⟨ag, cg, az, cs, af, cf, eg, es, ef⟩
theorem readP_any {t : List Int} {s : ByteArray} (w : World) (hs : s = strOfNums t) (hb : Byt t) (ht : t.length ≤ 100000) {q : Pg} {k : Int} (hq : rdPQ t = q) (hk : rdPE t = k) :
    Calls Try.prog 9 #[.string s] w fun e w' => ∃ ag cg az cs af cf, e = .returned (.tuple #[.agg #[.slice ag q.glob.length cg, .slice az q.shapes.length cs, .slice af q.funcs.length cf], .int .i64 k]) ∧
      PgV (fun b => w.heap.size ≤ b) w' (.slice ag q.glob.length cg) (.slice az q.shapes.length cs) (.slice af q.funcs.length cf) q ∧ Below w.heap.size w w' := by
  refine (readP_core t s w hs hb ht).mono ?_
  rintro e w' ⟨vg, vs, vf, he, hp, hB⟩
  subst hq hk
  obtain ⟨ag, cg, az, cs, af, cf, rfl, rfl, rfl⟩ := hp.lens
  exact ⟨ag, cg, az, cs, af, cf, he, hp, hB⟩
theorem PgV.any {P : Nat → Prop} {w : World} {vg vs vf : Value} {p : Pg} (h : PgV P w vg vs vf p) : PgV Any w vg vs vf p := h.mono (fun _ _ _ => trivial)

/-! ### alive -/
def aPg : Pg := ⟨[], [], [⟨[], 0, 0, [], [⟨27, 0, 0, 0⟩]⟩]⟩
theorem aPg_ok : okP aPg = true := by decide +kernel
theorem aPg_lay : layPR aPg = ⟨#[0, 0, 1, 0, 0, 0, 0, 1, 27, 0, 0, 0, 0, 0, 0]⟩ := by decide +kernel
theorem aPg_layE : layPE aPg = 0 := by unfold layPE; rw [aPg_ok]; rfl
theorem layPR_ok {p : Pg} (h : okP p = true) : layPR p = strOfNums (lyP p) := if_pos h
theorem rdPQ_ly {p : Pg} (h : okP p = true) : rdPQ (lyP p) = p := by unfold rdPQ; rw [rdP_ly h]; rfl
theorem rdPE_ly {p : Pg} (h : okP p = true) : rdPE (lyP p) = 0 := by unfold rdPE; rw [rdP_ly h]; rfl

set_option maxRecDepth 100000 in
set_option maxHeartbeats 4000000 in
theorem alive_any (w : World) : Calls Try.prog 6 #[] w fun e w' => e = .returned (.bool true) ∧ Below w.heap.size w w' := by
  obtain ⟨B, hBw⟩ : ∃ B, w.heap.size = B := ⟨_, rfl⟩
  obtain ⟨wa, hwa⟩ : ∃ wa, ((w.alloc (.cells #[.int .i64 27, .int .i64 0, .int .i64 0, .int .i64 0] 47)).alloc (.cells #[.slice none 0 0, .int .i64 0, .int .i64 0, .slice none 0 0, .slice (some ⟨B, 0, none⟩) 1 1] 45)).alloc (.cells #[.slice none 0 0, .slice none 0 0, .slice (some ⟨B + 1, 0, none⟩) 1 1] 26) = wa := ⟨_, rfl⟩
  have hA : Below w.heap.size w wa := hwa ▸ (((Below.refl _ _).alloc (Nat.le_refl _) _).alloc (by simp) _).alloc (by simp; omega) _
  have hbox : wa.rowIs (B + 2) 26 3 (pgC (.slice none 0 0) (.slice none 0 0) (.slice (some ⟨B + 1, 0, none⟩) 1 1)) := by
    have := pg_box ((w.alloc (.cells #[.int .i64 27, .int .i64 0, .int .i64 0, .int .i64 0] 47)).alloc (.cells #[.slice none 0 0, .int .i64 0, .int .i64 0, .slice none 0 0, .slice (some ⟨B, 0, none⟩) 1 1] 45)) 0 0 1 none none (some ⟨B + 1, 0, none⟩) 0 0 1
    rw [World.size_alloc, World.size_alloc, hBw] at this
    exact hwa ▸ this
  have hcI : ∀ k v, (#[.int .i64 27, .int .i64 0, .int .i64 0, .int .i64 0] : Array Value)[k]? = some v → wa.cell? ⟨B, k, none⟩ = some v := fun k v hk => by
    have h1 := cell_new w #[.int .i64 27, .int .i64 0, .int .i64 0, .int .i64 0] 47 hk
    rw [hBw] at h1
    rw [← hwa, cell_old (by simp; omega), cell_old (by simp; omega)]
    exact h1
  have hcF : ∀ k v, (#[.slice none 0 0, .int .i64 0, .int .i64 0, .slice none 0 0, .slice (some ⟨B, 0, none⟩) 1 1] : Array Value)[k]? = some v → wa.cell? ⟨B + 1, k, none⟩ = some v := fun k v hk => by
    have h1 := cell_new (w.alloc (.cells #[.int .i64 27, .int .i64 0, .int .i64 0, .int .i64 0] 47)) #[.slice none 0 0, .int .i64 0, .int .i64 0, .slice none 0 0, .slice (some ⟨B, 0, none⟩) 1 1] 45 hk
    rw [World.size_alloc, hBw] at h1
    rw [← hwa, cell_old (by simp; omega)]
    exact h1
  have hsz : B + 1 < wa.heap.size := by rw [← hwa]; simp; omega
  have hP : PgV Any wa (.slice none 0 0) (.slice none 0 0) (.slice (some ⟨B + 1, 0, none⟩) 1 1) aPg := by
    refine ⟨srcP_nil _ _, Or.inl ⟨rfl, _, _, rfl⟩, Or.inr ⟨B + 1, 0, 1, rfl, hsz, trivial, fun j f hj => ?_⟩⟩
    match j, hj with
    | 0, hj =>
      simp [aPg] at hj
      subst hj
      refine ⟨_, _, _, _, _, hcF 0 _ rfl, hcF 1 _ rfl, hcF 2 _ rfl, hcF 3 _ rfl, hcF 4 _ rfl, srcP_nil _ _, rfl, rfl, srcP_nil _ _, Or.inr ⟨B, 0, 1, rfl, trivial, by omega, fun j i hj => ?_⟩⟩
      match j, hj with
      | 0, hj =>
        simp at hj
        subst hj
        exact ⟨hcI 0 _ rfl, hcI 1 _ rfl, hcI 2 _ rfl, hcI 3 _ rfl⟩
  have HP : Hid (PgV Any wa (.slice none 0 0) (.slice none 0 0) (.slice (some ⟨B + 1, 0, none⟩) 1 1) aPg) := hP
  have HA : Hid (Below B w wa) := hBw ▸ hA
  have HX : Hid (wa.rowIs (B + 2) 26 3 (pgC (.slice none 0 0) (.slice none 0 0) (.slice (some ⟨B + 1, 0, none⟩) 1 1))) := hbox
  have HSz : Hid (B + 2 < wa.heap.size) := hbox.lt
  clear hA hbox hcI hcF hsz hP
  subst hwa
  go_enter Try.func6, Try.ntmps6
  go_wp2_with fail
  refine (layP_any aPg none none (some ⟨B + 1, 0, none⟩) 0 0 1 _ HP.out (by decide +kernel)).mono ?_
  rintro e w2 ⟨rfl, hB2⟩
  rw [aPg_lay, aPg_layE]
  have HP2 : Hid (PgV Any w2 (.slice none 0 0) (.slice none 0 0) (.slice (some ⟨B + 1, 0, none⟩) 1 1) aPg) := HP.out.below hB2
  have HA2 : Hid (Below B w w2) := HA.out.trans (hB2.mono (by have := HSz.out; omega))
  have HX2 : Hid (w2.rowIs (B + 2) 26 3 (pgC (.slice none 0 0) (.slice none 0 0) (.slice (some ⟨B + 1, 0, none⟩) 1 1))) := HX.out.of_block (hB2.block _ HX.out.lt)
  clear hB2 HP HA HX HSz
  go_wp2_with fail
  refine (readP_any (t := lyP aPg) _ (by rw [← layPR_ok aPg_ok]; exact aPg_lay.symm) (lyP_byt aPg_ok) (by decide +kernel) (rdPQ_ly aPg_ok) (rdPE_ly aPg_ok)).mono ?_
  rintro e w3 ⟨ag, cg, az, cs, af, cf, rfl, hp, hB3⟩
  have HP3 : Hid (PgV Any w3 (.slice none 0 0) (.slice none 0 0) (.slice (some ⟨B + 1, 0, none⟩) 1 1) aPg) := HP2.out.below hB3
  have HQ3 : Hid (PgV Any w3 (.slice ag 0 cg) (.slice az 0 cs) (.slice af 1 cf) aPg) := hp.any
  have hlt2 := HX2.out.lt
  have HA3 : Hid (Below B w w3) := HA2.out.trans (hB3.mono (by omega))
  have HX3 : Hid (w3.rowIs (B + 2) 26 3 (pgC (.slice none 0 0) (.slice none 0 0) (.slice (some ⟨B + 1, 0, none⟩) 1 1))) := HX2.out.of_block (hB3.block _ HX2.out.lt)
  have e0 : aPg.glob.length = 0 := rfl
  have e1 : aPg.shapes.length = 0 := rfl
  have e2 : aPg.funcs.length = 1 := rfl
  rw [e0, e1, e2]
  obtain ⟨wb, hwb⟩ : ∃ wb, w3.alloc (.cells #[.slice ag 0 cg, .slice az 0 cs, .slice af 1 cf] 26) = wb := ⟨_, rfl⟩
  have hAb : Below w3.heap.size w3 wb := hwb ▸ (Below.refl _ _).alloc (Nat.le_refl _) _
  obtain ⟨x, hx⟩ : ∃ x, w3.heap.size = x := ⟨_, rfl⟩
  have hbx : wb.rowIs x 26 3 (pgC (.slice ag 0 cg) (.slice az 0 cs) (.slice af 1 cf)) := by rw [← hx]; exact hwb ▸ pg_box w3 0 0 1 ag az af cg cs cf
  have HP4 : Hid (PgV Any wb (.slice none 0 0) (.slice none 0 0) (.slice (some ⟨B + 1, 0, none⟩) 1 1) aPg) := HP3.out.below hAb
  have HQ4 : Hid (PgV Any wb (.slice ag 0 cg) (.slice az 0 cs) (.slice af 1 cf) aPg) := HQ3.out.below hAb
  have hlt3 := HX3.out.lt
  have HA4 : Hid (Below B w wb) := HA3.out.trans (hAb.mono (by omega))
  have hX4 := HX3.out.of_block (hAb.block _ HX3.out.lt)
  have c0 : wb.cell? ⟨B + 2, 0, none⟩ = some (.slice none 0 0) := hX4.cell (i := 0) (by decide)
  have c1 : wb.cell? ⟨B + 2, 1, none⟩ = some (.slice none 0 0) := hX4.cell (i := 1) (by decide)
  have c2 : wb.cell? ⟨B + 2, 2, none⟩ = some (.slice (some ⟨B + 1, 0, none⟩) 1 1) := hX4.cell (i := 2) (by decide)
  have d0 : wb.cell? ⟨x, 0, none⟩ = some (.slice ag 0 cg) := hbx.cell (i := 0) (by decide)
  have d1 : wb.cell? ⟨x, 1, none⟩ = some (.slice az 0 cs) := hbx.cell (i := 1) (by decide)
  have d2 : wb.cell? ⟨x, 2, none⟩ = some (.slice af 1 cf) := hbx.cell (i := 2) (by decide)
  have HBX : Hid (wb.rowIs x 26 3 (pgC (.slice ag 0 cg) (.slice az 0 cs) (.slice af 1 cf))) := hbx
  clear hB3 hp HP2 HA2 HX2 HP3 HQ3 HA3 HX3 hlt2 hlt3 hAb hbx hX4 e0 e1 e2
  subst hwb
  go_wp2_with fail
  refine (imgSame_any aPg aPg none none (some ⟨B + 1, 0, none⟩) ag az af 0 0 1 cg cs cf _ (by decide +kernel) HP4.out HQ4.out).mono ?_
  rintro e w5 ⟨⟨s, rfl, hs⟩, hB5⟩
  obtain rfl : s = true := hs.2 rfl
  have hl4 := HBX.out.lt
  have h5 := HBX.out.of_block (hB5.block _ HBX.out.lt)
  have d5 : w5.cell? ⟨x, 2, none⟩ = some (.slice af 1 cf) := h5.cell (i := 2) (by decide)
  have HA5 : Hid (Below B w w5) := HA4.out.trans (hB5.mono (by have := HA4.out.size; omega))
  clear hs hB5 h5 HA4 HP4 HQ4 HBX c0 c1 c2 d0 d1 d2 hl4
  go_wp2_with fail
  go_ret
  first | exact ⟨rfl, HA5.out⟩ | exact ⟨rfl, hBw ▸ HA5.out⟩

end Go.Proofs.Ytkgicalkcbagaaa

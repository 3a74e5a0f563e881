/- The walk of ImageCopies. -/
import Derived.Test.YtkgicalkcbagaaaImVa
import Derived.Deep.DeepCutAuto
namespace Go.Proofs.Ytkgicalkcbagaaa
open Go.RowKit

theorem low_of {ops : Array Oper} (h : ((List.range ops.size).all fun i => match ops[i]? with | some o => o.after.toList.all (fun e => decide (e.on < i)) | none => true) = true) : ∀ (i : Nat) (o : Oper), ops[i]? = some o → ∀ e ∈ o.after, e.on < i := by
  intro i o ho e he
  have hi : i < ops.size := (Array.getElem?_eq_some_iff.1 ho).1
  have h1 := List.all_eq_true.1 h i (List.mem_range.2 hi)
  simp only [ho] at h1
  exact of_decide_eq_true (List.all_eq_true.1 h1 e he.val)

set_option maxRecDepth 100000 in
set_option maxHeartbeats 8000000 in
theorem copies_late (p : Pg) (n0 n1 n2 : Nat) (ag az af : Option Addr) (cg cs cf : Nat) (w : World) (hlp : Len p) (hsp : Hid (decide (szP p ≤ 3000) = true)) (hn : Hid (p.glob.length = n0 ∧ p.shapes.length = n1 ∧ p.funcs.length = n2))
    (h1 : PgV Any w (.slice ag n0 cg) (.slice az n1 cs) (.slice af n2 cf) p) :
    Calls Try.prog 4 #[.agg #[.slice ag n0 cg, .slice az n1 cs, .slice af n2 cf]] w fun e w' => e = .returned (.bool true) ∧ Below w.heap.size w w' := by
  have HZP : Hid (szP p ≤ 3000) := by unfold Hid; exact of_decide_eq_true hsp.out
  have hz' : p.glob.length + p.shapes.length + p.funcs.length + szS p.shapes + szFs p.funcs ≤ 3000 := HZP.out
  have hn0 : n0 ≤ 3000 := by have := hn.out; omega
  have hn1 : n1 ≤ 3000 := by have := hn.out; omega
  have hn2 : n2 ≤ 3000 := by have := hn.out; omega
  clear hz'
  obtain ⟨B, hBw⟩ : ∃ B, w.heap.size = B := ⟨_, rfl⟩
  obtain ⟨wa, hwa⟩ : ∃ wa, w.alloc (.cells #[.slice ag n0 cg, .slice az n1 cs, .slice af n2 cf] 26) = wa := ⟨_, rfl⟩
  have hA : Below w.heap.size w wa := hwa ▸ (Below.refl _ _).alloc (Nat.le_refl _) _
  have HBx : Hid (wa.rowIs B 26 3 (pgC (.slice ag n0 cg) (.slice az n1 cs) (.slice af n2 cf))) := by unfold Hid; rw [← hBw]; exact hwa ▸ pg_box w _ _ _ ag az af cg cs cf
  have HPg : Hid (PgV (fun b => b < B) wa (.slice ag n0 cg) (.slice az n1 cs) (.slice af n2 cf) p) := (h1.of_lt hBw).below hA
  have HLow : Hid (Below B w wa) := hBw ▸ hA
  have HLP : Hid (Len p) := hlp
  have d0 : wa.cell? ⟨B, 0, none⟩ = some (.slice ag n0 cg) := HBx.out.cell (i := 0) (by decide)
  have d1 : wa.cell? ⟨B, 1, none⟩ = some (.slice az n1 cs) := HBx.out.cell (i := 1) (by decide)
  have d2 : wa.cell? ⟨B, 2, none⟩ = some (.slice af n2 cf) := HBx.out.cell (i := 2) (by decide)
  have HSm : Hid (Calls Try.prog 5 #[.agg #[.slice ag n0 cg, .slice az n1 cs, .slice af n2 cf]] wa fun e w' => e = .returned (.bool true) ∧ Below wa.heap.size wa w') := by
    unfold Hid
    have hp := HPg.out.any
    obtain ⟨e0, e1, e2⟩ := hn.out
    rw [← e0, ← e1, ← e2] at hp ⊢
    exact smallN hlp ag az af cg cs cf wa hsp hp
  clear hA h1 hlp
  go_enter Try.func4, Try.ntmps4
  go_wp2_with fail
  refine HSm.out.mono ?_
  rintro e w1 ⟨rfl, hb⟩
  have hwl := HBx.out.lt
  have HBx1 : Hid (w1.rowIs B 26 3 (pgC (.slice ag n0 cg) (.slice az n1 cs) (.slice af n2 cf))) := HBx.out.of_block (hb.block _ HBx.out.lt)
  have HPg1 : Hid (PgV (fun b => b < B) w1 (.slice ag n0 cg) (.slice az n1 cs) (.slice af n2 cf) p) := HPg.out.below hb
  have HLow1 : Hid (Below B w w1) := HLow.out.trans (hb.mono (by omega))
  clear hb HSm HBx HPg HLow d0 d1 d2 hwl
  go_wp2_with fail
  refine (alive_any _).mono ?_
  rintro e w2 ⟨rfl, hb⟩
  have hwl := HBx1.out.lt
  have HBx2 : Hid (w2.rowIs B 26 3 (pgC (.slice ag n0 cg) (.slice az n1 cs) (.slice af n2 cf))) := HBx1.out.of_block (hb.block _ HBx1.out.lt)
  have HPg2 : Hid (PgV (fun b => b < B) w2 (.slice ag n0 cg) (.slice az n1 cs) (.slice af n2 cf) p) := HPg1.out.below hb
  have HLow2 : Hid (Below B w w2) := HLow1.out.trans (hb.mono (by omega))
  clear hb HBx1 HPg1 HLow1 hwl
  go_upto_region 3 with (fail)
  go_cut [3, 4] (fun v3 v4 wk => ∃ bp xa xb M bg dg bs ds bf df qg eg qs es qf ef, bp = B ∧ v3 = .pointer (some ⟨xa, 0, none⟩) ∧ v4 = .pointer (some ⟨xb, 0, none⟩) ∧ Hid (CsAt w wk B M bp xa xb p (.slice ag n0 cg) (.slice az n1 cs) (.slice af n2 cf) (.slice bg n0 dg) (.slice bs n1 ds) (.slice bf n2 df) (.slice qg n0 eg) (.slice qs n1 es) (.slice qf n2 ef) n0 n1 n2 0) ∧ Hid (PgV Any wk (.slice qg n0 eg) (.slice qs n1 es) (.slice qf n2 ef) p))
  case first => 
    have HP2 : PreAt w w2 B (.slice ag n0 cg) (.slice az n1 cs) (.slice af n2 cf) p := ⟨HLow2.out, HBx2.out, HPg2.out⟩
    refine copies_region rfl ⟨rfl, rfl, rfl⟩ ⟨rfl, rfl, rfl, by simp⟩ ⟨rfl, rfl, rfl⟩ ⟨rfl, rfl, rfl, by simp, by simp⟩ ⟨rfl, rfl, rfl⟩ ⟨rfl, rfl, rfl⟩ ⟨rfl, rfl, rfl, by simp, by simp⟩ ⟨rfl, rfl, rfl, by simp, by simp⟩ (low_of (by kernel_rfl)) (by kernel_rfl) (by simp) rfl HZP.out hn HP2 ?_
    clear HP2 HBx2 HPg2 HLow2
    intro wk xa xb M bg dg bs ds bf df qg eg qs es qf ef x21 x22 x23 x24 hcs hpg
    simp only [fr]
    go_wp2_with fail
    go_meet
    case rel => exact ⟨B, xa, xb, M, bg, dg, bs, ds, bf, df, qg, eg, qs, es, qf, ef, rfl, rfl, rfl, hcs, hpg⟩

  case rest =>
    obtain ⟨bp, xa, xb, M, bg, dg, bs, ds, bf, df, qg, eg, qs, es, qf, ef, hbp, rfl, rfl, HC, HA⟩ := hcut
    have hbp' : Hid (bp = B) := hbp
    clear hbp HBx2 HPg2 HLow2
    obtain ⟨wv, hwv⟩ : ∃ wv, wv = wc := ⟨_, rfl⟩
    subst hwv
    obtain ⟨⟨x0, x1, x2⟩, ⟨y0, y1, y2⟩, z0, z1, z2⟩ := HC.out.c
    rw [hbp'.out] at y0 y1 y2
    go_wp2_with fail
    refine (refSame_true hn HZP.out qg qs qf ag az af eg es ef cg cs cf _ HA.out HC.out.pg.any).mono ?_
    rintro e w3 ⟨rfl, hb⟩
    have HC3 : Hid (CsAt w w3 B M bp xa xb p (.slice ag n0 cg) (.slice az n1 cs) (.slice af n2 cf) (.slice bg n0 dg) (.slice bs n1 ds) (.slice bf n2 df) (.slice qg n0 eg) (.slice qs n1 es) (.slice qf n2 ef) n0 n1 n2 0) := HC.out.below hb
    clear hb HC HA x0 x1 x2 y0 y1 y2 z0 z1 z2
    obtain ⟨⟨x0, x1, x2⟩, ⟨y0, y1, y2⟩, z0, z1, z2⟩ := HC3.out.c
    rw [hbp'.out] at y0 y1 y2
    go_wp2_with fail
    refine (refSame_true hn HZP.out bg bs bf ag az af dg ds df cg cs cf _ HC3.out.bg.any HC3.out.pg.any).mono ?_
    rintro e w4 ⟨rfl, hb⟩
    have HC4 : Hid (CsAt w w4 B M bp xa xb p (.slice ag n0 cg) (.slice az n1 cs) (.slice af n2 cf) (.slice bg n0 dg) (.slice bs n1 ds) (.slice bf n2 df) (.slice qg n0 eg) (.slice qs n1 es) (.slice qf n2 ef) n0 n1 n2 0) := HC3.out.below hb
    clear hb HC3 x0 x1 x2 y0 y1 y2 z0 z1 z2
    go_wp2_with fail
    go_loopw [5] (fun i wr => ∃ j : Nat, j ≤ n0 ∧ i = .int .i64 j ∧ Hid (CsAt w wr B M bp xa xb p (.slice ag n0 cg) (.slice az n1 cs) (.slice af n2 cf) (.slice bg n0 dg) (.slice bs n1 ds) (.slice bf n2 df) (.slice qg n0 eg) (.slice qs n1 es) (.slice qf n2 ef) n0 n1 n2 0)) (fun i _ => n0 - (intOf i).toNat)
    case atStart => exact ⟨0, Nat.zero_le _, rfl, HC4⟩
    case round =>
      obtain ⟨j, hj, rfl, HR⟩ := hrel
      clear HC4
      obtain ⟨⟨x0, x1, x2⟩, _, _, _, _⟩ := HR.out.c
      clear x1 x2
      by_cases hlt : j < n0
      · obtain ⟨g, N, f, rfl, _, hQ, hrow, hN⟩ := HR.out.gl.some hlt
        have k0 := hrow.cell (i := j) (by omega)
        have f0 := hrow.frozen j
        have hgl := hrow.lt
        have hltI : (j : Int) < (n0 : Int) := by omega
        have HC5 : Hid (CsAt w (wr.setCell ⟨g, j, none⟩ (.int .i64 (-5))) B M bp xa xb p (.slice ag n0 cg) (.slice az n1 cs) (.slice af n2 cf) (.slice bg n0 dg) (.slice bs n1 ds) (.slice bf n2 df) (.slice (some ⟨g, 0, none⟩) n0 eg) (.slice qs n1 es) (.slice qf n2 ef) n0 n1 n2 0) := HR.out.set hrow hQ (by decide) (by decide) (by decide) j _
        clear hrow HR
        generalize f j = fj at *
        go_wp2_with fail
        go_roundw
        case rel => exact ⟨j + 1, by omega, by go_num, HC5⟩
        case measure => simp [intOf]; omega
      · go_wp2_with fail
        clear x0
        obtain ⟨wq, hwq⟩ : ∃ wq, wq = wr := ⟨_, rfl⟩
        subst hwq
        go_loopw [6, 7] (fun i _ wr => ∃ k : Nat, k ≤ n1 ∧ i = .int .i64 k ∧ Hid (CsAt w wr B M bp xa xb p (.slice ag n0 cg) (.slice az n1 cs) (.slice af n2 cf) (.slice bg n0 dg) (.slice bs n1 ds) (.slice bf n2 df) (.slice qg n0 eg) (.slice qs n1 es) (.slice qf n2 ef) n0 n1 n2 k)) (fun i _ _ => n1 - (intOf i).toNat)
        case atStart => exact ⟨0, Nat.zero_le _, rfl, HR⟩
        case round =>
          obtain ⟨k, hk, rfl, HR⟩ := hrel
          obtain ⟨⟨x0, x1, x2⟩, _, _, _, _⟩ := HR.out.c
          clear x0 x2
          by_cases hlt : k < n1
          · obtain ⟨g, N, f, rfl, hQ, hrow, hN, hf⟩ := HR.out.sh.some hlt
            obtain ⟨m, hm, hfk⟩ := hf k (Nat.le_refl _) hlt
            obtain ⟨fa, fc, hfe⟩ := hfk.len
            rw [hfe] at hfk
            have hltI : (k : Int) < (n1 : Int) := by omega
            have k1 : wr.cell? ⟨g, k, none⟩ = some (.slice fa m fc) := by rw [← hfe]; exact hrow.cell (i := k) (by omega)
            have HI : Hid (wr.rowIs g 42 N f ∧ RwT (fun b => B ≤ b ∧ b < M) wr 3 1 (.slice fa m fc) m) := ⟨hrow, hfk⟩
            have HG : Hid (N ≥ n1 ∧ (B ≤ g ∧ g < M) ∧ f k = .slice fa m fc) := ⟨hN, hQ, hfe⟩
            clear hrow hfk hf hfe hQ hN
            go_wp2_with fail
            clear k1 x1
            obtain ⟨wq, hwq⟩ : ∃ wq, wq = wr := ⟨_, rfl⟩
            subst hwq
            go_loopw [7] (fun i wi => ∃ l : Nat, l ≤ m ∧ i = .int .i64 l ∧ Hid (CsAt w wi B M bp xa xb p (.slice ag n0 cg) (.slice az n1 cs) (.slice af n2 cf) (.slice bg n0 dg) (.slice bs n1 ds) (.slice bf n2 df) (.slice qg n0 eg) (.slice (some ⟨g, 0, none⟩) n1 es) (.slice qf n2 ef) n0 n1 n2 k) ∧ Hid (wi.rowIs g 42 N f ∧ RwT (fun b => B ≤ b ∧ b < M) wi 3 1 (.slice fa m fc) m)) (fun i _ => m - (intOf i).toNat)
            case atStart => exact ⟨0, Nat.zero_le _, rfl, HR, HI⟩
            case round =>
              obtain ⟨l, hl, rfl, HRi, HIi⟩ := hrel
              clear HR HI
              obtain ⟨⟨x0, x1, x2⟩, _, _, _, _⟩ := HRi.out.c
              clear x0 x2
              have k1 : wr.cell? ⟨g, k, none⟩ = some (.slice fa m fc) := by rw [← HG.out.2.2]; exact HIi.out.1.cell (i := k) (by have := HG.out.1; omega)
              by_cases hlm : l < m
              · obtain ⟨g2, N2, f2, rfl, _, hQ2, hrow2, hN2⟩ := HIi.out.2.some hlm
                have k2 := hrow2.cell (i := l) (by omega)
                have fz := hrow2.frozen l
                have hgl := hrow2.lt
                have hlI : (l : Int) < (m : Int) := by omega
                have hne : g ≠ g2 := fun e1 => absurd (row_type HIi.out.1 (e1 ▸ hrow2)) (by decide)
                have HC5 : Hid (CsAt w (wr.setCell ⟨g2, l, none⟩ (.int .i64 (-5))) B M bp xa xb p (.slice ag n0 cg) (.slice az n1 cs) (.slice af n2 cf) (.slice bg n0 dg) (.slice bs n1 ds) (.slice bf n2 df) (.slice qg n0 eg) (.slice (some ⟨g, 0, none⟩) n1 es) (.slice qf n2 ef) n0 n1 n2 k) := HRi.out.set hrow2 hQ2 (by decide) (by decide) (by decide) l _
                have HI5 : Hid ((wr.setCell ⟨g2, l, none⟩ (.int .i64 (-5))).rowIs g 42 N f ∧ RwT (fun b => B ≤ b ∧ b < M) (wr.setCell ⟨g2, l, none⟩ (.int .i64 (-5))) 3 1 (.slice (some ⟨g2, 0, none⟩) m fc) m) := ⟨((But.refl g2 wr).setCell l _).row HIi.out.1 hne, HIi.out.2.set g2 l _⟩
                clear hrow2 HRi HIi
                generalize f2 l = fj at *
                go_wp2_with fail
                go_roundw
                case rel => exact ⟨l + 1, by omega, by go_num, HC5, HI5⟩
                case measure => simp [intOf]; omega
              · have fz := HIi.out.1.frozen k
                have hgl := HIi.out.1.lt
                have HC6 : Hid (CsAt w (wr.setCell ⟨g, k, none⟩ (.slice none 0 0)) B M bp xa xb p (.slice ag n0 cg) (.slice az n1 cs) (.slice af n2 cf) (.slice bg n0 dg) (.slice bs n1 ds) (.slice bf n2 df) (.slice qg n0 eg) (.slice (some ⟨g, 0, none⟩) n1 es) (.slice qf n2 ef) n0 n1 n2 (k + 1)) := by
                  refine HRi.out.setX HIi.out.1 HG.out.2.1 (by decide) k _ ?_ (HRi.out.fn.set HIi.out.1 (by decide) k _)
                  rcases HRi.out.sh with h | ⟨g', c', N', f', h1, h2, h3, h4, h5⟩
                  · omega
                  · cases h1
                    obtain ⟨f9, h6, h7⟩ := row_set h3 g k (.slice none 0 0)
                    refine Or.inr ⟨g, _, N', f9, rfl, h2, h6, h4, fun j hj hjn => ?_⟩
                    obtain ⟨m9, h8, h9⟩ := h5 j (by omega) hjn
                    rw [h7 j (Or.inr (by omega))]
                    exact ⟨m9, h8, h9.set g k _⟩
                clear HRi HIi
                go_wp2_with fail
                go_roundw
                case rel => exact ⟨k + 1, by omega, by go_num, HC6⟩
                case measure => simp [intOf]; omega
          · go_wp2_with fail
            clear x1
            obtain ⟨wq, hwq⟩ : ∃ wq, wq = wr := ⟨_, rfl⟩
            subst hwq
            go_loopw [8, 9, 10, 11, 12] (fun i _ _ _ _ wr => ∃ t : Nat, t ≤ n2 ∧ i = .int .i64 t ∧ Hid (CsAt w wr B M bp xa xb p (.slice ag n0 cg) (.slice az n1 cs) (.slice af n2 cf) (.slice bg n0 dg) (.slice bs n1 ds) (.slice bf n2 df) (.slice qg n0 eg) (.slice qs n1 es) (.slice qf n2 ef) n0 n1 n2 k)) (fun i _ _ _ _ _ => n2 - (intOf i).toNat)
            case atStart => exact ⟨0, Nat.zero_le _, rfl, HR⟩
            case round =>
              obtain ⟨t, ht, rfl, HR⟩ := hrel
              obtain ⟨⟨x0, x1, x2⟩, ⟨y0, y1, y2⟩, z0, z1, z2⟩ := HR.out.c
              rw [hbp'.out] at y0 y1 y2
              clear x0 x1
              by_cases hlt : t < n2
              · clear y0 y1 y2 z0 z1 z2
                obtain ⟨g, N, f, rfl, hQ, hrow, hN, hf⟩ := HR.out.fn.some hlt
                obtain ⟨m0, m3, m4, r, s, hm0, hm3, hm4, h0, h1, h2, h3, h4⟩ := hf t hlt
                obtain ⟨ad0, cd0, he0⟩ := h0.len
                obtain ⟨ad3, cd3, he3⟩ := h3.len
                obtain ⟨ad4, cd4, he4⟩ := h4.len
                rw [he0] at h0
                rw [he3] at h3
                rw [he4] at h4
                have hltI : (t : Int) < (n2 : Int) := by omega
                have k0 : wr.cell? ⟨g, t * 5, none⟩ = some (.slice ad0 m0 cd0) := by rw [← he0]; exact hrow.cell (by omega)
                have k1 : wr.cell? ⟨g, t * 5 + 1, none⟩ = some (.int .i64 r) := by rw [← h1]; exact hrow.cell (by omega)
                have k2 : wr.cell? ⟨g, t * 5 + 2, none⟩ = some (.int .i64 s) := by rw [← h2]; exact hrow.cell (by omega)
                have k3 : wr.cell? ⟨g, t * 5 + 3, none⟩ = some (.slice ad3 m3 cd3) := by rw [← he3]; exact hrow.cell (by omega)
                have k4 : wr.cell? ⟨g, t * 5 + 4, none⟩ = some (.slice ad4 m4 cd4) := by rw [← he4]; exact hrow.cell (by omega)
                obtain ⟨y, hy⟩ : ∃ y, wr.heap.size = y := ⟨_, rfl⟩
                obtain ⟨wd, hwd⟩ : ∃ wd, wr.alloc (.cells #[.slice ad0 m0 cd0, .int .i64 r, .int .i64 s, .slice ad3 m3 cd3, .slice ad4 m4 cd4] 45) = wd := ⟨_, rfl⟩
                have hAd : Below wr.heap.size wr wd := hwd ▸ (Below.refl _ _).alloc (Nat.le_refl _) _
                have HD : Hid (SpAt (CsAt w wd B M bp xa xb p (.slice ag n0 cg) (.slice az n1 cs) (.slice af n2 cf) (.slice bg n0 dg) (.slice bs n1 ds) (.slice bf n2 df) (.slice qg n0 eg) (.slice qs n1 es) (.slice (some ⟨g, 0, none⟩) n2 ef) n0 n1 n2 k) B M wd y g N f (.slice ad0 m0 cd0) (.int .i64 r) (.int .i64 s) (.slice ad3 m3 cd3) (.slice ad4 m4 cd4) m0 m3 m4) := by
                  refine ⟨HR.out.below hAd, ?_, hrow.of_block (hAd.block _ hrow.lt), h0.below hAd, h3.below hAd, h4.below hAd⟩
                  rw [← hy]
                  exact hwd ▸ World.rowIs_alloc wr #[.slice ad0 m0 cd0, .int .i64 r, .int .i64 s, .slice ad3 m3 cd3, .slice ad4 m4 cd4] 45 _ (fun k hk => by
                    have : k = 0 ∨ k = 1 ∨ k = 2 ∨ k = 3 ∨ k = 4 := by simp at hk; omega
                    rcases this with rfl | rfl | rfl | rfl | rfl <;> rfl)
                have HG : Hid (n2 * 5 ≤ N ∧ (B ≤ g ∧ g < M)) := ⟨hN, hQ⟩
                clear hrow h0 h1 h2 h3 h4 hf he0 he3 he4 hQ hN hAd
                go_wp2_with fail
                clear k0 k1 k2 k3 k4 HR hwd x2
                go_loopw [10] (fun i wi => ∃ l : Nat, l ≤ m0 ∧ i = .int .i64 l ∧ Hid (SpAt (CsAt w wi B M bp xa xb p (.slice ag n0 cg) (.slice az n1 cs) (.slice af n2 cf) (.slice bg n0 dg) (.slice bs n1 ds) (.slice bf n2 df) (.slice qg n0 eg) (.slice qs n1 es) (.slice (some ⟨g, 0, none⟩) n2 ef) n0 n1 n2 k) B M wi y g N f (.slice ad0 m0 cd0) (.int .i64 r) (.int .i64 s) (.slice ad3 m3 cd3) (.slice ad4 m4 cd4) m0 m3 m4)) (fun i _ => m0 - (intOf i).toNat)
                case atStart => exact ⟨0, Nat.zero_le _, rfl, HD⟩
                case round =>
                  obtain ⟨l, hl, rfl, HI⟩ := hrel
                  clear HD
                  have k0 : wr.cell? ⟨y, 0, none⟩ = some (.slice ad0 m0 cd0) := HI.out.yb.cell (i := 0) (by decide)
                  by_cases hlm : l < m0
                  · obtain ⟨g2, N2, f2, rfl, _, hQ2, hrow2, hN2⟩ := HI.out.h0.some hlm
                    have k2 := hrow2.cell (i := l) (by omega)
                    have fz := hrow2.frozen l
                    have hgl := hrow2.lt
                    have hlI : (l : Int) < (m0 : Int) := by omega
                    have HI5 : Hid (SpAt (CsAt w (wr.setCell ⟨g2, l, none⟩ (.int .i64 (-5))) B M bp xa xb p (.slice ag n0 cg) (.slice az n1 cs) (.slice af n2 cf) (.slice bg n0 dg) (.slice bs n1 ds) (.slice bf n2 df) (.slice qg n0 eg) (.slice qs n1 es) (.slice (some ⟨g, 0, none⟩) n2 ef) n0 n1 n2 k) B M (wr.setCell ⟨g2, l, none⟩ (.int .i64 (-5))) y g N f (.slice (some ⟨g2, 0, none⟩) m0 cd0) (.int .i64 r) (.int .i64 s) (.slice ad3 m3 cd3) (.slice ad4 m4 cd4) m0 m3 m4) := HI.out.set hrow2 (by decide) (HI.out.cs.set hrow2 hQ2 (by decide) (by decide) (by decide) l _)
                    clear hrow2 HI
                    generalize f2 l = fj at *
                    go_wp2_with fail
                    go_roundw
                    case rel => exact ⟨l + 1, by omega, by go_num, HI5⟩
                    case measure => simp [intOf]; omega
                  · go_wp2_with fail
                    clear k0
                    obtain ⟨wq, hwq⟩ : ∃ wq, wq = wr := ⟨_, rfl⟩
                    subst hwq
                    go_loopw [11] (fun i wi => ∃ l : Nat, l ≤ m3 ∧ i = .int .i64 l ∧ Hid (SpAt (CsAt w wi B M bp xa xb p (.slice ag n0 cg) (.slice az n1 cs) (.slice af n2 cf) (.slice bg n0 dg) (.slice bs n1 ds) (.slice bf n2 df) (.slice qg n0 eg) (.slice qs n1 es) (.slice (some ⟨g, 0, none⟩) n2 ef) n0 n1 n2 k) B M wi y g N f (.slice ad0 m0 cd0) (.int .i64 r) (.int .i64 s) (.slice ad3 m3 cd3) (.slice ad4 m4 cd4) m0 m3 m4)) (fun i _ => m3 - (intOf i).toNat)
                    case atStart => exact ⟨0, Nat.zero_le _, rfl, HI⟩
                    case round =>
                      obtain ⟨l3, hl3, rfl, HI⟩ := hrel
                      have k0 : wr.cell? ⟨y, 3, none⟩ = some (.slice ad3 m3 cd3) := HI.out.yb.cell (i := 3) (by decide)
                      by_cases hlm3 : l3 < m3
                      · obtain ⟨g2, N2, f2, rfl, _, hQ2, hrow2, hN2⟩ := HI.out.h3.some hlm3
                        have k2 := hrow2.cell (i := l3) (by omega)
                        have fz := hrow2.frozen l3
                        have hgl := hrow2.lt
                        have hlI : (l3 : Int) < (m3 : Int) := by omega
                        have HI5 : Hid (SpAt (CsAt w (wr.setCell ⟨g2, l3, none⟩ (.int .i64 (-5))) B M bp xa xb p (.slice ag n0 cg) (.slice az n1 cs) (.slice af n2 cf) (.slice bg n0 dg) (.slice bs n1 ds) (.slice bf n2 df) (.slice qg n0 eg) (.slice qs n1 es) (.slice (some ⟨g, 0, none⟩) n2 ef) n0 n1 n2 k) B M (wr.setCell ⟨g2, l3, none⟩ (.int .i64 (-5))) y g N f (.slice ad0 m0 cd0) (.int .i64 r) (.int .i64 s) (.slice (some ⟨g2, 0, none⟩) m3 cd3) (.slice ad4 m4 cd4) m0 m3 m4) := HI.out.set hrow2 (by decide) (HI.out.cs.set hrow2 hQ2 (by decide) (by decide) (by decide) l3 _)
                        clear hrow2 HI
                        generalize f2 l3 = fj at *
                        go_wp2_with fail
                        go_roundw
                        case rel => exact ⟨l3 + 1, by omega, by go_num, HI5⟩
                        case measure => simp [intOf]; omega
                      · go_wp2_with fail
                        clear k0
                        obtain ⟨wq, hwq⟩ : ∃ wq, wq = wr := ⟨_, rfl⟩
                        subst hwq
                        go_loopw [12] (fun i wi => ∃ l : Nat, l ≤ m4 ∧ i = .int .i64 l ∧ Hid (SpAt (CsAt w wi B M bp xa xb p (.slice ag n0 cg) (.slice az n1 cs) (.slice af n2 cf) (.slice bg n0 dg) (.slice bs n1 ds) (.slice bf n2 df) (.slice qg n0 eg) (.slice qs n1 es) (.slice (some ⟨g, 0, none⟩) n2 ef) n0 n1 n2 k) B M wi y g N f (.slice ad0 m0 cd0) (.int .i64 r) (.int .i64 s) (.slice ad3 m3 cd3) (.slice ad4 m4 cd4) m0 m3 m4)) (fun i _ => m4 - (intOf i).toNat)
                        case atStart => exact ⟨0, Nat.zero_le _, rfl, HI⟩
                        case round =>
                          obtain ⟨l4, hl4, rfl, HI⟩ := hrel
                          have k0 : wr.cell? ⟨y, 4, none⟩ = some (.slice ad4 m4 cd4) := HI.out.yb.cell (i := 4) (by decide)
                          by_cases hlm4 : l4 < m4
                          · obtain ⟨g2, N2, f2, rfl, _, hQ2, hrow2, hN2⟩ := HI.out.h4.some hlm4
                            have k2 := hrow2.cell (i := l4 * 4) (by omega)
                            have fz := hrow2.frozen (l4 * 4)
                            have hgl := hrow2.lt
                            have hlI : (l4 : Int) < (m4 : Int) := by omega
                            have HI5 : Hid (SpAt (CsAt w (wr.setCell ⟨g2, l4 * 4, none⟩ (.int .i64 (-5))) B M bp xa xb p (.slice ag n0 cg) (.slice az n1 cs) (.slice af n2 cf) (.slice bg n0 dg) (.slice bs n1 ds) (.slice bf n2 df) (.slice qg n0 eg) (.slice qs n1 es) (.slice (some ⟨g, 0, none⟩) n2 ef) n0 n1 n2 k) B M (wr.setCell ⟨g2, l4 * 4, none⟩ (.int .i64 (-5))) y g N f (.slice ad0 m0 cd0) (.int .i64 r) (.int .i64 s) (.slice ad3 m3 cd3) (.slice (some ⟨g2, 0, none⟩) m4 cd4) m0 m3 m4) := HI.out.set hrow2 (by decide) (HI.out.cs.set hrow2 hQ2 (by decide) (by decide) (by decide) (l4 * 4) _)
                            clear hrow2 HI
                            generalize f2 (l4 * 4) = fj at *
                            go_wp2_with fail
                            go_roundw
                            case rel => exact ⟨l4 + 1, by omega, by go_num, HI5⟩
                            case measure => simp [intOf]; omega
                          · obtain ⟨⟨x0, x1, x2⟩, _, _, _, _⟩ := HI.out.cs.c
                            clear x0 x1
                            have k2 := HI.out.gb.cell (i := t * 5 + 2) (by have := HG.out.1; omega)
                            have fz := HI.out.gb.frozen (t * 5 + 2)
                            have hgl := HI.out.gb.lt
                            have HC6 : Hid (CsAt w (wr.setCell ⟨g, t * 5 + 2, none⟩ (.int .i64 (-5))) B M bp xa xb p (.slice ag n0 cg) (.slice az n1 cs) (.slice af n2 cf) (.slice bg n0 dg) (.slice bs n1 ds) (.slice bf n2 df) (.slice qg n0 eg) (.slice qs n1 es) (.slice (some ⟨g, 0, none⟩) n2 ef) n0 n1 n2 k) := by
                              refine HI.out.cs.setX HI.out.gb HG.out.2 (by decide) (t * 5 + 2) _ (HI.out.cs.sh.set HI.out.gb (by decide) (t * 5 + 2) _) ?_
                              rcases HI.out.cs.fn with h | ⟨g', c', N', f', h1, h2, h3, h4, h5⟩
                              · omega
                              · cases h1
                                obtain ⟨f9, h6, h7⟩ := row_set2 h3 (t * 5 + 2) (.int .i64 (-5))
                                refine Or.inr ⟨g, _, N', f9, rfl, h2, h6, h4, fun j hj => ?_⟩
                                obtain ⟨q0, q3, q4, r9, s9, b0, b3, b4, e0, e1, e2, e3, e4⟩ := h5 j hj
                                rw [h7.1 (j * 5) (by omega), h7.1 (j * 5 + 1) (by omega), h7.1 (j * 5 + 3) (by omega), h7.1 (j * 5 + 4) (by omega)]
                                by_cases ejt : j = t
                                · subst ejt
                                  exact ⟨q0, q3, q4, r9, -5, b0, b3, b4, e0.set g _ _, e1, h7.2, e3.set g _ _, e4.set g _ _⟩
                                · rw [h7.1 (j * 5 + 2) (by omega)]
                                  exact ⟨q0, q3, q4, r9, s9, b0, b3, b4, e0.set g _ _, e1, e2, e3.set g _ _, e4.set g _ _⟩
                            clear HI
                            generalize f (t * 5 + 2) = fj at *
                            go_wp2_with fail
                            go_roundw
                            case rel => exact ⟨t + 1, by omega, by go_num, HC6⟩
                            case measure => simp [intOf]; omega
              · go_wp2_with fail
                refine (refSame_true hn HZP.out bg bs bf ag az af dg ds df cg cs cf _ HR.out.bg.any HR.out.pg.any).mono ?_
                rintro e w9 ⟨rfl, hb⟩
                have HB9 : Hid (Below B w w9) := (HR.out.below hb).low
                clear hb HR
                go_wp2_with fail
                go_ret
                first | exact ⟨rfl, HB9.out⟩ | exact ⟨rfl, hBw ▸ HB9.out⟩


end Go.Proofs.Ytkgicalkcbagaaa

/- The walk of the document's Instr, at an instruction whose form may be: the loop over its operands, and what follows. -/
import Derived.Test.YtmacipjdmaaccaaCkN
namespace Go.Proofs.Ytmacipjdmaaccaa
open Go.RowKit

/-- It is no result's slot of a function without a result that is named. -/
def NoE (x0 R ia : Int) : Prop := ¬ (x0 = 114 ∧ R = 0 ∧ ¬ ia = 0)

set_option maxRecDepth 100000 in
set_option maxHeartbeats 16000000 in
theorem refInstr_go (p : Pg) (ag az af : Option Addr) (cg cs cf : Nat) {j jc : Nat} {f : Fn} {io ia ib ic : Int} (hf : Hid (p.funcs[j]? = some f)) (hi : Hid (f.code[jc]? = some ⟨io, ia, ib, ic⟩)) (w : World) (hp : PgV Any w (.slice ag p.glob.length cg) (.slice az p.shapes.length cs) (.slice af p.funcs.length cf) p)
    (HFit : Hid (f.slots ≤ 9223372036854775807)) (S : ByteArray) (x0 x1 x2 : Int) (hS : Hid (opS io = S)) (hne : S.toList.isEmpty = false)
    (g0 : ∀ w, (Instr.index 9 (.string S) (.int .i64 0)).run Try.prog w = .ok (.int .u8 x0) w) (g1 : ∀ w, (Instr.index 9 (.string S) (.int .i64 1)).run Try.prog w = .ok (.int .u8 x1) w)
    (g2 : ∀ w, (Instr.index 9 (.string S) (.int .i64 2)).run Try.prog w = .ok (.int .u8 x2) w)
    (HU : Hid (∀ w, Calls Try.prog 27 #[.agg #[.int .i64 io, .int .i64 ia, .int .i64 ib, .int .i64 ic]] w fun e w' => e = .returned (.bool true) ∧ Below w.heap.size w w'))
    (R : Int) (K : Nat) (hg : (x1 = 102 ∧ ∃ g, fnAt p ib = some g ∧ g.res = R ∧ g.args.length = K) ∨ (¬ x1 = 102 ∧ f.res = R ∧ K = 0))
    (o0 o1 o2 : Bool) (h0 : (x0 = 114 ∧ Hid ((R == 0 || inB ia f.slots) = o0)) ∨ (¬ x0 = 114 ∧ Hid (OkIs p f K x0 ia o0))) (h1 : Hid (OkIs p f K x1 ib o1)) (h2 : Hid (OkIs p f K x2 ic o2))
    (z : Int) (HZ : Hid ((x0 = 114 ∧ R = 0 ∧ ¬ ia = 0 → z = 2) ∧ (¬ (x0 = 114 ∧ R = 0 ∧ ¬ ia = 0) → z = if (o0 && (o1 && o2)) = true then (if kindB p ⟨io, ia, ib, ic⟩ = true then 0 else 3) else 4)))
    (HC : Hid (io = 23 ∨ io = 24 → x1 = 102 ∧ ∃ g, fnAt p ib = some g ∧ g.args.length ≤ maxLen)) :
    Calls Try.prog 13 #[.agg #[.slice ag p.glob.length cg, .slice az p.shapes.length cs, .slice af p.funcs.length cf], .int .i64 (j : Int), .int .i64 (jc : Int)] w fun e w' => e = .returned (.int .i64 z) ∧ Below w.heap.size w w' := by
  have hjl : j < p.funcs.length := (List.getElem?_eq_some_iff.1 hf.out).1
  have hil : jc < f.code.length := (List.getElem?_eq_some_iff.1 hi.out).1
  have hjI : (j : Int) < (p.funcs.length : Int) := by omega
  have hiI : (jc : Int) < (f.code.length : Int) := by omega
  obtain ⟨wp, hwp⟩ : ∃ wp, w.alloc (.cells #[.slice ag p.glob.length cg, .slice az p.shapes.length cs, .slice af p.funcs.length cf] 26) = wp := ⟨_, rfl⟩
  have hA : Below w.heap.size w wp := hwp ▸ (Below.refl _ _).alloc (Nat.le_refl _) _
  obtain ⟨b, off, v0, v1, v2, v3, v4, rfl, hb, _, k0, k1, k2, k3, k4, hfc⟩ := hp.funcs.some hf.out
  obtain ⟨a0, c0, a3, c3, a4, c4, rfl, rfl, rfl⟩ := hfc.lens
  obtain rfl := hfc.res
  obtain rfl := hfc.slots
  obtain ⟨kb, ko, rfl, hkb, hins⟩ := hfc.code.some hi.out
  have hsz : wp.heap.size = w.heap.size + 1 := by rw [← hwp]; simp
  obtain ⟨wf, hwf⟩ : ∃ wf, wp.alloc (.cells #[.slice a0 f.args.length c0, .int .i64 f.res, .int .i64 f.slots, .slice a3 f.objs.length c3, .slice (some ⟨kb, ko, none⟩) f.code.length c4] 41) = wf := ⟨_, rfl⟩
  obtain ⟨wj, hwj⟩ : ∃ wj, wf.alloc (.cells #[.int .i64 io, .int .i64 ia, .int .i64 ib, .int .i64 ic] 52) = wj := ⟨_, rfl⟩
  have hJ := onJ_start p f io ia ib ic ag az (some ⟨b, off, none⟩) cg cs cf a0 a3 (some ⟨kb, ko, none⟩) c0 c3 c4 (wj := wj) (by rw [hwp, hwf, hwj]) hp
  have hB : Below wp.heap.size wp wf := hwf ▸ (Below.refl _ _).alloc (Nat.le_refl _) _
  have hAB := hA.trans (hB.mono hA.size)
  have hC : Below wf.heap.size wf wj := hwj ▸ (Below.refl _ _).alloc (Nat.le_refl _) _
  have e2 : wp.cell? ⟨w.heap.size, 2, none⟩ = some (.slice (some ⟨b, off, none⟩) p.funcs.length cf) := hwp ▸ cell_new w _ _ rfl
  have q0 := (hA.cell (p := ⟨b, off + j * 5, none⟩) hb).trans k0
  have q1 := (hA.cell (p := ⟨b, off + j * 5 + 1, none⟩) hb).trans k1
  have q2 := (hA.cell (p := ⟨b, off + j * 5 + 2, none⟩) hb).trans k2
  have q3 := (hA.cell (p := ⟨b, off + j * 5 + 3, none⟩) hb).trans k3
  have q4 := (hA.cell (p := ⟨b, off + j * 5 + 4, none⟩) hb).trans k4
  have f4 : wf.cell? ⟨w.heap.size + 1, 4, none⟩ = some (.slice (some ⟨kb, ko, none⟩) f.code.length c4) := by rw [← hsz]; exact hwf ▸ cell_new wp _ _ rfl
  have m0 : wf.cell? ⟨kb, ko + jc * 4, none⟩ = some (.int .i64 io) := (hAB.cell (p := ⟨kb, ko + jc * 4, none⟩) hkb).trans hins.1
  have m1 : wf.cell? ⟨kb, ko + jc * 4 + 1, none⟩ = some (.int .i64 ia) := (hAB.cell (p := ⟨kb, ko + jc * 4 + 1, none⟩) hkb).trans hins.2.1
  have m2 : wf.cell? ⟨kb, ko + jc * 4 + 2, none⟩ = some (.int .i64 ib) := (hAB.cell (p := ⟨kb, ko + jc * 4 + 2, none⟩) hkb).trans hins.2.2.1
  have m3 : wf.cell? ⟨kb, ko + jc * 4 + 3, none⟩ = some (.int .i64 ic) := (hAB.cell (p := ⟨kb, ko + jc * 4 + 3, none⟩) hkb).trans hins.2.2.2
  have HJ : Hid (OnJ w wj p f io ia ib ic ag az (some ⟨b, off, none⟩) cg cs cf a0 a3 (some ⟨kb, ko, none⟩) c0 c3 c4) := hJ
  obtain ⟨_, _, i0, i1, i2, i3⟩ := hJ.c
  have hsz2 : wf.heap.size = w.heap.size + 2 := by rw [← hwf]; simp [hsz]
  clear hA hB hAB hC hfc hins hJ k0 k1 k2 k3 k4 hb hkb hp hf hi
  rcases hg with ⟨hx1, g, hgn, hgR, hgK⟩ | ⟨hx1, hgR, hgK⟩
  · subst hx1
    have HG : Hid (fnAt p ib = Option.some g ∧ g.res = R ∧ g.args.length = K) := ⟨hgn, hgR, hgK⟩
    obtain ⟨jg, rfl, hjg, hjf⟩ := fnAt_some hgn
    have HJF : Hid (p.funcs[jg]? = Option.some g) := hjf
    have hjgI : (jg : Int) < (p.funcs.length : Int) := by omega
    clear hgn hgR hgK hjf
    go_enter Try.func13, Try.ntmps13
    go_wp2_with fail
    refine (operands_any hS _).mono ?_
    rintro e w' ⟨rfl, rfl⟩
    go_wp2_with fail
    refine (HU.out _).mono ?_
    rintro e w2 ⟨rfl, hb⟩
    have HJ2 : OnJ w w2 p f io ia (jg : Int) ic ag az (some ⟨b, off, none⟩) cg cs cf a0 a3 (some ⟨kb, ko, none⟩) c0 c3 c4 := HJ.out.below hb
    have HK : Hid (OnK w (w2.alloc (.cells #[.int .i64 ia, .int .i64 (jg : Int), .int .i64 ic] 3)) w2.heap.size p f io ia (jg : Int) ic ag az (some ⟨b, off, none⟩) cg cs cf a0 a3 (some ⟨kb, ko, none⟩) c0 c3 c4) :=
      ⟨HJ2.below ((Below.refl _ _).alloc (Nat.le_refl _) _), vi_box _ _ _ _⟩
    clear hb HJ i0 i1 i2 i3 q0 q1 q2 q3 q4 m0 m1 m2 m3 f4 e2
    obtain ⟨⟨d0, d1, d2⟩, ⟨y0, y1, y2, y3, y4⟩, i0, i1, i2, i3⟩ := HJ2.c
    clear hwp hwf hwj
    obtain ⟨w3, hw3⟩ : ∃ w3, w2.alloc (.cells #[.int .i64 ia, .int .i64 (jg : Int), .int .i64 ic] 3) = w3 := ⟨_, rfl⟩
    obtain ⟨vb, hvb⟩ : ∃ vb, w2.heap.size = vb := ⟨_, rfl⟩
    rw [hw3, hvb] at HK
    have HJ2' : Hid (OnJ w w2 p f io ia (jg : Int) ic ag az (some ⟨b, off, none⟩) cg cs cf a0 a3 (some ⟨kb, ko, none⟩) c0 c3 c4) := HJ2
    clear HJ2
    obtain ⟨⟨D0, D1, D2⟩, ⟨Y0, Y1, Y2, Y3, Y4⟩, I0, I1, I2, I3⟩ := HK.out.j.c
    obtain ⟨gb0, goff, gv0, gv1, gv2, gv3, gv4, hge, hgb, _, r0, r1, r2, r3, r4, hgc⟩ := HK.out.j.pp.funcs.some HJF.out
    obtain ⟨rfl, rfl⟩ : gb0 = b ∧ goff = off := by simpa [eq_comm] using hge
    obtain ⟨b0, e0, b3, e3, b4, e4, rfl, rfl, rfl⟩ := hgc.lens
    obtain rfl := hgc.res
    rw [HG.out.2.1] at r1
    rw [HG.out.2.2] at r0
    clear hgc hgb hge
    have HKq : Hid (∀ q, OnK w (w3.drewN q) vb p f io ia (jg : Int) ic ag az (some ⟨gb0, goff, none⟩) cg cs cf a0 a3 (some ⟨kb, ko, none⟩) c0 c3 c4) := fun q => HK.out.drewN q
    go_upto_region 12 with (fail)
    go_quiet (fail)
    clear r0 r1 r2 r3 r4 HK hw3 hvb d0 d1 d2 y0 y1 y2 y3 y4 i0 i1 i2 i3 HJ2'
    go_wp2_with fail
    clear D0 D1 D2 Y0 Y1 Y2 Y3 Y4 I0 I1 I2 I3
    go_loopw [14, 15] (fun bad k wr => ∃ j : Nat, j ≤ 3 ∧ k = .int .i64 j ∧ bad = .bool (badV o0 o1 o2 j) ∧ Hid (OnK w wr vb p f io ia (jg : Int) ic ag az (some ⟨gb0, goff, none⟩) cg cs cf a0 a3 (some ⟨kb, ko, none⟩) c0 c3 c4) ∧ Hid (0 < j → NoE x0 R ia)) (fun _ k _ => 3 - (intOf k).toNat)
    case atStart => exact ⟨0, by decide, rfl, rfl, HKq.out _, fun h => absurd h (by decide)⟩
    case round =>
      obtain ⟨jj, hjj, rfl, rfl, HR, HE⟩ := hrel
      clear HKq
      have hjc : jj = 0 ∨ jj = 1 ∨ jj = 2 ∨ jj = 3 := by omega
      obtain ⟨V0, V1, V2⟩ := HR.out.v
      obtain ⟨⟨D0, D1, D2⟩, ⟨Y0, Y1, Y2, Y3, Y4⟩, I0, I1, I2, I3⟩ := HR.out.j.c
      have HLo : Hid (Below w.heap.size w wr) := HR.out.j.low
      rcases hjc with rfl | rfl | rfl | rfl
      · rw [show badV o0 o1 o2 0 = false from rfl]
        rcases h0 with ⟨hx0, ho0⟩ | ⟨hx0, ho0⟩
        · subst hx0
          by_cases hR : R = 0
          · by_cases hia : ia = 0
            · have HB1 : Hid (badV o0 o1 o2 1 = false) := by
                have := ho0.out
                rw [hR] at this
                unfold Hid
                rw [← this]
                rfl
              have HE2 : Hid (0 < 1 → NoE 114 R ia) := fun _ h => h.2.2 hia
              have hRb : (R == 0) = true := by simpa using hR
              have hRc : (R != 0) = false := by simpa using hR
              have hib : (ia != 0) = false := by simpa using hia
              have HRH : Hid (R = 0 ∧ ia = 0) := ⟨hR, hia⟩
              clear hR hia ho0
              go_upto_region 22 with (fail)
              go_quiet (fail)
              go_wp2_with fail
              go_roundw
              case rel => exact ⟨1, by decide, by go_num, by first | (rw [HB1.out]; done) | (rw [HB1.out]; rfl), HR.out.drewN _, HE2⟩
              case measure => simp [intOf]
            · have HQ : Hid (z = 2) := HZ.out.1 ⟨rfl, hR, hia⟩
              have hRb : (R == 0) = true := by simpa using hR
              have hib : (ia != 0) = true := by simpa using hia
              clear hR hia ho0
              go_wp2_with fail
              go_ret
              exact ⟨ret_i HQ.out.symm, HLo.out⟩
          · have HBx : Hid (hasB p f 0 (nl 115) ia = o0) := by
              have := ho0.out
              rw [show (R == 0) = false from by simpa using hR, Bool.false_or] at this
              exact this
            have HE2 : Hid (0 < 1 → NoE 114 R ia) := fun _ h => hR h.2.1
            have hRb : (R == 0) = false := by simpa using hR
            have hRc : (R != 0) = true := by simpa using hR
            clear hR ho0
            go_upto_region 22 with (fail)
            go_region_held3 (fun w' => ((w'.cell? ⟨w.heap.size, 0, none⟩ = some (.slice ag p.glob.length cg) ∧ w'.cell? ⟨w.heap.size, 1, none⟩ = some (.slice az p.shapes.length cs) ∧ w'.cell? ⟨w.heap.size, 2, none⟩ = some (.slice (some ⟨gb0, goff, none⟩) p.funcs.length cf)) ∧ (w'.cell? ⟨w.heap.size + 1, 0, none⟩ = some (.slice a0 f.args.length c0) ∧ w'.cell? ⟨w.heap.size + 1, 1, none⟩ = some (.int .i64 f.res) ∧ w'.cell? ⟨w.heap.size + 1, 2, none⟩ = some (.int .i64 f.slots) ∧ w'.cell? ⟨w.heap.size + 1, 3, none⟩ = some (.slice a3 f.objs.length c3) ∧ w'.cell? ⟨w.heap.size + 1, 4, none⟩ = some (.slice (some ⟨kb, ko, none⟩) f.code.length c4))) ∧ w'.cell? ⟨vb, 0, none⟩ = some (.int .i64 ia)) (first | exact ⟨HR.out.m, HR.out.v.1⟩ | exact ⟨HR3.out.m, HR3.out.v.1⟩ | go_keep)
              (first
                | (go_at_call 28; refine (place_any p f ag az (some ⟨gb0, goff, none⟩) cg cs cf a0 a3 (some ⟨kb, ko, none⟩) c0 c3 c4 (k := 0) (Or.inl rfl) HBx HFit.out (wr.drewN 1)).mono ?_; rintro e w3' ⟨rfl, hb3⟩; have HR3 : Hid (OnK w w3' vb p f io ia (jg : Int) ic ag az (some ⟨gb0, goff, none⟩) cg cs cf a0 a3 (some ⟨kb, ko, none⟩) c0 c3 c4) := (HR.out.drewN 1).below hb3; clear hb3))
            all_goals
              cases hbo : o0
              · have HB1 : Hid (badV o0 o1 o2 1 = true) := by unfold Hid; rw [show o0 = false from hbo]; rfl
                clear hbo
                go_wp2_with fail
                go_roundw
                case rel => exact ⟨1, by decide, by go_num, by first | (rw [HB1.out]; done) | (rw [HB1.out]; rfl), HR3, HE2⟩
                case measure => simp [intOf]
              · have HB1 : Hid (badV o0 o1 o2 1 = false) := by unfold Hid; rw [show o0 = true from hbo]; rfl
                clear hbo
                go_wp2_with fail
                go_roundw
                case rel => exact ⟨1, by decide, by go_num, by first | (rw [HB1.out]; done) | (rw [HB1.out]; rfl), HR3, HE2⟩
                case measure => simp [intOf]
        · have HE2 : Hid (0 < 1 → NoE x0 R ia) := fun _ h => hx0 h.1
          have hxb : (x0 == 114) = false := by simpa using hx0
          go_upto_region 23 with (fail)
          go_region_held3 (fun w' => ((w'.cell? ⟨w.heap.size, 0, none⟩ = some (.slice ag p.glob.length cg) ∧ w'.cell? ⟨w.heap.size, 1, none⟩ = some (.slice az p.shapes.length cs) ∧ w'.cell? ⟨w.heap.size, 2, none⟩ = some (.slice (some ⟨gb0, goff, none⟩) p.funcs.length cf)) ∧ (w'.cell? ⟨w.heap.size + 1, 0, none⟩ = some (.slice a0 f.args.length c0) ∧ w'.cell? ⟨w.heap.size + 1, 1, none⟩ = some (.int .i64 f.res) ∧ w'.cell? ⟨w.heap.size + 1, 2, none⟩ = some (.int .i64 f.slots) ∧ w'.cell? ⟨w.heap.size + 1, 3, none⟩ = some (.slice a3 f.objs.length c3) ∧ w'.cell? ⟨w.heap.size + 1, 4, none⟩ = some (.slice (some ⟨kb, ko, none⟩) f.code.length c4))) ∧ w'.cell? ⟨vb, 0, none⟩ = some (.int .i64 ia)) (first | exact ⟨HR.out.m, HR.out.v.1⟩ | exact ⟨HR3.out.m, HR3.out.v.1⟩ | go_keep)
            (first
              | (go_at_call 28; refine (place_any p f ag az (some ⟨gb0, goff, none⟩) cg cs cf a0 a3 (some ⟨kb, ko, none⟩) c0 c3 c4 (k := K) ho0.out.1 (show Hid _ from ho0.out.2) HFit.out (wr.drewN 1)).mono ?_; rintro e w3' ⟨rfl, hb3⟩; have HR3 : Hid (OnK w w3' vb p f io ia (jg : Int) ic ag az (some ⟨gb0, goff, none⟩) cg cs cf a0 a3 (some ⟨kb, ko, none⟩) c0 c3 c4) := (HR.out.drewN 1).below hb3; clear hb3))
          all_goals
            cases hbo : o0
            · have HB1 : Hid (badV o0 o1 o2 1 = true) := by unfold Hid; rw [show o0 = false from hbo]; rfl
              clear hbo
              go_wp2_with fail
              go_roundw
              case rel => exact ⟨1, by decide, by go_num, by first | (rw [HB1.out]; done) | (rw [HB1.out]; rfl), HR3, HE2⟩
              case measure => simp [intOf]
            · have HB1 : Hid (badV o0 o1 o2 1 = false) := by unfold Hid; rw [show o0 = true from hbo]; rfl
              clear hbo
              go_wp2_with fail
              go_roundw
              case rel => exact ⟨1, by decide, by go_num, by first | (rw [HB1.out]; done) | (rw [HB1.out]; rfl), HR3, HE2⟩
              case measure => simp [intOf]
      · have HE2 : Hid (0 < 2 → NoE x0 R ia) := fun _ => HE.out (by decide)
        have hxb : ((102 : Int) == 114) = false := by decide
        cases hbp : badV o0 o1 o2 1
        · have HO : Hid (o0 = true) := by
            unfold Hid
            revert hbp
            unfold badV
            cases o0 <;> cases o1 <;> simp
          clear hbp HE
          go_upto_region 23 with (fail)
          go_region_held3 (fun w' => ((w'.cell? ⟨w.heap.size, 0, none⟩ = some (.slice ag p.glob.length cg) ∧ w'.cell? ⟨w.heap.size, 1, none⟩ = some (.slice az p.shapes.length cs) ∧ w'.cell? ⟨w.heap.size, 2, none⟩ = some (.slice (some ⟨gb0, goff, none⟩) p.funcs.length cf)) ∧ (w'.cell? ⟨w.heap.size + 1, 0, none⟩ = some (.slice a0 f.args.length c0) ∧ w'.cell? ⟨w.heap.size + 1, 1, none⟩ = some (.int .i64 f.res) ∧ w'.cell? ⟨w.heap.size + 1, 2, none⟩ = some (.int .i64 f.slots) ∧ w'.cell? ⟨w.heap.size + 1, 3, none⟩ = some (.slice a3 f.objs.length c3) ∧ w'.cell? ⟨w.heap.size + 1, 4, none⟩ = some (.slice (some ⟨kb, ko, none⟩) f.code.length c4))) ∧ w'.cell? ⟨vb, 1, none⟩ = some (.int .i64 (jg : Int))) (first | exact ⟨HR.out.m, HR.out.v.2.1⟩ | exact ⟨HR3.out.m, HR3.out.v.2.1⟩ | go_keep)
            (first
              | (go_at_call 28; refine (place_any p f ag az (some ⟨gb0, goff, none⟩) cg cs cf a0 a3 (some ⟨kb, ko, none⟩) c0 c3 c4 (k := K) h1.out.1 (show Hid _ from h1.out.2) HFit.out (wr.drewN 1)).mono ?_; rintro e w3' ⟨rfl, hb3⟩; have HR3 : Hid (OnK w w3' vb p f io ia (jg : Int) ic ag az (some ⟨gb0, goff, none⟩) cg cs cf a0 a3 (some ⟨kb, ko, none⟩) c0 c3 c4) := (HR.out.drewN 1).below hb3; clear hb3))
          all_goals
            cases hbo : o1
            · have HB1 : Hid (badV o0 o1 o2 2 = true) := by unfold Hid; rw [show o0 = true from HO.out, show o1 = false from hbo]; rfl
              clear hbo
              go_wp2_with fail
              go_roundw
              case rel => exact ⟨2, by decide, by go_num, by first | (rw [HB1.out]; done) | (rw [HB1.out]; rfl), HR3, HE2⟩
              case measure => simp [intOf]
            · have HB1 : Hid (badV o0 o1 o2 2 = false) := by unfold Hid; rw [show o0 = true from HO.out, show o1 = true from hbo]; rfl
              clear hbo
              go_wp2_with fail
              go_roundw
              case rel => exact ⟨2, by decide, by go_num, by first | (rw [HB1.out]; done) | (rw [HB1.out]; rfl), HR3, HE2⟩
              case measure => simp [intOf]
        · have HB1 : Hid (badV o0 o1 o2 2 = true) := by
            unfold Hid
            revert hbp
            unfold badV
            cases o0 <;> cases o1 <;> cases o2 <;> simp
          clear hbp HE
          go_upto_region 23 with (fail)
          go_quiet (fail)
          go_wp2_with fail
          go_roundw
          case rel => exact ⟨2, by decide, by go_num, by first | (rw [HB1.out]; done) | (rw [HB1.out]; rfl), HR.out.drewN _, HE2⟩
          case measure => simp [intOf]
      · have HE2 : Hid (0 < 3 → NoE x0 R ia) := fun _ => HE.out (by decide)
        have hxb : (x2 == 114) = false := by simpa using h2.out.1.r
        cases hbp : badV o0 o1 o2 2
        · have HO : Hid (o0 = true ∧ o1 = true) := by
            unfold Hid
            revert hbp
            unfold badV
            cases o0 <;> cases o1 <;> simp
          clear hbp HE
          go_upto_region 23 with (fail)
          go_region_held3 (fun w' => ((w'.cell? ⟨w.heap.size, 0, none⟩ = some (.slice ag p.glob.length cg) ∧ w'.cell? ⟨w.heap.size, 1, none⟩ = some (.slice az p.shapes.length cs) ∧ w'.cell? ⟨w.heap.size, 2, none⟩ = some (.slice (some ⟨gb0, goff, none⟩) p.funcs.length cf)) ∧ (w'.cell? ⟨w.heap.size + 1, 0, none⟩ = some (.slice a0 f.args.length c0) ∧ w'.cell? ⟨w.heap.size + 1, 1, none⟩ = some (.int .i64 f.res) ∧ w'.cell? ⟨w.heap.size + 1, 2, none⟩ = some (.int .i64 f.slots) ∧ w'.cell? ⟨w.heap.size + 1, 3, none⟩ = some (.slice a3 f.objs.length c3) ∧ w'.cell? ⟨w.heap.size + 1, 4, none⟩ = some (.slice (some ⟨kb, ko, none⟩) f.code.length c4))) ∧ w'.cell? ⟨vb, 2, none⟩ = some (.int .i64 ic)) (first | exact ⟨HR.out.m, HR.out.v.2.2⟩ | exact ⟨HR3.out.m, HR3.out.v.2.2⟩ | go_keep)
            (first
              | (go_at_call 28; refine (place_any p f ag az (some ⟨gb0, goff, none⟩) cg cs cf a0 a3 (some ⟨kb, ko, none⟩) c0 c3 c4 (k := K) h2.out.1 (show Hid _ from h2.out.2) HFit.out (wr.drewN 1)).mono ?_; rintro e w3' ⟨rfl, hb3⟩; have HR3 : Hid (OnK w w3' vb p f io ia (jg : Int) ic ag az (some ⟨gb0, goff, none⟩) cg cs cf a0 a3 (some ⟨kb, ko, none⟩) c0 c3 c4) := (HR.out.drewN 1).below hb3; clear hb3))
          all_goals
            cases hbo : o2
            · have HB1 : Hid (badV o0 o1 o2 3 = true) := by unfold Hid; rw [show o0 = true from HO.out.1, show o1 = true from HO.out.2, show o2 = false from hbo]; rfl
              clear hbo
              go_wp2_with fail
              go_roundw
              case rel => exact ⟨3, by decide, by go_num, by first | (rw [HB1.out]; done) | (rw [HB1.out]; rfl), HR3, HE2⟩
              case measure => simp [intOf]
            · have HB1 : Hid (badV o0 o1 o2 3 = false) := by unfold Hid; rw [show o0 = true from HO.out.1, show o1 = true from HO.out.2, show o2 = true from hbo]; rfl
              clear hbo
              go_wp2_with fail
              go_roundw
              case rel => exact ⟨3, by decide, by go_num, by first | (rw [HB1.out]; done) | (rw [HB1.out]; rfl), HR3, HE2⟩
              case measure => simp [intOf]
        · have HB1 : Hid (badV o0 o1 o2 3 = true) := by
            unfold Hid
            revert hbp
            unfold badV
            cases o0 <;> cases o1 <;> cases o2 <;> simp
          clear hbp HE
          go_upto_region 23 with (fail)
          go_quiet (fail)
          go_wp2_with fail
          go_roundw
          case rel => exact ⟨3, by decide, by go_num, by first | (rw [HB1.out]; done) | (rw [HB1.out]; rfl), HR.out.drewN _, HE2⟩
          case measure => simp [intOf]
      · have HNE : Hid (z = if (o0 && (o1 && o2)) = true then (if kindB p ⟨io, ia, (jg : Int), ic⟩ = true then 0 else 3) else 4) := HZ.out.2 (HE.out (by decide))
        have hb3 : badV o0 o1 o2 3 = !(o0 && (o1 && o2)) := rfl
        rw [hb3]
        clear hb3 HZ HE h0 h1 h2
        generalize (o0 && (o1 && o2)) = oo at *
        cases oo with
        | false =>
          have HQ : Hid (z = 4) := HNE.out
          go_wp2_with fail
          go_ret
          exact ⟨ret_i HQ.out.symm, HLo.out⟩
        | true =>
          have HQ : Hid (z = if kindB p ⟨io, ia, (jg : Int), ic⟩ = true then 0 else 3) := HNE.out
          clear HNE
          by_cases hk1 : io = 23 ∨ io = 24
          · have HKC : Hid (kindB p ⟨io, ia, (jg : Int), ic⟩ = (g.res == 0 && !(g.args.any (upB 64)))) := kind_call hk1 HG.out.1
            obtain ⟨_, g', hg1, hg2⟩ := HC.out hk1
            obtain rfl : g = g' := by
              have := HG.out.1
              rw [hg1] at this
              exact (Option.some.inj this).symm
            have HGL : Hid (g.args.length ≤ maxLen) := hg2
            obtain ⟨gb1, goff1, w0', w1', w2', w3', w4', hge, hgb, _, r0, r1, r2, r3, r4, hgc⟩ := HR.out.j.pp.funcs.some HJF.out
            obtain ⟨rfl, rfl⟩ : gb1 = gb0 ∧ goff1 = goff := by simpa [eq_comm] using hge
            obtain ⟨b0, e0, b3, e3, b4, e4, rfl, rfl, rfl⟩ := hgc.lens
            obtain rfl := hgc.res
            obtain rfl := hgc.slots
            have hA : Below wr.heap.size wr (wr.alloc (.cells #[.slice b0 g.args.length e0, .int .i64 g.res, .int .i64 g.slots, .slice b3 g.objs.length e3, .slice b4 g.code.length e4] 41)) := (Below.refl _ _).alloc (Nat.le_refl _) _
            have HGS : Hid (SrcAt (wr.alloc (.cells #[.slice b0 g.args.length e0, .int .i64 g.res, .int .i64 g.slots, .slice b3 g.objs.length e3, .slice b4 g.code.length e4] 41)) (.slice b0 g.args.length e0) g.args) := (hgc.below hA).args.at_
            have HLg : Hid (Below w.heap.size w (wr.alloc (.cells #[.slice b0 g.args.length e0, .int .i64 g.res, .int .i64 g.slots, .slice b3 g.objs.length e3, .slice b4 g.code.length e4] 41))) := HLo.out.trans (hA.mono HLo.out.size)
            have Xr := fn_box wr g b0 b3 b4 e0 e3 e4
            have hJ' := HR.out.j.below hA
            obtain ⟨wg, hwg⟩ : ∃ wg, wr.alloc (.cells #[.slice b0 g.args.length e0, .int .i64 g.res, .int .i64 g.slots, .slice b3 g.objs.length e3, .slice b4 g.code.length e4] 41) = wg := ⟨_, rfl⟩
            rw [hwg] at HGS HLg Xr hJ'
            have Z0 : wg.cell? ⟨wr.heap.size, 0, none⟩ = Option.some (.slice b0 g.args.length e0) := Xr.cell (i := 0) (by decide)
            have Z1 : wg.cell? ⟨wr.heap.size, 1, none⟩ = Option.some (.int .i64 g.res) := Xr.cell (i := 1) (by decide)
            obtain ⟨⟨E0, E1, E2⟩, _, F0, F1, F2, F3⟩ := hJ'.c
            clear Xr hA hgc hgb hge hg1 hg2 hJ'
            rcases hk1 with rfl | rfl
            all_goals
              go_wp2_with fail
              clear D0 D1 D2 Y0 Y1 Y2 Y3 Y4 I0 I1 I2 I3 V0 V1 V2 r0 r1 r2 r3 r4 hwg
              go_loop [17] (fun i => ∃ m : Nat, m ≤ g.args.length ∧ i = .int .i64 m ∧ Hid (∀ l : Nat, l < m → upB 64 (g.args.getD l 0) = false)) (fun i => g.args.length - (intOf i).toNat)
              case atStart => exact ⟨0, Nat.zero_le _, rfl, fun l hl => absurd hl (by omega)⟩
              case round =>
                obtain ⟨m, hm, rfl, HA⟩ := hrel
                by_cases hlt : m < g.args.length
                · obtain ⟨ab, ao, rfl, _, _, c0'⟩ := HGS.out.p.some hlt
                  have hmI : (m : Int) < (g.args.length : Int) := by omega
                  have hm3 : m + 1 ≤ 9223372036854775807 := by have := HGL.out; unfold maxLen at this; omega
                  obtain ⟨x, hx⟩ : ∃ x, g.args.getD m 0 = x := ⟨_, rfl⟩
                  rw [hx] at c0'
                  obtain ⟨t, ht⟩ : ∃ t, Hid (upB 64 x = t) := ⟨_, rfl⟩
                  cases t with
                  | true =>
                    have HQ3 : Hid (z = 3) := by
                      unfold Hid
                      rw [HQ.out, HKC.out, any_yes hlt (by rw [hx, ht.out])]
                      simp
                    clear HA hx HQ HKC
                    go_wp2_with fail
                    refine (isLoc_any ht _).mono ?_
                    rintro e wz ⟨rfl, hz⟩
                    subst wz
                    go_wp2_with fail
                    go_ret
                    exact ⟨ret_i HQ3.out.symm, HLg.out⟩
                  | false =>
                    have HA2 : Hid (∀ l : Nat, l < m + 1 → upB 64 (g.args.getD l 0) = false) := fun l hl => by
                      by_cases e : l = m
                      · rw [e, hx, ht.out]
                      · exact HA.out l (by omega)
                    clear HA hx
                    go_wp2_with fail
                    refine (isLoc_any ht _).mono ?_
                    rintro e wz ⟨rfl, hz⟩
                    subst wz
                    go_wp2_with fail
                    go_roundw
                    case rel => exact ⟨m + 1, by omega, by go_num, HA2⟩
                    case measure => simp [intOf]; omega
                · have hno : g.args.any (upB 64) = false := any_no (by rw [show g.args.length = m by omega]; exact HA.out)
                  by_cases hr0 : g.res = 0
                  · have HQ3 : Hid (z = 0) := by
                      unfold Hid
                      rw [HQ.out, HKC.out, hno, hr0]
                      rfl
                    have hrb : (g.res != 0) = false := by simpa using hr0
                    clear HA hno hr0 HQ HKC
                    go_wp2_with fail
                    go_ret
                    exact ⟨ret_i HQ3.out.symm, HLg.out⟩
                  · have HQ3 : Hid (z = 3) := by
                      unfold Hid
                      rw [HQ.out, HKC.out, show (g.res == 0) = false by simpa using hr0]
                      rfl
                    have hrb : (g.res != 0) = true := by simpa using hr0
                    clear HA hno hr0 HQ HKC
                    go_wp2_with fail
                    go_ret
                    exact ⟨ret_i HQ3.out.symm, HLg.out⟩
          · by_cases hk2 : io = 25 ∨ io = 26
            · have HKP : Hid (kindB p ⟨io, ia, (jg : Int), ic⟩ = decide (0 < p.shapes.length)) := kind_ptr hk2
              by_cases hs0 : p.shapes.length = 0
              · have HQ3 : Hid (z = 3) := by
                  unfold Hid
                  rw [HQ.out, HKP.out, decide_eq_false (by omega)]
                  rfl
                rw [hs0] at D1
                clear hs0 hk1 HQ HKP
                rcases hk2 with rfl | rfl
                all_goals
                  go_wp2_with fail
                  go_ret
                  exact ⟨ret_i HQ3.out.symm, HLo.out⟩
              · have HQ3 : Hid (z = 0) := by
                  unfold Hid
                  rw [HQ.out, HKP.out, decide_eq_true (by omega)]
                  rfl
                have hz1 : ((p.shapes.length : Int) == 0) = false := by simpa using hs0
                have hz2 : (p.shapes.length == 0) = false := by simpa using hs0
                clear hs0 hk1 HQ HKP
                rcases hk2 with rfl | rfl
                all_goals
                  go_wp2_with fail
                  go_ret
                  exact ⟨ret_i HQ3.out.symm, HLo.out⟩
            · have HQ3 : Hid (z = 0) := by
                unfold Hid
                rw [HQ.out, kind_else (by omega)]
                rfl
              have e23 : (io == 23) = false := by simpa using fun h => hk1 (Or.inl h)
              have e24 : (io == 24) = false := by simpa using fun h => hk1 (Or.inr h)
              have e25 : (io == 25) = false := by simpa using fun h => hk2 (Or.inl h)
              have e26 : (io == 26) = false := by simpa using fun h => hk2 (Or.inr h)
              clear hk1 hk2 HQ
              go_wp2_with fail
              go_ret
              exact ⟨ret_i HQ3.out.symm, HLo.out⟩
  · subst hgR
    subst hgK
    have hx1b : (x1 == 102) = false := by simpa using hx1
    go_enter Try.func13, Try.ntmps13
    go_wp2_with fail
    refine (operands_any hS _).mono ?_
    rintro e w' ⟨rfl, rfl⟩
    go_wp2_with fail
    refine (HU.out _).mono ?_
    rintro e w2 ⟨rfl, hb⟩
    have HJ2 : OnJ w w2 p f io ia ib ic ag az (some ⟨b, off, none⟩) cg cs cf a0 a3 (some ⟨kb, ko, none⟩) c0 c3 c4 := HJ.out.below hb
    have HK : Hid (OnK w (w2.alloc (.cells #[.int .i64 ia, .int .i64 ib, .int .i64 ic] 3)) w2.heap.size p f io ia ib ic ag az (some ⟨b, off, none⟩) cg cs cf a0 a3 (some ⟨kb, ko, none⟩) c0 c3 c4) :=
      ⟨HJ2.below ((Below.refl _ _).alloc (Nat.le_refl _) _), vi_box _ _ _ _⟩
    clear hb HJ i0 i1 i2 i3 q0 q1 q2 q3 q4 m0 m1 m2 m3 f4 e2
    obtain ⟨⟨d0, d1, d2⟩, ⟨y0, y1, y2, y3, y4⟩, i0, i1, i2, i3⟩ := HJ2.c
    clear hwp hwf hwj
    obtain ⟨w3, hw3⟩ : ∃ w3, w2.alloc (.cells #[.int .i64 ia, .int .i64 ib, .int .i64 ic] 3) = w3 := ⟨_, rfl⟩
    obtain ⟨vb, hvb⟩ : ∃ vb, w2.heap.size = vb := ⟨_, rfl⟩
    rw [hw3, hvb] at HK
    have HJ2' : Hid (OnJ w w2 p f io ia ib ic ag az (some ⟨b, off, none⟩) cg cs cf a0 a3 (some ⟨kb, ko, none⟩) c0 c3 c4) := HJ2
    clear HJ2
    obtain ⟨⟨D0, D1, D2⟩, ⟨Y0, Y1, Y2, Y3, Y4⟩, I0, I1, I2, I3⟩ := HK.out.j.c
    have HKq : Hid (∀ q, OnK w (w3.drewN q) vb p f io ia ib ic ag az (some ⟨b, off, none⟩) cg cs cf a0 a3 (some ⟨kb, ko, none⟩) c0 c3 c4) := fun q => HK.out.drewN q
    have HK0 : Hid (OnK w w3 vb p f io ia ib ic ag az (some ⟨b, off, none⟩) cg cs cf a0 a3 (some ⟨kb, ko, none⟩) c0 c3 c4) := HK
    go_wp2_with fail
    clear D0 D1 D2 Y0 Y1 Y2 Y3 Y4 I0 I1 I2 I3 HK hw3 hvb d0 d1 d2 y0 y1 y2 y3 y4 i0 i1 i2 i3 HJ2'
    go_loopw [14, 15] (fun bad k wr => ∃ j : Nat, j ≤ 3 ∧ k = .int .i64 j ∧ bad = .bool (badV o0 o1 o2 j) ∧ Hid (OnK w wr vb p f io ia ib ic ag az (some ⟨b, off, none⟩) cg cs cf a0 a3 (some ⟨kb, ko, none⟩) c0 c3 c4) ∧ Hid (0 < j → NoE x0 f.res ia)) (fun _ k _ => 3 - (intOf k).toNat)
    case atStart => exact ⟨0, by decide, rfl, rfl, HK0, fun h => absurd h (by decide)⟩
    case round =>
      obtain ⟨jj, hjj, rfl, rfl, HR, HE⟩ := hrel
      clear HKq HK0
      have hjc : jj = 0 ∨ jj = 1 ∨ jj = 2 ∨ jj = 3 := by omega
      obtain ⟨V0, V1, V2⟩ := HR.out.v
      obtain ⟨⟨D0, D1, D2⟩, ⟨Y0, Y1, Y2, Y3, Y4⟩, I0, I1, I2, I3⟩ := HR.out.j.c
      have HLo : Hid (Below w.heap.size w wr) := HR.out.j.low
      rcases hjc with rfl | rfl | rfl | rfl
      · rw [show badV o0 o1 o2 0 = false from rfl]
        rcases h0 with ⟨hx0, ho0⟩ | ⟨hx0, ho0⟩
        · subst hx0
          by_cases hR : f.res = 0
          · by_cases hia : ia = 0
            · have HB1 : Hid (badV o0 o1 o2 1 = false) := by
                have := ho0.out
                rw [hR] at this
                unfold Hid
                rw [← this]
                rfl
              have HE2 : Hid (0 < 1 → NoE 114 f.res ia) := fun _ h => h.2.2 hia
              have hRb : (f.res == 0) = true := by simpa using hR
              have hRc : (f.res != 0) = false := by simpa using hR
              have hib : (ia != 0) = false := by simpa using hia
              have HRH : Hid (f.res = 0 ∧ ia = 0) := ⟨hR, hia⟩
              clear hR hia ho0
              go_upto_region 22 with (fail)
              go_quiet (fail)
              go_wp2_with fail
              go_roundw
              case rel => exact ⟨1, by decide, by go_num, by first | (rw [HB1.out]; done) | (rw [HB1.out]; rfl), HR.out.drewN _, HE2⟩
              case measure => simp [intOf]
            · have HQ : Hid (z = 2) := HZ.out.1 ⟨rfl, hR, hia⟩
              have hRb : (f.res == 0) = true := by simpa using hR
              have hib : (ia != 0) = true := by simpa using hia
              clear hR hia ho0
              go_wp2_with fail
              go_ret
              exact ⟨ret_i HQ.out.symm, HLo.out⟩
          · have HBx : Hid (hasB p f 0 (nl 115) ia = o0) := by
              have := ho0.out
              rw [show (f.res == 0) = false from by simpa using hR, Bool.false_or] at this
              exact this
            have HE2 : Hid (0 < 1 → NoE 114 f.res ia) := fun _ h => hR h.2.1
            have hRb : (f.res == 0) = false := by simpa using hR
            have hRc : (f.res != 0) = true := by simpa using hR
            clear hR ho0
            go_upto_region 22 with (fail)
            go_region_held3 (fun w' => ((w'.cell? ⟨w.heap.size, 0, none⟩ = some (.slice ag p.glob.length cg) ∧ w'.cell? ⟨w.heap.size, 1, none⟩ = some (.slice az p.shapes.length cs) ∧ w'.cell? ⟨w.heap.size, 2, none⟩ = some (.slice (some ⟨b, off, none⟩) p.funcs.length cf)) ∧ (w'.cell? ⟨w.heap.size + 1, 0, none⟩ = some (.slice a0 f.args.length c0) ∧ w'.cell? ⟨w.heap.size + 1, 1, none⟩ = some (.int .i64 f.res) ∧ w'.cell? ⟨w.heap.size + 1, 2, none⟩ = some (.int .i64 f.slots) ∧ w'.cell? ⟨w.heap.size + 1, 3, none⟩ = some (.slice a3 f.objs.length c3) ∧ w'.cell? ⟨w.heap.size + 1, 4, none⟩ = some (.slice (some ⟨kb, ko, none⟩) f.code.length c4))) ∧ w'.cell? ⟨vb, 0, none⟩ = some (.int .i64 ia)) (first | exact ⟨HR.out.m, HR.out.v.1⟩ | exact ⟨HR3.out.m, HR3.out.v.1⟩ | go_keep)
              (first
                | (go_at_call 28; refine (place_any p f ag az (some ⟨b, off, none⟩) cg cs cf a0 a3 (some ⟨kb, ko, none⟩) c0 c3 c4 (k := 0) (Or.inl rfl) HBx HFit.out (wr.drewN 1)).mono ?_; rintro e w3' ⟨rfl, hb3⟩; have HR3 : Hid (OnK w w3' vb p f io ia ib ic ag az (some ⟨b, off, none⟩) cg cs cf a0 a3 (some ⟨kb, ko, none⟩) c0 c3 c4) := (HR.out.drewN 1).below hb3; clear hb3))
            all_goals
              cases hbo : o0
              · have HB1 : Hid (badV o0 o1 o2 1 = true) := by unfold Hid; rw [show o0 = false from hbo]; rfl
                clear hbo
                go_wp2_with fail
                go_roundw
                case rel => exact ⟨1, by decide, by go_num, by first | (rw [HB1.out]; done) | (rw [HB1.out]; rfl), HR3, HE2⟩
                case measure => simp [intOf]
              · have HB1 : Hid (badV o0 o1 o2 1 = false) := by unfold Hid; rw [show o0 = true from hbo]; rfl
                clear hbo
                go_wp2_with fail
                go_roundw
                case rel => exact ⟨1, by decide, by go_num, by first | (rw [HB1.out]; done) | (rw [HB1.out]; rfl), HR3, HE2⟩
                case measure => simp [intOf]
        · have HE2 : Hid (0 < 1 → NoE x0 f.res ia) := fun _ h => hx0 h.1
          have hxb : (x0 == 114) = false := by simpa using hx0
          go_upto_region 23 with (fail)
          go_region_held3 (fun w' => ((w'.cell? ⟨w.heap.size, 0, none⟩ = some (.slice ag p.glob.length cg) ∧ w'.cell? ⟨w.heap.size, 1, none⟩ = some (.slice az p.shapes.length cs) ∧ w'.cell? ⟨w.heap.size, 2, none⟩ = some (.slice (some ⟨b, off, none⟩) p.funcs.length cf)) ∧ (w'.cell? ⟨w.heap.size + 1, 0, none⟩ = some (.slice a0 f.args.length c0) ∧ w'.cell? ⟨w.heap.size + 1, 1, none⟩ = some (.int .i64 f.res) ∧ w'.cell? ⟨w.heap.size + 1, 2, none⟩ = some (.int .i64 f.slots) ∧ w'.cell? ⟨w.heap.size + 1, 3, none⟩ = some (.slice a3 f.objs.length c3) ∧ w'.cell? ⟨w.heap.size + 1, 4, none⟩ = some (.slice (some ⟨kb, ko, none⟩) f.code.length c4))) ∧ w'.cell? ⟨vb, 0, none⟩ = some (.int .i64 ia)) (first | exact ⟨HR.out.m, HR.out.v.1⟩ | exact ⟨HR3.out.m, HR3.out.v.1⟩ | go_keep)
            (first
              | (go_at_call 28; refine (place_any p f ag az (some ⟨b, off, none⟩) cg cs cf a0 a3 (some ⟨kb, ko, none⟩) c0 c3 c4 (k := 0) ho0.out.1 (show Hid _ from ho0.out.2) HFit.out (wr.drewN 1)).mono ?_; rintro e w3' ⟨rfl, hb3⟩; have HR3 : Hid (OnK w w3' vb p f io ia ib ic ag az (some ⟨b, off, none⟩) cg cs cf a0 a3 (some ⟨kb, ko, none⟩) c0 c3 c4) := (HR.out.drewN 1).below hb3; clear hb3))
          all_goals
            cases hbo : o0
            · have HB1 : Hid (badV o0 o1 o2 1 = true) := by unfold Hid; rw [show o0 = false from hbo]; rfl
              clear hbo
              go_wp2_with fail
              go_roundw
              case rel => exact ⟨1, by decide, by go_num, by first | (rw [HB1.out]; done) | (rw [HB1.out]; rfl), HR3, HE2⟩
              case measure => simp [intOf]
            · have HB1 : Hid (badV o0 o1 o2 1 = false) := by unfold Hid; rw [show o0 = true from hbo]; rfl
              clear hbo
              go_wp2_with fail
              go_roundw
              case rel => exact ⟨1, by decide, by go_num, by first | (rw [HB1.out]; done) | (rw [HB1.out]; rfl), HR3, HE2⟩
              case measure => simp [intOf]
      · have HE2 : Hid (0 < 2 → NoE x0 f.res ia) := fun _ => HE.out (by decide)
        have hxb : (x1 == 114) = false := by simpa using h1.out.1.r
        cases hbp : badV o0 o1 o2 1
        · have HO : Hid (o0 = true) := by
            unfold Hid
            revert hbp
            unfold badV
            cases o0 <;> cases o1 <;> simp
          clear hbp HE
          go_upto_region 23 with (fail)
          go_region_held3 (fun w' => ((w'.cell? ⟨w.heap.size, 0, none⟩ = some (.slice ag p.glob.length cg) ∧ w'.cell? ⟨w.heap.size, 1, none⟩ = some (.slice az p.shapes.length cs) ∧ w'.cell? ⟨w.heap.size, 2, none⟩ = some (.slice (some ⟨b, off, none⟩) p.funcs.length cf)) ∧ (w'.cell? ⟨w.heap.size + 1, 0, none⟩ = some (.slice a0 f.args.length c0) ∧ w'.cell? ⟨w.heap.size + 1, 1, none⟩ = some (.int .i64 f.res) ∧ w'.cell? ⟨w.heap.size + 1, 2, none⟩ = some (.int .i64 f.slots) ∧ w'.cell? ⟨w.heap.size + 1, 3, none⟩ = some (.slice a3 f.objs.length c3) ∧ w'.cell? ⟨w.heap.size + 1, 4, none⟩ = some (.slice (some ⟨kb, ko, none⟩) f.code.length c4))) ∧ w'.cell? ⟨vb, 1, none⟩ = some (.int .i64 ib)) (first | exact ⟨HR.out.m, HR.out.v.2.1⟩ | exact ⟨HR3.out.m, HR3.out.v.2.1⟩ | go_keep)
            (first
              | (go_at_call 28; refine (place_any p f ag az (some ⟨b, off, none⟩) cg cs cf a0 a3 (some ⟨kb, ko, none⟩) c0 c3 c4 (k := 0) h1.out.1 (show Hid _ from h1.out.2) HFit.out (wr.drewN 1)).mono ?_; rintro e w3' ⟨rfl, hb3⟩; have HR3 : Hid (OnK w w3' vb p f io ia ib ic ag az (some ⟨b, off, none⟩) cg cs cf a0 a3 (some ⟨kb, ko, none⟩) c0 c3 c4) := (HR.out.drewN 1).below hb3; clear hb3))
          all_goals
            cases hbo : o1
            · have HB1 : Hid (badV o0 o1 o2 2 = true) := by unfold Hid; rw [show o0 = true from HO.out, show o1 = false from hbo]; rfl
              clear hbo
              go_wp2_with fail
              go_roundw
              case rel => exact ⟨2, by decide, by go_num, by first | (rw [HB1.out]; done) | (rw [HB1.out]; rfl), HR3, HE2⟩
              case measure => simp [intOf]
            · have HB1 : Hid (badV o0 o1 o2 2 = false) := by unfold Hid; rw [show o0 = true from HO.out, show o1 = true from hbo]; rfl
              clear hbo
              go_wp2_with fail
              go_roundw
              case rel => exact ⟨2, by decide, by go_num, by first | (rw [HB1.out]; done) | (rw [HB1.out]; rfl), HR3, HE2⟩
              case measure => simp [intOf]
        · have HB1 : Hid (badV o0 o1 o2 2 = true) := by
            unfold Hid
            revert hbp
            unfold badV
            cases o0 <;> cases o1 <;> cases o2 <;> simp
          clear hbp HE
          go_upto_region 23 with (fail)
          go_quiet (fail)
          go_wp2_with fail
          go_roundw
          case rel => exact ⟨2, by decide, by go_num, by first | (rw [HB1.out]; done) | (rw [HB1.out]; rfl), HR.out.drewN _, HE2⟩
          case measure => simp [intOf]
      · have HE2 : Hid (0 < 3 → NoE x0 f.res ia) := fun _ => HE.out (by decide)
        have hxb : (x2 == 114) = false := by simpa using h2.out.1.r
        cases hbp : badV o0 o1 o2 2
        · have HO : Hid (o0 = true ∧ o1 = true) := by
            unfold Hid
            revert hbp
            unfold badV
            cases o0 <;> cases o1 <;> simp
          clear hbp HE
          go_upto_region 23 with (fail)
          go_region_held3 (fun w' => ((w'.cell? ⟨w.heap.size, 0, none⟩ = some (.slice ag p.glob.length cg) ∧ w'.cell? ⟨w.heap.size, 1, none⟩ = some (.slice az p.shapes.length cs) ∧ w'.cell? ⟨w.heap.size, 2, none⟩ = some (.slice (some ⟨b, off, none⟩) p.funcs.length cf)) ∧ (w'.cell? ⟨w.heap.size + 1, 0, none⟩ = some (.slice a0 f.args.length c0) ∧ w'.cell? ⟨w.heap.size + 1, 1, none⟩ = some (.int .i64 f.res) ∧ w'.cell? ⟨w.heap.size + 1, 2, none⟩ = some (.int .i64 f.slots) ∧ w'.cell? ⟨w.heap.size + 1, 3, none⟩ = some (.slice a3 f.objs.length c3) ∧ w'.cell? ⟨w.heap.size + 1, 4, none⟩ = some (.slice (some ⟨kb, ko, none⟩) f.code.length c4))) ∧ w'.cell? ⟨vb, 2, none⟩ = some (.int .i64 ic)) (first | exact ⟨HR.out.m, HR.out.v.2.2⟩ | exact ⟨HR3.out.m, HR3.out.v.2.2⟩ | go_keep)
            (first
              | (go_at_call 28; refine (place_any p f ag az (some ⟨b, off, none⟩) cg cs cf a0 a3 (some ⟨kb, ko, none⟩) c0 c3 c4 (k := 0) h2.out.1 (show Hid _ from h2.out.2) HFit.out (wr.drewN 1)).mono ?_; rintro e w3' ⟨rfl, hb3⟩; have HR3 : Hid (OnK w w3' vb p f io ia ib ic ag az (some ⟨b, off, none⟩) cg cs cf a0 a3 (some ⟨kb, ko, none⟩) c0 c3 c4) := (HR.out.drewN 1).below hb3; clear hb3))
          all_goals
            cases hbo : o2
            · have HB1 : Hid (badV o0 o1 o2 3 = true) := by unfold Hid; rw [show o0 = true from HO.out.1, show o1 = true from HO.out.2, show o2 = false from hbo]; rfl
              clear hbo
              go_wp2_with fail
              go_roundw
              case rel => exact ⟨3, by decide, by go_num, by first | (rw [HB1.out]; done) | (rw [HB1.out]; rfl), HR3, HE2⟩
              case measure => simp [intOf]
            · have HB1 : Hid (badV o0 o1 o2 3 = false) := by unfold Hid; rw [show o0 = true from HO.out.1, show o1 = true from HO.out.2, show o2 = true from hbo]; rfl
              clear hbo
              go_wp2_with fail
              go_roundw
              case rel => exact ⟨3, by decide, by go_num, by first | (rw [HB1.out]; done) | (rw [HB1.out]; rfl), HR3, HE2⟩
              case measure => simp [intOf]
        · have HB1 : Hid (badV o0 o1 o2 3 = true) := by
            unfold Hid
            revert hbp
            unfold badV
            cases o0 <;> cases o1 <;> cases o2 <;> simp
          clear hbp HE
          go_upto_region 23 with (fail)
          go_quiet (fail)
          go_wp2_with fail
          go_roundw
          case rel => exact ⟨3, by decide, by go_num, by first | (rw [HB1.out]; done) | (rw [HB1.out]; rfl), HR.out.drewN _, HE2⟩
          case measure => simp [intOf]
      · have HNE : Hid (z = if (o0 && (o1 && o2)) = true then (if kindB p ⟨io, ia, ib, ic⟩ = true then 0 else 3) else 4) := HZ.out.2 (HE.out (by decide))
        have hb3 : badV o0 o1 o2 3 = !(o0 && (o1 && o2)) := rfl
        rw [hb3]
        clear hb3 HZ HE h0 h1 h2
        generalize (o0 && (o1 && o2)) = oo at *
        cases oo with
        | false =>
          have HQ : Hid (z = 4) := HNE.out
          go_wp2_with fail
          go_ret
          exact ⟨ret_i HQ.out.symm, HLo.out⟩
        | true =>
          have HQ : Hid (z = if kindB p ⟨io, ia, ib, ic⟩ = true then 0 else 3) := HNE.out
          clear HNE
          by_cases hk1 : io = 23 ∨ io = 24
          · exact absurd (HC.out hk1).1 hx1
          · by_cases hk2 : io = 25 ∨ io = 26
            · have HKP : Hid (kindB p ⟨io, ia, ib, ic⟩ = decide (0 < p.shapes.length)) := kind_ptr hk2
              by_cases hs0 : p.shapes.length = 0
              · have HQ3 : Hid (z = 3) := by
                  unfold Hid
                  rw [HQ.out, HKP.out, decide_eq_false (by omega)]
                  rfl
                rw [hs0] at D1
                clear hs0 hk1 HQ HKP
                rcases hk2 with rfl | rfl
                all_goals
                  go_wp2_with fail
                  go_ret
                  exact ⟨ret_i HQ3.out.symm, HLo.out⟩
              · have HQ3 : Hid (z = 0) := by
                  unfold Hid
                  rw [HQ.out, HKP.out, decide_eq_true (by omega)]
                  rfl
                have hz1 : ((p.shapes.length : Int) == 0) = false := by simpa using hs0
                have hz2 : (p.shapes.length == 0) = false := by simpa using hs0
                clear hs0 hk1 HQ HKP
                rcases hk2 with rfl | rfl
                all_goals
                  go_wp2_with fail
                  go_ret
                  exact ⟨ret_i HQ3.out.symm, HLo.out⟩
            · have HQ3 : Hid (z = 0) := by
                unfold Hid
                rw [HQ.out, kind_else (by omega)]
                rfl
              have e23 : (io == 23) = false := by simpa using fun h => hk1 (Or.inl h)
              have e24 : (io == 24) = false := by simpa using fun h => hk1 (Or.inr h)
              have e25 : (io == 25) = false := by simpa using fun h => hk2 (Or.inl h)
              have e26 : (io == 26) = false := by simpa using fun h => hk2 (Or.inr h)
              clear hk1 hk2 HQ
              go_wp2_with fail
              go_ret
              exact ⟨ret_i HQ3.out.symm, HLo.out⟩

end Go.Proofs.Ytmacipjdmaaccaa

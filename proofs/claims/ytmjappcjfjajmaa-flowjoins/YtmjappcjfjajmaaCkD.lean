/- The walk of a site's placed. -/
import Derived.Test.YtmjappcjfjajmaaCkZ
import Derived.Test.YtmjappcjfjajmaaCkC
namespace Go.Proofs.Ytmjappcjfjajmaa
open Go.RowKit

theorem nm_range {op : Int} (h : kn op = true) : (0 ≤ (nm op).1 ∧ (nm op).1 ≤ 8) ∧ (0 ≤ (nm op).2.1 ∧ (nm op).2.1 ≤ 8) ∧ (0 ≤ (nm op).2.2 ∧ (nm op).2.2 ≤ 8) := by
  rcases kn_cases h with rfl | rfl | rfl | rfl | rfl | rfl | rfl | rfl | rfl | rfl | rfl | rfl | rfl | rfl | rfl | rfl | rfl | rfl | rfl | rfl | rfl | rfl | rfl | rfl | rfl | rfl | rfl | rfl | rfl | rfl <;> decide

def nmC (n0 n1 n2 : Int) (k : Nat) : Value := if k = 0 then .int .i64 n0 else if k = 1 then .int .i64 n1 else .int .i64 n2
theorem nm_box (w : World) (n0 n1 n2 : Int) : (w.alloc (.cells #[.int .i64 n0, .int .i64 n1, .int .i64 n2] 106)).rowIs w.heap.size 106 3 (nmC n0 n1 n2) :=
  World.rowIs_alloc w #[.int .i64 n0, .int .i64 n1, .int .i64 n2] 106 _ (fun k hk => by
    have : k = 0 ∨ k = 1 ∨ k = 2 := by simp at hk; omega
    rcases this with rfl | rfl | rfl <;> rfl)

/-- A site's box at the end of w, a box of names behind it. -/
structure OnN (w wk : World) (nb : Nat) (n0 n1 n2 : Int) (p : Pg) (f : Fn) (io ia ib ic : Int) (ag az af : Option Addr) (cg cs cf : Nat) (a0 a3 a4 : Option Addr) (c0 c3 c4 : Nat) : Prop where
  low : Below w.heap.size w wk
  box : SiC wk w.heap.size p f io ia ib ic ag az af cg cs cf a0 a3 a4 c0 c3 c4
  lt : w.heap.size < nb
  row : wk.rowIs nb 106 3 (nmC n0 n1 n2)
section
variable {p : Pg} {f : Fn} {io ia ib ic : Int} {ag az af a0 a3 a4 : Option Addr} {cg cs cf c0 c3 c4 : Nat} {w wk w2 : World} {nb : Nat} {n0 n1 n2 : Int}
theorem OnN.below (h : OnN w wk nb n0 n1 n2 p f io ia ib ic ag az af cg cs cf a0 a3 a4 c0 c3 c4) (hb : Below wk.heap.size wk w2) : OnN w w2 nb n0 n1 n2 p f io ia ib ic ag az af cg cs cf a0 a3 a4 c0 c3 c4 :=
  ⟨h.low.trans (hb.mono h.low.size), h.box.below hb h.box.lt, h.lt, h.row.of_block (hb.block _ h.row.lt)⟩
theorem OnN.drewN (h : OnN w wk nb n0 n1 n2 p f io ia ib ic ag az af cg cs cf a0 a3 a4 c0 c3 c4) (q : Nat) : OnN w (wk.drewN q) nb n0 n1 n2 p f io ia ib ic ag az af cg cs cf a0 a3 a4 c0 c3 c4 := h.below (below_drewN (Below.refl _ _) q)
theorem OnN.set0 (h : OnN w wk nb n0 n1 n2 p f io ia ib ic ag az af cg cs cf a0 a3 a4 c0 c3 c4) (v : Int) : OnN w (wk.setCell ⟨nb, 0, none⟩ (.int .i64 v)) nb v n1 n2 p f io ia ib ic ag az af cg cs cf a0 a3 a4 c0 c3 c4 := by
  have hB : Below nb wk (wk.setCell ⟨nb, 0, none⟩ (.int .i64 v)) := Below.setCell (Below.refl _ _) (p := ⟨nb, 0, none⟩) (Nat.le_refl _) _
  refine ⟨h.low.setCell (p := ⟨nb, 0, none⟩) (Nat.le_of_lt h.lt) _, h.box.below hB h.lt, h.lt, (h.row.set 0 _).congr fun k hk => ?_⟩
  have : k = 0 ∨ k = 1 ∨ k = 2 := by omega
  rcases this with rfl | rfl | rfl <;> rfl
theorem OnN.m (h : OnN w wk nb n0 n1 n2 p f io ia ib ic ag az af cg cs cf a0 a3 a4 c0 c3 c4) : wk.cell? ⟨nb, 0, none⟩ = some (.int .i64 n0) ∧ wk.cell? ⟨nb, 1, none⟩ = some (.int .i64 n1) ∧ wk.cell? ⟨nb, 2, none⟩ = some (.int .i64 n2) :=
  ⟨h.row.cell (i := 0) (by decide), h.row.cell (i := 1) (by decide), h.row.cell (i := 2) (by decide)⟩
end

/-- The first j of them are true. -/
def AllB (b0 b1 b2 : Bool) (j : Nat) : Prop := (0 < j → b0 = true) ∧ (1 < j → b1 = true) ∧ (2 < j → b2 = true)
def nmV (r : Bool) (n : Int) : Int := if r = true then 0 else n

set_option maxRecDepth 100000 in
set_option maxHeartbeats 8000000 in
theorem placed_core (p : Pg) (f : Fn) (io ia ib ic : Int) (ag az af : Option Addr) (cg cs cf : Nat) (a0 a3 a4 : Option Addr) (c0 c3 c4 : Nat) {n0 n1 n2 : Int} {b0 b1 b2 r : Bool} (hk : kn io = true) (hn : Hid (nm io = (n0, n1, n2))) (hr : Hid (resl p f ⟨io, ia, ib, ic⟩ = r))
    (hb0 : Hid (hasB p f (arN p ib) (nmV r n0) ia = b0)) (hb1 : Hid (hasB p f (arN p ib) n1 ib = b1)) (hb2 : Hid (hasB p f (arN p ib) n2 ic = b2)) (hfit : f.slots ≤ 9223372036854775807)
    (w : World) (hp : PgV Any w (.slice ag p.glob.length cg) (.slice az p.shapes.length cs) (.slice af p.funcs.length cf) p) (hf : FnC Any w f (.slice a0 f.args.length c0) (.int .i64 f.res) (.int .i64 f.slots) (.slice a3 f.objs.length c3) (.slice a4 f.code.length c4)) :
    Calls Try.prog 44 #[.agg #[.slice ag p.glob.length cg, .slice az p.shapes.length cs, .slice af p.funcs.length cf, .slice a0 f.args.length c0, .int .i64 f.res, .int .i64 f.slots, .slice a3 f.objs.length c3, .slice a4 f.code.length c4, .int .i64 io, .int .i64 ia, .int .i64 ib, .int .i64 ic]] w fun e w' => e = .returned (.bool (b0 && (b1 && b2))) ∧ Below w.heap.size w w' := by
  obtain ⟨wa, hwa⟩ : ∃ wa, w.alloc (.cells #[.slice ag p.glob.length cg, .slice az p.shapes.length cs, .slice af p.funcs.length cf, .slice a0 f.args.length c0, .int .i64 f.res, .int .i64 f.slots, .slice a3 f.objs.length c3, .slice a4 f.code.length c4, .int .i64 io, .int .i64 ia, .int .i64 ib, .int .i64 ic] 83) = wa := ⟨_, rfl⟩
  have HT : Hid (OnS w wa w.heap.size p f io ia ib ic ag az af cg cs cf a0 a3 a4 c0 c3 c4) := onS_start p f io ia ib ic ag az af cg cs cf a0 a3 a4 c0 c3 c4 hwa hp hf
  obtain ⟨d0, d1, d2, d3, d4, d5, d6, d7, d8, d9, d10, d11⟩ := HT.out.box.c
  have HFit : Hid (f.slots ≤ 9223372036854775807) := hfit
  have HP : Hid (PgV Any w (.slice ag p.glob.length cg) (.slice az p.shapes.length cs) (.slice af p.funcs.length cf) p ∧ FnC Any w f (.slice a0 f.args.length c0) (.int .i64 f.res) (.int .i64 f.slots) (.slice a3 f.objs.length c3) (.slice a4 f.code.length c4)) := ⟨hp, hf⟩
  have HK : Hid (kn io = true) := hk
  have HRg : Hid ((0 ≤ nmV r n0 ∧ nmV r n0 ≤ 8) ∧ (0 ≤ n1 ∧ n1 ≤ 8) ∧ (0 ≤ n2 ∧ n2 ≤ 8)) := by
    have := nm_range hk
    rw [hn.out] at this
    refine ⟨?_, this.2.1, this.2.2⟩
    unfold nmV
    split
    · decide
    · exact this.1
  clear hp hf hfit hk
  go_enter Try.func44, Try.ntmps44
  go_wp2_with fail
  refine (names_any HK.out hn _).mono ?_
  rintro e w1 ⟨rfl, hb⟩
  have hT1 := HT.out.below hb
  have HN : Hid (OnN w (w1.alloc (.cells #[.int .i64 n0, .int .i64 n1, .int .i64 n2] 106)) w1.heap.size n0 n1 n2 p f io ia ib ic ag az af cg cs cf a0 a3 a4 c0 c3 c4) :=
    ⟨hT1.low.alloc hT1.low.size _, hT1.box.below ((Below.refl _ _).alloc (Nat.le_refl _) _) hT1.box.lt, hT1.box.lt, nm_box _ _ _ _⟩
  obtain ⟨wn, hwn⟩ : ∃ wn, w1.alloc (.cells #[.int .i64 n0, .int .i64 n1, .int .i64 n2] 106) = wn := ⟨_, rfl⟩
  obtain ⟨nb, hnb⟩ : ∃ nb, w1.heap.size = nb := ⟨_, rfl⟩
  rw [hwn, hnb] at HN
  clear hb d0 d1 d2 d3 d4 d5 d6 d7 d8 d9 d10 d11 hT1 HT
  obtain ⟨d0, d1, d2, d3, d4, d5, d6, d7, d8, d9, d10, d11⟩ := HN.out.box.c
  go_wp2_with fail
  refine (resl_any p f io ia ib ic ag az af cg cs cf a0 a3 a4 c0 c3 c4 hr _ (HP.out.1.below HN.out.low) (HP.out.2.below HN.out.low)).mono ?_
  rintro e w2 ⟨rfl, hb⟩
  have HN2 : Hid (OnN w w2 nb n0 n1 n2 p f io ia ib ic ag az af cg cs cf a0 a3 a4 c0 c3 c4) := HN.out.below hb
  clear hb d0 d1 d2 d3 d4 d5 d6 d7 d8 d9 d10 d11 HN hwn hnb hwa
  clear hr
  obtain ⟨wx, hwx⟩ : ∃ wx, (if r = true then w2.setCell ⟨nb, 0, none⟩ (.int .i64 0) else w2) = wx := ⟨_, rfl⟩
  obtain ⟨m0, hm0⟩ : ∃ m0, nmV r n0 = m0 := ⟨_, rfl⟩
  have HX : Hid (OnN w wx nb m0 n1 n2 p f io ia ib ic ag az af cg cs cf a0 a3 a4 c0 c3 c4) := by
    rw [← hwx, ← hm0]
    cases r
    · exact HN2.out
    · exact HN2.out.set0 0
  rw [hm0] at hb0 HRg
  have hfr := HN2.out.row.frozen 0
  have hc0 := HN2.out.m.1
  clear HN2 hm0 HK hn
  have hw0 : r = false → w2 = wx := fun h => by rw [← hwx, h]; rfl
  have hw1 : r = true → w2.setCell ⟨nb, 0, none⟩ (.int .i64 0) = wx := fun h => by rw [← hwx, h]; rfl
  clear hwx
  obtain ⟨d0, d1, d2, d3, d4, d5, d6, d7, d8, d9, d10, d11⟩ := HX.out.box.c
  cases r
  all_goals
    try (obtain rfl := hw0 rfl)
    try (have hwx := hw1 rfl)
    clear hw0 hw1
    go_wp2_with fail
    try clear hwx
    clear d0 d1 d2 d3 d4 d5 d6 d7 d8 d9 d10 d11 hfr hc0
    go_loopw [4, 5, 23] (fun _ _ k wr => ∃ j : Nat, j ≤ 3 ∧ k = .int .i64 j ∧ Hid (OnN w wr nb m0 n1 n2 p f io ia ib ic ag az af cg cs cf a0 a3 a4 c0 c3 c4) ∧ Hid (AllB b0 b1 b2 j)) (fun _ _ k _ => 3 - (intOf k).toNat)
    case atStart => exact ⟨0, by decide, rfl, HX, by refine ⟨?_, ?_, ?_⟩ <;> intro h <;> omega⟩
    case round =>
      obtain ⟨j, hj, rfl, HR, HA⟩ := hrel
      clear HX
      have HL := HR.out.low
      have HP1 : Hid (PgV Any (wr.drewN 1) (.slice ag p.glob.length cg) (.slice az p.shapes.length cs) (.slice af p.funcs.length cf) p ∧ FnC Any (wr.drewN 1) f (.slice a0 f.args.length c0) (.int .i64 f.res) (.int .i64 f.slots) (.slice a3 f.objs.length c3) (.slice a4 f.code.length c4)) := ⟨HP.out.1.below (below_drewN HL 1), HP.out.2.below (below_drewN HL 1)⟩
      have HLo : Hid (Below w.heap.size w wr) := HL
      clear HL
      have hjc : j = 0 ∨ j = 1 ∨ j = 2 ∨ j = 3 := by omega
      obtain ⟨d0, d1, d2, d3, d4, d5, d6, d7, d8, d9, d10, d11⟩ := HR.out.box.c
      obtain ⟨g0, g1, g2⟩ := HR.out.m
      rcases hjc with rfl | rfl | rfl | rfl
      · have i0 : ∀ w, (Instr.index 108 (.agg #[.int .i64 ia, .int .i64 ib, .int .i64 ic]) (.int .i64 0)).run Try.prog w = .ok (.int .i64 ia) w := fun _ => by kernel_rfl
        go_upto_region 7 with (fail)
        go_region_held3 (fun w' => (w'.cell? ⟨w.heap.size, 0, none⟩ = some (.slice ag p.glob.length cg) ∧ w'.cell? ⟨w.heap.size, 1, none⟩ = some (.slice az p.shapes.length cs) ∧ w'.cell? ⟨w.heap.size, 2, none⟩ = some (.slice af p.funcs.length cf) ∧
            w'.cell? ⟨w.heap.size, 3, none⟩ = some (.slice a0 f.args.length c0) ∧ w'.cell? ⟨w.heap.size, 4, none⟩ = some (.int .i64 f.res) ∧ w'.cell? ⟨w.heap.size, 5, none⟩ = some (.int .i64 f.slots) ∧ w'.cell? ⟨w.heap.size, 6, none⟩ = some (.slice a3 f.objs.length c3) ∧ w'.cell? ⟨w.heap.size, 7, none⟩ = some (.slice a4 f.code.length c4) ∧
            w'.cell? ⟨w.heap.size, 8, none⟩ = some (.int .i64 io) ∧ w'.cell? ⟨w.heap.size, 9, none⟩ = some (.int .i64 ia) ∧ w'.cell? ⟨w.heap.size, 10, none⟩ = some (.int .i64 ib) ∧ w'.cell? ⟨w.heap.size, 11, none⟩ = some (.int .i64 ic)) ∧
            w'.cell? ⟨nb, 0, none⟩ = some (.int .i64 m0))
          (first | exact ⟨HR.out.box.c, HR.out.m.1⟩ | exact ⟨HR3.out.box.c, HR3.out.m.1⟩ | go_keep)
          (first
            | (go_at_call 68; refine (has_any p f io ia ib ic ag az af cg cs cf a0 a3 a4 c0 c3 c4 HRg.out.1 hb0 HFit.out (wr.drewN 1) HP1.out.1 HP1.out.2).mono ?_; rintro e w3 ⟨rfl, hb3⟩; have HR3 : Hid (OnN w w3 nb m0 n1 n2 p f io ia ib ic ag az af cg cs cf a0 a3 a4 c0 c3 c4) := (HR.out.drewN 1).below hb3; clear hb3))
        all_goals
          cases hbv : b0
          · have HQ : Hid ((b0 && (b1 && b2)) = false) := by unfold Hid; rw [hbv]; simp
            clear hbv
            go_wp2_with fail
            go_ret
            exact ⟨ret_bool HQ.out.symm, HR3.out.low⟩
          · have HA2 : Hid (AllB b0 b1 b2 1) := by
              refine ⟨fun _ => ?_, fun h => ?_, fun h => ?_⟩
              · first | exact hbv | exact HA.out.1 (by decide)
              · first | exact absurd h (by decide) | exact hbv | exact HA.out.2.1 (by decide)
              · first | exact absurd h (by decide) | exact hbv
            clear hbv
            go_wp2_with fail
            go_roundw
            case rel => exact ⟨1, by decide, by go_num, HR3, HA2⟩
            case measure => simp [intOf]
      · have i0 : ∀ w, (Instr.index 108 (.agg #[.int .i64 ia, .int .i64 ib, .int .i64 ic]) (.int .i64 1)).run Try.prog w = .ok (.int .i64 ib) w := fun _ => by kernel_rfl
        go_upto_region 7 with (fail)
        go_region_held3 (fun w' => (w'.cell? ⟨w.heap.size, 0, none⟩ = some (.slice ag p.glob.length cg) ∧ w'.cell? ⟨w.heap.size, 1, none⟩ = some (.slice az p.shapes.length cs) ∧ w'.cell? ⟨w.heap.size, 2, none⟩ = some (.slice af p.funcs.length cf) ∧
            w'.cell? ⟨w.heap.size, 3, none⟩ = some (.slice a0 f.args.length c0) ∧ w'.cell? ⟨w.heap.size, 4, none⟩ = some (.int .i64 f.res) ∧ w'.cell? ⟨w.heap.size, 5, none⟩ = some (.int .i64 f.slots) ∧ w'.cell? ⟨w.heap.size, 6, none⟩ = some (.slice a3 f.objs.length c3) ∧ w'.cell? ⟨w.heap.size, 7, none⟩ = some (.slice a4 f.code.length c4) ∧
            w'.cell? ⟨w.heap.size, 8, none⟩ = some (.int .i64 io) ∧ w'.cell? ⟨w.heap.size, 9, none⟩ = some (.int .i64 ia) ∧ w'.cell? ⟨w.heap.size, 10, none⟩ = some (.int .i64 ib) ∧ w'.cell? ⟨w.heap.size, 11, none⟩ = some (.int .i64 ic)) ∧
            w'.cell? ⟨nb, 1, none⟩ = some (.int .i64 n1))
          (first | exact ⟨HR.out.box.c, HR.out.m.2.1⟩ | exact ⟨HR3.out.box.c, HR3.out.m.2.1⟩ | go_keep)
          (first
            | (go_at_call 68; refine (has_any p f io ia ib ic ag az af cg cs cf a0 a3 a4 c0 c3 c4 HRg.out.2.1 hb1 HFit.out (wr.drewN 1) HP1.out.1 HP1.out.2).mono ?_; rintro e w3 ⟨rfl, hb3⟩; have HR3 : Hid (OnN w w3 nb m0 n1 n2 p f io ia ib ic ag az af cg cs cf a0 a3 a4 c0 c3 c4) := (HR.out.drewN 1).below hb3; clear hb3))
        all_goals
          cases hbv : b1
          · have HQ : Hid ((b0 && (b1 && b2)) = false) := by unfold Hid; rw [hbv]; simp
            clear hbv
            go_wp2_with fail
            go_ret
            exact ⟨ret_bool HQ.out.symm, HR3.out.low⟩
          · have HA2 : Hid (AllB b0 b1 b2 2) := by
              refine ⟨fun _ => ?_, fun h => ?_, fun h => ?_⟩
              · first | exact hbv | exact HA.out.1 (by decide)
              · first | exact absurd h (by decide) | exact hbv | exact HA.out.2.1 (by decide)
              · first | exact absurd h (by decide) | exact hbv
            clear hbv
            go_wp2_with fail
            go_roundw
            case rel => exact ⟨2, by decide, by go_num, HR3, HA2⟩
            case measure => simp [intOf]
      · have i0 : ∀ w, (Instr.index 108 (.agg #[.int .i64 ia, .int .i64 ib, .int .i64 ic]) (.int .i64 2)).run Try.prog w = .ok (.int .i64 ic) w := fun _ => by kernel_rfl
        go_upto_region 7 with (fail)
        go_region_held3 (fun w' => (w'.cell? ⟨w.heap.size, 0, none⟩ = some (.slice ag p.glob.length cg) ∧ w'.cell? ⟨w.heap.size, 1, none⟩ = some (.slice az p.shapes.length cs) ∧ w'.cell? ⟨w.heap.size, 2, none⟩ = some (.slice af p.funcs.length cf) ∧
            w'.cell? ⟨w.heap.size, 3, none⟩ = some (.slice a0 f.args.length c0) ∧ w'.cell? ⟨w.heap.size, 4, none⟩ = some (.int .i64 f.res) ∧ w'.cell? ⟨w.heap.size, 5, none⟩ = some (.int .i64 f.slots) ∧ w'.cell? ⟨w.heap.size, 6, none⟩ = some (.slice a3 f.objs.length c3) ∧ w'.cell? ⟨w.heap.size, 7, none⟩ = some (.slice a4 f.code.length c4) ∧
            w'.cell? ⟨w.heap.size, 8, none⟩ = some (.int .i64 io) ∧ w'.cell? ⟨w.heap.size, 9, none⟩ = some (.int .i64 ia) ∧ w'.cell? ⟨w.heap.size, 10, none⟩ = some (.int .i64 ib) ∧ w'.cell? ⟨w.heap.size, 11, none⟩ = some (.int .i64 ic)) ∧
            w'.cell? ⟨nb, 2, none⟩ = some (.int .i64 n2))
          (first | exact ⟨HR.out.box.c, HR.out.m.2.2⟩ | exact ⟨HR3.out.box.c, HR3.out.m.2.2⟩ | go_keep)
          (first
            | (go_at_call 68; refine (has_any p f io ia ib ic ag az af cg cs cf a0 a3 a4 c0 c3 c4 HRg.out.2.2 hb2 HFit.out (wr.drewN 1) HP1.out.1 HP1.out.2).mono ?_; rintro e w3 ⟨rfl, hb3⟩; have HR3 : Hid (OnN w w3 nb m0 n1 n2 p f io ia ib ic ag az af cg cs cf a0 a3 a4 c0 c3 c4) := (HR.out.drewN 1).below hb3; clear hb3))
        all_goals
          cases hbv : b2
          · have HQ : Hid ((b0 && (b1 && b2)) = false) := by unfold Hid; rw [hbv]; simp
            clear hbv
            go_wp2_with fail
            go_ret
            exact ⟨ret_bool HQ.out.symm, HR3.out.low⟩
          · have HA2 : Hid (AllB b0 b1 b2 3) := by
              refine ⟨fun _ => ?_, fun h => ?_, fun h => ?_⟩
              · first | exact hbv | exact HA.out.1 (by decide)
              · first | exact absurd h (by decide) | exact hbv | exact HA.out.2.1 (by decide)
              · first | exact absurd h (by decide) | exact hbv
            clear hbv
            go_wp2_with fail
            go_roundw
            case rel => exact ⟨3, by decide, by go_num, HR3, HA2⟩
            case measure => simp [intOf]
      · have HQ : Hid ((b0 && (b1 && b2)) = true) := by
          unfold Hid
          rw [HA.out.1 (by decide), HA.out.2.1 (by decide), HA.out.2.2 (by decide)]
          rfl
        go_wp2_with fail
        go_ret
        exact ⟨ret_bool HQ.out.symm, HLo.out⟩

theorem placed_any (p : Pg) (f : Fn) (io ia ib ic : Int) (ag az af : Option Addr) (cg cs cf : Nat) (a0 a3 a4 : Option Addr) (c0 c3 c4 : Nat) {s : Bool} (hs : Hid (placB p f ⟨io, ia, ib, ic⟩ = s)) (hk : kn io = true) (hfit : f.slots ≤ 9223372036854775807) (w : World) (hp : PgV Any w (.slice ag p.glob.length cg) (.slice az p.shapes.length cs) (.slice af p.funcs.length cf) p) (hf : FnC Any w f (.slice a0 f.args.length c0) (.int .i64 f.res) (.int .i64 f.slots) (.slice a3 f.objs.length c3) (.slice a4 f.code.length c4)) :
    Calls Try.prog 44 #[.agg #[.slice ag p.glob.length cg, .slice az p.shapes.length cs, .slice af p.funcs.length cf, .slice a0 f.args.length c0, .int .i64 f.res, .int .i64 f.slots, .slice a3 f.objs.length c3, .slice a4 f.code.length c4, .int .i64 io, .int .i64 ia, .int .i64 ib, .int .i64 ic]] w fun e w' => e = .returned (.bool s) ∧ Below w.heap.size w w' := by
  obtain rfl := hs.out
  exact placed_core p f io ia ib ic ag az af cg cs cf a0 a3 a4 c0 c3 c4 hk (show Hid (nm io = ((nm io).1, (nm io).2.1, (nm io).2.2)) from rfl) (show Hid (resl p f ⟨io, ia, ib, ic⟩ = resl p f ⟨io, ia, ib, ic⟩) from rfl) (show Hid (hasB p f (arN p ib) (nmV (resl p f ⟨io, ia, ib, ic⟩) (nm io).1) ia = _) from rfl) rfl rfl hfit w hp hf

end Go.Proofs.Ytmjappcjfjajmaa

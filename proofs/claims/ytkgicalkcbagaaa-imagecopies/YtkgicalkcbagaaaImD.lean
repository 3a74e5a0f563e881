/- The walk of image's Lay. -/
import Derived.Test.YtkgicalkcbagaaaImC
namespace Go.Proofs.Ytkgicalkcbagaaa
open Go.RowKit

/-- The bytes of a program, or none; the error. -/
def layPR (p : Pg) : ByteArray := if okP p = true then strOfNums (lyP p) else ⟨#[]⟩
def layPE (p : Pg) : Int := erN (okP p)

theorem all_snoc {α : Type} {L : List α} {j : Nat} {y : α} (f : α → Bool) (h : L[j]? = some y) : (L.take (j + 1)).all f = ((L.take j).all f && f y) := by
  obtain ⟨hlt, he⟩ := List.getElem?_eq_some_iff.1 h
  rw [List.take_succ_eq_append_getElem hlt, he]
  simp
theorem flat_snoc {α : Type} {L : List α} {j : Nat} {y : α} (f : α → List Int) (h : L[j]? = some y) : (L.take (j + 1)).flatMap f = (L.take j).flatMap f ++ f y := by
  obtain ⟨hlt, he⟩ := List.getElem?_eq_some_iff.1 h
  rw [List.take_succ_eq_append_getElem hlt, he]
  simp
theorem lyL_len (L : List Int) : (lyL L).length = L.length + 1 := rfl
theorem flatL_len (Ls : List (List Int)) : (Ls.flatMap lyL).length = szS Ls + Ls.length := by
  induction Ls with
  | nil => rfl
  | cons L Ls ih => rw [List.flatMap_cons, List.length_append, ih, lyL_len]; simp [szS]; omega
theorem lyF_len (f : Fn) : (lyF f).length ≤ 7 * szF f + 5 := by
  rw [lyF_parts]
  simp [lyL_len, layN_len, szF]
  omega
theorem flatF_len (Fs : List Fn) : (Fs.flatMap lyF).length ≤ 7 * szFs Fs + 5 * Fs.length := by
  induction Fs with
  | nil => simp
  | cons f Fs ih =>
    have := lyF_len f
    rw [List.flatMap_cons, List.length_append]
    simp [szFs] at ih ⊢
    omega

/-- The program's box. -/
def pgC (vg vs vf : Value) (i : Nat) : Value := if i = 0 then vg else if i = 1 then vs else vf

theorem lyP_parts (p : Pg) : lyP p = (((lyL p.glob ++ [(p.shapes.length : Int)]) ++ p.shapes.flatMap lyL) ++ [(p.funcs.length : Int)]) ++ p.funcs.flatMap lyF := by
  simp [lyP]
theorem okP_parts (p : Pg) : okP p = ((((okL p.glob && decide (p.shapes.length ≤ 255)) && p.shapes.all okL) && decide (p.funcs.length ≤ 255)) && p.funcs.all okF) := rfl

theorem ret_lay {p : Pg} {s : ByteArray} {n : Int} (h : s = layPR p) (h' : n = layPE p) : Ending.returned (.tuple #[.string s, .int .i64 n]) = .returned (.tuple #[.string (layPR p), .int .i64 (layPE p)]) := by rw [h, h']

/-- In the midst of Lay: t was laid, the program and its box stand. -/
structure LyAt (wb wk : World) (B : Nat) (vg vs vf : Value) (p : Pg) (t : List Int) (o : Bool) : Prop where
  wr : WrTo wb wk B (B + 1) [] true t o
  pg : PgV (Lo B) wk vg vs vf p
  box : wk.rowIs B 26 3 (pgC vg vs vf)
theorem LyAt.next {wb wk : World} {B : Nat} {vg vs vf : Value} {p : Pg} {t : List Int} {o : Bool} (h : LyAt wb wk B vg vs vf p t o) :
    ∃ M1, Wr wk B (B + 1) M1 (true && o) ∧ M1.length ≤ t.length ∧ ((true && o) = true → M1 = t) ∧ ∀ w2 t' o', WrTo wk w2 B (B + 1) M1 (true && o) t' o' → LyAt wb w2 B vg vs vf p (t ++ t') (o && o') := by
  obtain ⟨M1, g1, g2, g3, g4⟩ := h.wr
  exact ⟨M1, g1, by simpa using g3, by simpa using g2, fun w2 t' o' hw => ⟨WrTo.step g2 g3 g4 hw, h.pg.stay (Stay.tw hw.low), hw.low.row h.box (by decide)⟩⟩
theorem LyAt.below {wb wk w2 : World} {B : Nat} {vg vs vf : Value} {p : Pg} {t : List Int} {o : Bool} (h : LyAt wb wk B vg vs vf p t o) (hb : Below wk.heap.size wk w2) : LyAt wb w2 B vg vs vf p t o := by
  obtain ⟨M1, g1, g2, g3, g4⟩ := h.wr
  exact ⟨⟨M1, g1.below hb, g2, g3, g4.trans (tw_of hb)⟩, h.pg.below hb, h.box.of_block (hb.block _ h.box.lt)⟩
theorem LyAt.c {wb wk : World} {B : Nat} {vg vs vf : Value} {p : Pg} {t : List Int} {o : Bool} (h : LyAt wb wk B vg vs vf p t o) : wk.cell? ⟨B, 0, none⟩ = some vg ∧ wk.cell? ⟨B, 1, none⟩ = some vs ∧ wk.cell? ⟨B, 2, none⟩ = some vf :=
  ⟨h.box.cell (i := 0) (by decide), h.box.cell (i := 1) (by decide), h.box.cell (i := 2) (by decide)⟩

set_option maxRecDepth 100000 in
set_option maxHeartbeats 4000000 in
theorem layP_any (p : Pg) (ag az af : Option Addr) (cg cs cf : Nat) (w : World) (h : PgV Any w (.slice ag p.glob.length cg) (.slice az p.shapes.length cs) (.slice af p.funcs.length cf) p) (hz : szP p ≤ 3000) :
    Calls Try.prog 7 #[.agg #[.slice ag p.glob.length cg, .slice az p.shapes.length cs, .slice af p.funcs.length cf]] w fun e w' => e = .returned (.tuple #[.string (layPR p), .int .i64 (layPE p)]) ∧ Below w.heap.size w w' := by
  obtain ⟨i0, hi, hz0, hz1, hz2⟩ := info_parts Try.info5
  have hz' : p.glob.length + p.shapes.length + p.funcs.length + szS p.shapes + szFs p.funcs ≤ 3000 := hz
  obtain ⟨B, hBw⟩ : ∃ B, w.heap.size = B := ⟨_, rfl⟩
  have hP0 : PgV (Lo B) w (.slice ag p.glob.length cg) (.slice az p.shapes.length cs) (.slice af p.funcs.length cf) p := h.mono (fun b hb _ => by rw [← hBw]; exact hb)
  obtain ⟨wb, hwb⟩ : ∃ wb, (w.alloc (.cells #[.slice ag p.glob.length cg, .slice az p.shapes.length cs, .slice af p.funcs.length cf] 26)).alloc (.cells #[.slice none 0 0, .int .i64 0] 52) = wb := ⟨_, rfl⟩
  have hBB : Below B w wb := by
    rw [← hwb, ← hBw]
    exact ((Below.refl _ _).alloc (Nat.le_refl _) _).alloc (by simp) _
  have hC : wb.rowIs B 26 3 (pgC (.slice ag p.glob.length cg) (.slice az p.shapes.length cs) (.slice af p.funcs.length cf)) := by
    rw [← hwb, ← hBw]
    exact (World.rowIs_alloc w #[.slice ag p.glob.length cg, .slice az p.shapes.length cs, .slice af p.funcs.length cf] 26 _ (fun k hk => by
      have : k = 0 ∨ k = 1 ∨ k = 2 := by simp at hk; omega
      rcases this with rfl | rfl | rfl <;> rfl)).alloc _
  have hW : Wr wb B (B + 1) [] true := by
    refine ⟨by omega, .slice none 0 0, ?_, World.ownsRow_nil _ _ _ _⟩
    rw [← hwb, ← hBw]
    have := World.rowIs_alloc (w.alloc (.cells #[.slice ag p.glob.length cg, .slice az p.shapes.length cs, .slice af p.funcs.length cf] 26)) #[.slice none 0 0, .int .i64 0] 52 (wrC (.slice none 0 0) true) (fun k hk => by
      have : k = 0 ∨ k = 1 := by simp at hk; omega
      rcases this with rfl | rfl <;> rfl)
    simpa using this
  have hL : LyAt wb wb B (.slice ag p.glob.length cg) (.slice az p.shapes.length cs) (.slice af p.funcs.length cf) p [] true := ⟨⟨[], hW, fun _ => rfl, by simp, tw_refl _ _⟩, hP0.stay (Stay.of_below hBB fun _ _ hb => hb), hC⟩
  obtain ⟨d0, d1, d2⟩ := hL.c
  obtain ⟨M0, g1, g2, _, g3⟩ := hL.next
  have HG : Hid (Wr wb B (B + 1) M0 (true && true)) := g1
  have HN : Hid (∀ w2 t' o', WrTo wb w2 B (B + 1) M0 (true && true) t' o' → LyAt wb w2 B (.slice ag p.glob.length cg) (.slice az p.shapes.length cs) (.slice af p.funcs.length cf) p ([] ++ t') (true && o')) := g3
  have HL : Hid (LyAt wb wb B (.slice ag p.glob.length cg) (.slice az p.shapes.length cs) (.slice af p.funcs.length cf) p [] true) := hL
  have HBB : Hid (Below B w wb) := hBB
  have HZ : Hid (p.glob.length + p.shapes.length + p.funcs.length + szS p.shapes + szFs p.funcs ≤ 3000) := hz
  have hs3 : p.shapes.length ≤ 3000 := by omega
  have hf3 : p.funcs.length ≤ 3000 := by omega
  have hM0 : M0.length ≤ 0 := by simpa using g2
  have HM0 : Hid (M0.length ≤ 0) := hM0
  clear h hP0 hBB hC hW hz hz' hL g1 g2 g3 hM0
  go_enter Try.func7, Try.ntmps7
  go_wp2_with fail
  refine (wlist_any p.glob ag cg HG.out HL.out.pg.glob (by have := HM0.out; have := HZ.out; omega)).mono ?_
  rintro e w1 ⟨rfl, h1⟩
  have hL1 := HN.out w1 _ _ h1
  obtain ⟨e0, e1, e2⟩ := hL1.c
  obtain ⟨M1, g1, g2, _, g3⟩ := hL1.next
  clear HG HN HL HM0 d0 d1 d2 h1
  have HG : Hid (Wr w1 B (B + 1) M1 (true && (true && okL p.glob))) := g1
  have HN : Hid (∀ w2 t' o', WrTo w1 w2 B (B + 1) M1 (true && (true && okL p.glob)) t' o' → LyAt wb w2 B (.slice ag p.glob.length cg) (.slice az p.shapes.length cs) (.slice af p.funcs.length cf) p ([] ++ lyL p.glob ++ t') (true && okL p.glob && o')) := g3
  have HM1 : Hid (M1.length ≤ 3001) := by
    have := HZ.out
    simp [lyL_len] at g2
    unfold Hid
    omega
  clear g1 g2 g3 hL1
  go_wp2_with fail
  refine (number_any _ HG.out (by have := HM1.out; omega)).mono ?_
  rintro e w2 ⟨rfl, h2⟩
  have hL2 := HN.out w2 _ _ h2
  rw [ok1_len] at hL2
  have HL2 : Hid (LyAt wb w2 B (.slice ag p.glob.length cg) (.slice az p.shapes.length cs) (.slice af p.funcs.length cf) p (([] ++ lyL p.glob) ++ [(p.shapes.length : Int)]) ((true && okL p.glob) && decide (p.shapes.length ≤ 255))) := hL2
  clear HG HN HM1 e0 e1 e2 h2
  obtain ⟨d0, d1, d2⟩ := hL2.c
  clear hL2 d0 d2
  go_wp2_with fail
  clear d1
  go_loopw [6, 23] (fun _ k wr => ∃ j : Nat, j ≤ p.shapes.length ∧ k = .int .i64 j ∧ Hid (LyAt wb wr B (.slice ag p.glob.length cg) (.slice az p.shapes.length cs) (.slice af p.funcs.length cf) p ((([] ++ lyL p.glob) ++ [(p.shapes.length : Int)]) ++ (p.shapes.take j).flatMap lyL) (((true && okL p.glob) && decide (p.shapes.length ≤ 255)) && (p.shapes.take j).all okL))) (fun _ k _ => p.shapes.length - (intOf k).toNat)
  case atStart => exact ⟨0, Nat.zero_le _, rfl, by unfold Hid; simpa using HL2.out⟩
  case round =>
    obtain ⟨j, hj, rfl, HR⟩ := hrel
    clear HL2
    by_cases hlt : j < p.shapes.length
    · obtain ⟨L, hL⟩ : ∃ L, p.shapes[j]? = some L := ⟨_, List.getElem?_eq_getElem hlt⟩
      obtain ⟨b, off, v, rfl, hb, hP, hc, hsrc⟩ := HR.out.pg.shapes.some hL
      obtain ⟨la, lc, rfl⟩ := hsrc.len
      have hltI : (j : Int) < (p.shapes.length : Int) := by omega
      obtain ⟨wa, hwa⟩ : ∃ wa, wr.alloc (.cells #[.slice la L.length lc] 42) = wa := ⟨_, rfl⟩
      have hA : Below wr.heap.size wr wa := hwa ▸ (Below.refl _ _).alloc (Nat.le_refl _) _
      have hcA : wa.cell? ⟨wr.heap.size, 0, none⟩ = some (.slice la L.length lc) := hwa ▸ cell_new wr _ _ rfl
      have hLA := HR.out.below hA
      obtain ⟨M3, g1, g2, _, g3⟩ := hLA.next
      have HG : Hid (Wr wa B (B + 1) M3 (true && ((true && okL p.glob && decide (p.shapes.length ≤ 255)) && (p.shapes.take j).all okL))) := g1
      have HS : Hid (SrcP (Lo B) wa (.slice la L.length lc) L) := hsrc.stay (Stay.all hA)
      have HM : Hid (M3.length + L.length ≤ 20000) := by
        have h1 := HZ.out
        have h2 := szS_mem hL
        have h3 := szS_le p.shapes j
        have h4 := flatL_len (p.shapes.take j)
        simp only [List.length_append, List.length_nil, lyL_len, List.length_cons, List.length_take] at g2 h4
        unfold Hid
        omega
      have HN : Hid (∀ w2, WrTo wa w2 B (B + 1) M3 (true && ((true && okL p.glob && decide (p.shapes.length ≤ 255)) && (p.shapes.take j).all okL)) (lyL L) (okL L) → LyAt wb w2 B (.slice ag p.glob.length cg) (.slice (some ⟨b, off, none⟩) p.shapes.length cs) (.slice af p.funcs.length cf) p ((([] ++ lyL p.glob) ++ [(p.shapes.length : Int)]) ++ (p.shapes.take (j + 1)).flatMap lyL) (((true && okL p.glob) && decide (p.shapes.length ≤ 255)) && (p.shapes.take (j + 1)).all okL)) := fun w2 hw => by
        have := g3 w2 _ _ hw
        rw [all_snoc okL hL, flat_snoc lyL hL, ← List.append_assoc, ← Bool.and_assoc]
        exact this
      clear g1 g2 g3 hLA hA HR hsrc hL hb hP
      go_wp2_with fail
      refine (wlist_any L la lc HG.out HS.out (by have := HM.out; omega)).mono ?_
      rintro e w3 ⟨rfl, h3⟩
      have h3' := HN.out w3 h3
      have H3 : Hid (LyAt wb w3 B (.slice ag p.glob.length cg) (.slice (some ⟨b, off, none⟩) p.shapes.length cs) (.slice af p.funcs.length cf) p ((([] ++ lyL p.glob) ++ [(p.shapes.length : Int)]) ++ (p.shapes.take (j + 1)).flatMap lyL) (((true && okL p.glob) && decide (p.shapes.length ≤ 255)) && (p.shapes.take (j + 1)).all okL)) := h3'
      clear h3' h3 HN HM HS HG hc hcA
      go_wp2_with fail
      go_roundw
      case rel => exact ⟨j + 1, by omega, by go_num, H3⟩
      case measure => simp [intOf]; omega
    · have e : j = p.shapes.length := by omega
      subst e
      have hL3 := HR.out
      rw [List.take_length] at hL3
      obtain ⟨M4, g1, g2, _, g3⟩ := hL3.next
      obtain ⟨d0, d1, d2⟩ := hL3.c
      have HG : Hid (Wr wr B (B + 1) M4 (true && (((true && okL p.glob) && decide (p.shapes.length ≤ 255)) && p.shapes.all okL))) := g1
      have HN : Hid (∀ w2 t' o', WrTo wr w2 B (B + 1) M4 (true && (((true && okL p.glob) && decide (p.shapes.length ≤ 255)) && p.shapes.all okL)) t' o' → LyAt wb w2 B (.slice ag p.glob.length cg) (.slice az p.shapes.length cs) (.slice af p.funcs.length cf) p (((([] ++ lyL p.glob) ++ [(p.shapes.length : Int)]) ++ p.shapes.flatMap lyL) ++ t') ((((true && okL p.glob) && decide (p.shapes.length ≤ 255)) && p.shapes.all okL) && o')) := g3
      have HM : Hid (M4.length ≤ 20000) := by
        have h1 := HZ.out
        have h4 := flatL_len p.shapes
        simp only [List.length_append, List.length_nil, lyL_len, List.length_cons] at g2 h4
        unfold Hid
        omega
      clear g1 g2 g3 hL3 HR d0 d1
      go_wp2_with fail
      refine (number_any _ HG.out (by have := HM.out; omega)).mono ?_
      rintro e w5 ⟨rfl, h5⟩
      have hL5 := HN.out w5 _ _ h5
      rw [ok1_len] at hL5
      have HL5 : Hid (LyAt wb w5 B (.slice ag p.glob.length cg) (.slice az p.shapes.length cs) (.slice af p.funcs.length cf) p (((([] ++ lyL p.glob) ++ [(p.shapes.length : Int)]) ++ p.shapes.flatMap lyL) ++ [(p.funcs.length : Int)]) ((((true && okL p.glob) && decide (p.shapes.length ≤ 255)) && p.shapes.all okL) && decide (p.funcs.length ≤ 255))) := hL5
      clear HG HN HM d2 h5
      obtain ⟨d0, d1, d2⟩ := hL5.c
      clear hL5 d0 d1
      go_wp2_with fail
      clear d2
      obtain ⟨wq, hwq⟩ : ∃ wq, wq = wr := ⟨_, rfl⟩
      subst hwq
      go_loopw [8, 40] (fun _ k wr => ∃ j : Nat, j ≤ p.funcs.length ∧ k = .int .i64 j ∧ Hid (LyAt wb wr B (.slice ag p.glob.length cg) (.slice az p.shapes.length cs) (.slice af p.funcs.length cf) p ((((([] ++ lyL p.glob) ++ [(p.shapes.length : Int)]) ++ p.shapes.flatMap lyL) ++ [(p.funcs.length : Int)]) ++ (p.funcs.take j).flatMap lyF) (((((true && okL p.glob) && decide (p.shapes.length ≤ 255)) && p.shapes.all okL) && decide (p.funcs.length ≤ 255)) && (p.funcs.take j).all okF))) (fun _ k _ => p.funcs.length - (intOf k).toNat)
      case atStart => exact ⟨0, Nat.zero_le _, rfl, by unfold Hid; simpa using HL5.out⟩
      case round =>
        obtain ⟨j, hj, rfl, HR⟩ := hrel
        clear HL5
        by_cases hlt : j < p.funcs.length
        · obtain ⟨f, hf⟩ : ∃ f, p.funcs[j]? = some f := ⟨_, List.getElem?_eq_getElem hlt⟩
          obtain ⟨b, off, v0, v1, v2, v3, v4, rfl, hb, hP, k0, k1, k2, k3, k4, hfc⟩ := HR.out.pg.funcs.some hf
          obtain ⟨a0, c0, a3, c3, a4, c4, rfl, rfl, rfl⟩ := hfc.lens
          obtain rfl := hfc.res
          obtain rfl := hfc.slots
          have hltI : (j : Int) < (p.funcs.length : Int) := by omega
          obtain ⟨wa, hwa⟩ : ∃ wa, wr.alloc (.cells #[.slice a0 f.args.length c0, .int .i64 f.res, .int .i64 f.slots, .slice a3 f.objs.length c3, .slice a4 f.code.length c4] 45) = wa := ⟨_, rfl⟩
          have hA : Below wr.heap.size wr wa := hwa ▸ (Below.refl _ _).alloc (Nat.le_refl _) _
          have m0 : wa.cell? ⟨wr.heap.size, 0, none⟩ = some (.slice a0 f.args.length c0) := hwa ▸ cell_new wr _ _ rfl
          have m1 : wa.cell? ⟨wr.heap.size, 1, none⟩ = some (.int .i64 f.res) := hwa ▸ cell_new wr _ _ rfl
          have m2 : wa.cell? ⟨wr.heap.size, 2, none⟩ = some (.int .i64 f.slots) := hwa ▸ cell_new wr _ _ rfl
          have m3 : wa.cell? ⟨wr.heap.size, 3, none⟩ = some (.slice a3 f.objs.length c3) := hwa ▸ cell_new wr _ _ rfl
          have m4 : wa.cell? ⟨wr.heap.size, 4, none⟩ = some (.slice a4 f.code.length c4) := hwa ▸ cell_new wr _ _ rfl
          have hLA := HR.out.below hA
          obtain ⟨M3, g1, g2, _, g3⟩ := hLA.next
          have HG : Hid (Wr wa B (B + 1) M3 (true && (((((true && okL p.glob) && decide (p.shapes.length ≤ 255)) && p.shapes.all okL) && decide (p.funcs.length ≤ 255)) && (p.funcs.take j).all okF))) := g1
          have HS : Hid (FnC (Lo B) wa f (.slice a0 f.args.length c0) (.int .i64 f.res) (.int .i64 f.slots) (.slice a3 f.objs.length c3) (.slice a4 f.code.length c4)) := hfc.stay (Stay.all hA)
          have HM : Hid (M3.length ≤ 40000 ∧ szF f ≤ 5000) := by
            have h1 := HZ.out
            have h2 := szFs_mem hf
            have h3 := szFs_le p.funcs j
            have h4 := flatF_len (p.funcs.take j)
            have h5 := flatL_len p.shapes
            simp only [List.length_append, List.length_nil, lyL_len, List.length_cons, List.length_take] at g2 h4 h5
            unfold Hid
            omega
          have HN : Hid (∀ w2, WrTo wa w2 B (B + 1) M3 (true && (((((true && okL p.glob) && decide (p.shapes.length ≤ 255)) && p.shapes.all okL) && decide (p.funcs.length ≤ 255)) && (p.funcs.take j).all okF)) (lyF f) (okF f) → LyAt wb w2 B (.slice ag p.glob.length cg) (.slice az p.shapes.length cs) (.slice (some ⟨b, off, none⟩) p.funcs.length cf) p ((((([] ++ lyL p.glob) ++ [(p.shapes.length : Int)]) ++ p.shapes.flatMap lyL) ++ [(p.funcs.length : Int)]) ++ (p.funcs.take (j + 1)).flatMap lyF) (((((true && okL p.glob) && decide (p.shapes.length ≤ 255)) && p.shapes.all okL) && decide (p.funcs.length ≤ 255)) && (p.funcs.take (j + 1)).all okF)) := fun w2 hw => by
            have := g3 w2 _ _ hw
            rw [all_snoc okF hf, flat_snoc lyF hf, ← List.append_assoc, ← Bool.and_assoc]
            exact this
          clear g1 g2 g3 hLA hA HR hfc hf hb hP
          go_wp2_with fail
          refine (wfunc_any f a0 a3 a4 c0 c3 c4 HG.out HS.out HM.out.1 HM.out.2).mono ?_
          rintro e w6 ⟨rfl, h6⟩
          have h6' := HN.out w6 h6
          have H6 : Hid (LyAt wb w6 B (.slice ag p.glob.length cg) (.slice az p.shapes.length cs) (.slice (some ⟨b, off, none⟩) p.funcs.length cf) p ((((([] ++ lyL p.glob) ++ [(p.shapes.length : Int)]) ++ p.shapes.flatMap lyL) ++ [(p.funcs.length : Int)]) ++ (p.funcs.take (j + 1)).flatMap lyF) (((((true && okL p.glob) && decide (p.shapes.length ≤ 255)) && p.shapes.all okL) && decide (p.funcs.length ≤ 255)) && (p.funcs.take (j + 1)).all okF)) := h6'
          clear h6' h6 HN HM HS HG k0 k1 k2 k3 k4 m0 m1 m2 m3 m4
          go_wp2_with fail
          go_roundw
          case rel => exact ⟨j + 1, by omega, by go_num, H6⟩
          case measure => simp [intOf]; omega
        · have e : j = p.funcs.length := by omega
          subst e
          have hL3 := HR.out
          rw [List.take_length] at hL3
          obtain ⟨M4, g1, g2, g5, g3⟩ := hL3.next
          obtain ⟨sv, k1, k2⟩ := g1.hd
          have hoo : (true && (((((true && okL p.glob) && decide (p.shapes.length ≤ 255)) && p.shapes.all okL) && decide (p.funcs.length ≤ 255)) && p.funcs.all okF)) = okP p := by rw [okP_parts]; simp only [Bool.true_and]
          have htt : (((([] ++ lyL p.glob) ++ [(p.shapes.length : Int)]) ++ p.shapes.flatMap lyL) ++ [(p.funcs.length : Int)]) ++ p.funcs.flatMap lyF = lyP p := by rw [lyP_parts]; simp only [List.nil_append]
          rw [hoo] at k1 g5
          rw [htt] at g5
          have HB9 : Hid (Below B w wr) := HBB.out.trans (hL3.wr.choose_spec.2.2.2.below (by have := HBB.out.size; omega))
          clear g1 g2 g3 hL3 HR hoo htt
          cases hk : okP p with
          | false =>
            rw [hk] at k1
            have c1 : wr.cell? ⟨B + 1, 1, none⟩ = some (.int .i64 1) := k1.cell (i := 1) (by decide)
            have hr1 : Hid ((⟨#[]⟩ : ByteArray) = layPR p ∧ (1 : Int) = layPE p) := by unfold Hid layPR layPE; rw [hk]; exact ⟨rfl, rfl⟩
            clear k1 k2 g5 hk
            go_upto_region 16 with (fail)
            go_quiet (fail)
            go_wp2_with fail
            go_ret2
            exact ⟨ret_lay hr1.out.1 hr1.out.2, by rw [hBw]; exact below_drewN HB9.out _⟩
          | true =>
            rw [hk] at k1
            obtain rfl := g5 hk
            have c1 : wr.cell? ⟨B + 1, 1, none⟩ = some (.int .i64 0) := k1.cell (i := 1) (by decide)
            have c0 : wr.cell? ⟨B + 1, 0, none⟩ = some sv := k1.cell (i := 0) (by decide)
            have hr1 : Hid (strOfNums (lyP p) = layPR p ∧ (0 : Int) = layPE p) := by unfold Hid layPR layPE; rw [hk]; exact ⟨rfl, rfl⟩
            rcases k2.2 with ⟨rfl, h0⟩ | ⟨g, cap, cur, rfl, _⟩
            · rw [lyP_parts] at h0; simp at h0
            · have hcv := str_bytes k2
              clear k1 k2 g5 hk
              go_wp2_with fail
              go_ret2
              exact ⟨ret_lay hr1.out.1 hr1.out.2, by rw [hBw]; exact HB9.out⟩

end Go.Proofs.Ytkgicalkcbagaaa

/- The walks of image's writer, two more: code, function. -/
import Derived.Test.YtkgicalkcbagaaaImB
namespace Go.Proofs.Ytkgicalkcbagaaa
open Go.RowKit

theorem WrTo.join {w w1 w2 : World} {B x : Nat} {M : List Int} {ok o o' p : Bool} {t t' u : List Int} (h : WrTo w w1 B x M ok t o) (h2 : ∀ M1, Wr w1 B x M1 (ok && o) → M1.length ≤ M.length + t.length → WrTo w1 w2 B x M1 (ok && o) t' o') (hu : u = t ++ t') (hp : p = (o && o')) : WrTo w w2 B x M ok u p := by
  obtain ⟨M1, g1, g2, g3, g4⟩ := h
  subst hu hp
  exact WrTo.step g2 g3 g4 (h2 M1 g1 g3)
theorem WrTo.low {w w1 : World} {B x : Nat} {M : List Int} {ok o : Bool} {t : List Int} (h : WrTo w w1 B x M ok t o) : Tw B w w1 := by
  obtain ⟨M1, g1, g2, g3, g4⟩ := h
  exact g4

theorem wcode_big {L : List Ins} (a : Option Addr) (c : Nat) {w : World} {B x : Nat} {M : List Int} {ok : Bool} (h : Wr w B x M ok) (hl : M.length ≤ 90000) (hb : (ok && decide (L.length ≤ 255)) = false) :
    Calls Try.prog 34 #[.pointer (some ⟨x, 0, none⟩), .slice a L.length c] w fun e w' => e = .returned (.tuple #[]) ∧ WrTo w w' B x M ok ((L.length : Int) :: layN L) (decide (L.length ≤ 255) && L.all fit) := by
  have HW : Hid (Wr w B x M ok) := h
  have HF : Hid ((ok && decide (L.length ≤ 255)) = false) := hb
  clear h hb
  go_enter Try.func34, Try.ntmps34
  go_wp2_with fail
  refine (number_any _ HW.out (by omega)).mono ?_
  rintro e w1 ⟨rfl, M1, h1, h2, h3, h4⟩
  rw [ok1_len, HF.out] at h1
  have HR : Hid (WrTo w w1 B x M ok ((L.length : Int) :: layN L) (decide (L.length ≤ 255) && L.all fit)) := by
    refine ⟨M1, ?_, fun e => ?_, by simp at h3 ⊢; omega, h4⟩
    · rw [← Bool.and_assoc, HF.out, Bool.false_and]; exact h1
    · rw [← Bool.and_assoc, HF.out, Bool.false_and] at e; cases e
  obtain ⟨sv, k1, _⟩ := h1.hd
  have c1 : w1.cell? ⟨x, 1, none⟩ = some (.int .i64 1) := k1.cell (i := 1) (by decide)
  clear h1 h2 h3 h4 k1
  go_wp2_with fail
  refine bodyPost_ret (results_none rfl _ _ _) rfl ?_
  exact ⟨rfl, HR.out⟩

theorem layE_er (L : List Ins) : layE L = erN (L.all fit) := rfl

set_option maxRecDepth 100000 in
set_option maxHeartbeats 2000000 in
theorem wcode_in {L : List Ins} (a : Option Addr) (c : Nat) {w : World} {B x : Nat} {M : List Int} (h : Wr w B x M true) (hs : SrcJ (Lo B) w (.slice a L.length c) L) (hl : M.length ≤ 80000) (hb : L.length ≤ 255) :
    Calls Try.prog 34 #[.pointer (some ⟨x, 0, none⟩), .slice a L.length c] w fun e w' => e = .returned (.tuple #[]) ∧ WrTo w w' B x M true ((L.length : Int) :: layN L) (L.all fit) := by
  obtain ⟨i0, hi, hz0, hz1, hz2⟩ := info_parts Try.info5
  have HW : Hid (Wr w B x M true) := h
  have HS : Hid (SrcJ (Lo B) w (.slice a L.length c) L) := hs
  clear h hs
  go_enter Try.func34, Try.ntmps34
  go_wp2_with fail
  refine (number_any _ HW.out (by omega)).mono ?_
  rintro e w1 ⟨rfl, M1, h1, h2, h3, h4⟩
  have hd : decide (L.length ≤ 255) = true := decide_eq_true hb
  rw [ok1_len, hd] at h1 h2
  have HM : Hid (M1 = M ++ [(L.length : Int)]) := h2 rfl
  have HS1 : Hid (SrcI w1 (.slice a L.length c) L) := (HS.out.stay (Stay.tw h4)).at_
  have H1 : Hid (Wr w1 B x M1 true) := h1
  have HB1 : Hid (Tw B w w1) := h4
  obtain ⟨sv, k1, _⟩ := h1.hd
  have c1 : w1.cell? ⟨x, 1, none⟩ = some (.int .i64 0) := k1.cell (i := 1) (by decide)
  clear h1 h2 h3 h4 k1 HW HS hd
  go_wp2_with fail
  refine (lay_any L _ _ (by omega) HS1.out).mono ?_
  rintro e w2 ⟨rfl, hB2⟩
  have h2 := H1.out.below hB2
  have HB2 : Hid (Tw B w w2) := HB1.out.trans (tw_of hB2)
  clear hB2 H1 HB1 HS1 c1
  obtain ⟨sv, k1, k2⟩ := h2.hd
  obtain ⟨sa, sc, rfl⟩ := own_len k2
  have hx := h2.ge
  have hlt := h2.lt
  have c0 : w2.cell? ⟨x, 0, none⟩ = some (.slice sa M1.length sc) := k1.cell (i := 0) (by decide)
  have HO : Hid (w2.ownsRow B 5 1 (.slice sa M1.length sc) M1.length (M1.map (Value.int .u8))) := k2
  have HR : Hid (w2.rowIs x 52 2 (wrC (.slice sa M1.length sc) true)) := k1
  have hML : Hid (M1.length = M.length + 1) := by unfold Hid; rw [HM.out]; simp
  obtain ⟨t, ht⟩ : ∃ t : List Int, Hid (layR L = strOfNums t ∧ (∀ x ∈ t, 0 ≤ x ∧ x < 256) ∧ t.length ≤ (layN L).length ∧ (L.all fit = true → t = layN L)) := by
    cases hf : L.all fit with
    | true => exact ⟨layN L, by unfold layR layS; rw [if_pos hf], layN_byt hf, Nat.le_refl _, fun _ => rfl⟩
    | false => exact ⟨[], by unfold layR; rw [hf]; rfl, fun x hx => by simp at hx, by simp, fun h => by cases h⟩
  have HT : Hid (Lib.strCells (layR L) = t.map (Value.int .u8) ∧ (layR L).size = t.length) := by
    rw [ht.out.1]
    exact ⟨sc_nums t ht.out.2.1, strOfNums_size t⟩
  rw [layE_er]
  have HN : Hid (M1.length + (layR L).size ≤ maxLen ∧ M1.length + (layR L).size ≤ 140737488355328 ∧ B ≤ w2.heap.size) := by
    have := ht.out.2.2.1
    have h7 := layN_len L
    have h8 := hML.out
    rw [HT.out.2]
    exact ⟨by unfold maxLen; omega, by omega, by omega⟩
  clear h2 k1 k2
  generalize layR L = S at *
  go_wp2_with (at_builtin; refine Lib.wpList_append_own_string _ rfl _ _ 50 9 rfl B 5 i0 Try.underlying50 (by kernel_rfl) hi hz0 hz1 hz2 _ _ _ rfl HO.out S rfl HN.out.1 HN.out.2.1 HN.out.2.2 ?_)
  · intro v5 w5 ho hg _
    rw [HT.out.1, HT.out.2] at ho
    obtain ⟨a5, c5, rfl⟩ := own_len ho
    obtain ⟨g1, g2, g3⟩ := Wr.put (t := t) hx HR.out HO.out ho hg HB2.out
    have d0 : w5.cell? ⟨x, 0, none⟩ = some (.slice sa M1.length sc) := g1.cell (i := 0) (by decide)
    have d1 : w5.cell? ⟨x, 1, none⟩ = some (.int .i64 0) := g1.cell (i := 1) (by decide)
    have f0 := g1.frozen 0
    have f1 := g1.frozen 1
    have HX : Hid (WrTo w ((w5.setCell ⟨x, 0, none⟩ (.slice a5 (M1.length + t.length) c5)).setCell ⟨x, 1, none⟩ (.int .i64 (erN (L.all fit)))) B x M true ((L.length : Int) :: layN L) (L.all fit)) := by
      obtain ⟨sv, q1, q2⟩ := g2.hd
      refine ⟨M1 ++ t, ⟨hx, sv, ?_, (Ty.of_but ((But.refl x _).setCell 1 _) q1 hx).own q2 (by decide)⟩, fun e => ?_, ?_, g3.trans ((Ty.of_but ((But.refl x _).setCell 1 _) q1 hx).mono (by simp) (Nat.le_refl _))⟩
      · rw [Bool.true_and]
        refine (q1.set 1 _).congr fun i hi => ?_
        match i, hi with
        | 0, _ => rfl
        | 1, _ => rfl
      · rw [HM.out, ht.out.2.2.2 (by simpa using e), List.append_assoc]; rfl
      · have := ht.out.2.2.1
        have h8 := hML.out
        simp
        omega
    clear g1 g2 g3 ho hg HO HR HB2 HN HT HM ht c0
    generalize erN (L.all fit) = ee at *
    go_wp2_with fail
    go_end0
    exact ⟨rfl, HX.out⟩

theorem wcode_any {L : List Ins} (a : Option Addr) (c : Nat) {w : World} {B x : Nat} {M : List Int} {ok : Bool} (h : Wr w B x M ok) (hs : SrcJ (Lo B) w (.slice a L.length c) L) (hl : M.length ≤ 80000) :
    Calls Try.prog 34 #[.pointer (some ⟨x, 0, none⟩), .slice a L.length c] w fun e w' => e = .returned (.tuple #[]) ∧ WrTo w w' B x M ok ((L.length : Int) :: layN L) (decide (L.length ≤ 255) && L.all fit) := by
  cases hb : (ok && decide (L.length ≤ 255)) with
  | false => exact wcode_big a c h (by omega) hb
  | true =>
    simp only [Bool.and_eq_true, decide_eq_true_eq] at hb
    obtain ⟨rfl, hb⟩ := hb
    rw [decide_eq_true hb, Bool.true_and]
    exact wcode_in a c h hs hl hb

theorem lyF_parts (f : Fn) : lyF f = (((lyL f.args ++ [f.res]) ++ [f.slots]) ++ lyL f.objs) ++ ((f.code.length : Int) :: layN f.code) := by
  simp [lyF]
theorem okF_parts (f : Fn) : okF f = ((((okL f.args && ok1 f.res) && ok1 f.slots) && okL f.objs) && (decide (f.code.length ≤ 255) && f.code.all fit)) := by
  unfold okF
  rw [← Bool.and_assoc]

set_option maxHeartbeats 1000000 in
theorem wfunc_any (f : Fn) (a0 a3 a4 : Option Addr) (c0 c3 c4 : Nat) {w : World} {B x : Nat} {M : List Int} {ok : Bool} (h : Wr w B x M ok) (hf : FnC (Lo B) w f (.slice a0 f.args.length c0) (.int .i64 f.res) (.int .i64 f.slots) (.slice a3 f.objs.length c3) (.slice a4 f.code.length c4))
    (hl : M.length ≤ 40000) (hs : szF f ≤ 5000) :
    Calls Try.prog 17 #[.pointer (some ⟨x, 0, none⟩), .agg #[.slice a0 f.args.length c0, .int .i64 f.res, .int .i64 f.slots, .slice a3 f.objs.length c3, .slice a4 f.code.length c4]] w fun e w' => e = .returned (.tuple #[]) ∧ WrTo w w' B x M ok (lyF f) (okF f) := by
  have hs' : f.args.length + f.objs.length + f.code.length ≤ 5000 := hs
  obtain ⟨wb, hwb⟩ : ∃ wb, w.alloc (.cells #[.slice a0 f.args.length c0, .int .i64 f.res, .int .i64 f.slots, .slice a3 f.objs.length c3, .slice a4 f.code.length c4] 45) = wb := ⟨_, rfl⟩
  have h0 : Wr wb B x M ok := hwb ▸ h.below ((Below.refl w.heap.size w).alloc (Nat.le_refl _) _)
  have hB : Tw B w wb := hwb ▸ tw_alloc _ _ _
  have hC : wb.rowIs w.heap.size 45 5 (fun k => (#[Value.slice a0 f.args.length c0, .int .i64 f.res, .int .i64 f.slots, .slice a3 f.objs.length c3, .slice a4 f.code.length c4] : Array Value).getD k undef) :=
    hwb ▸ World.rowIs_alloc w #[.slice a0 f.args.length c0, .int .i64 f.res, .int .i64 f.slots, .slice a3 f.objs.length c3, .slice a4 f.code.length c4] 45 _ (fun k hk => by
      have : k = 0 ∨ k = 1 ∨ k = 2 ∨ k = 3 ∨ k = 4 := by simp at hk; omega
      rcases this with rfl | rfl | rfl | rfl | rfl <;> rfl)
  have HF0 : Hid (FnC (Lo B) wb f (.slice a0 f.args.length c0) (.int .i64 f.res) (.int .i64 f.slots) (.slice a3 f.objs.length c3) (.slice a4 f.code.length c4)) := hf.stay (Stay.tw hB)
  have HW0 : Hid (Wr wb B x M (ok && true)) := by rw [Bool.and_true]; exact h0
  have HA0 : Hid (((ok && true) = true → M = M ++ []) ∧ M.length ≤ M.length + ([] : List Int).length ∧ Tw B w wb) := ⟨fun _ => by simp, by simp, hB⟩
  generalize hbx : w.heap.size = bx at hC
  have HC0 : Hid (wb.rowIs bx 45 5 (fun k => (#[Value.slice a0 f.args.length c0, .int .i64 f.res, .int .i64 f.slots, .slice a3 f.objs.length c3, .slice a4 f.code.length c4] : Array Value).getD k undef)) := hC
  have d0 : wb.cell? ⟨bx, 0, none⟩ = some (.slice a0 f.args.length c0) := hC.cell (i := 0) (by decide)
  clear h h0 hf hB hs hC
  go_enter Try.func17, Try.ntmps17
  go_wp2_with fail
  refine (wlist_any f.args a0 c0 HW0.out HF0.out.args (by omega)).mono ?_
  rintro e w1 ⟨rfl, h1⟩
  have q4 := h1.low
  obtain ⟨M1, g1, g2, g3, g4⟩ := WrTo.step HA0.out.1 HA0.out.2.1 HA0.out.2.2 h1
  have HF1 : Hid (FnC (Lo B) w1 f (.slice a0 f.args.length c0) (.int .i64 f.res) (.int .i64 f.slots) (.slice a3 f.objs.length c3) (.slice a4 f.code.length c4)) := HF0.out.stay (Stay.tw q4)
  have HC1 : Hid (w1.rowIs bx 45 5 (fun k => (#[Value.slice a0 f.args.length c0, .int .i64 f.res, .int .i64 f.slots, .slice a3 f.objs.length c3, .slice a4 f.code.length c4] : Array Value).getD k undef)) := q4.row HC0.out (by decide)
  have HW1 : Hid (Wr w1 B x M1 (ok && (true && okL f.args))) := g1
  have hl1 : M1.length ≤ M.length + (f.args.length + 1) := by simp [lyL] at g3; omega
  have HA1 : Hid (((ok && (true && okL f.args)) = true → M1 = M ++ ([] ++ lyL f.args)) ∧ M1.length ≤ M.length + ([] ++ lyL f.args).length ∧ Tw B w w1) := ⟨g2, g3, g4⟩
  have d1 : w1.cell? ⟨bx, 1, none⟩ = some (.int .i64 f.res) := HC1.out.cell (i := 1) (by decide)
  clear d0 g1 g2 g3 g4 q4 h1 HF0 HC0 HW0 HA0
  go_wp2_with fail
  refine (number_any f.res HW1.out (by omega)).mono ?_
  rintro e w2 ⟨rfl, h2⟩
  have q4 := h2.low
  obtain ⟨M2, g1, g2, g3, g4⟩ := WrTo.step HA1.out.1 HA1.out.2.1 HA1.out.2.2 h2
  have HF2 : Hid (FnC (Lo B) w2 f (.slice a0 f.args.length c0) (.int .i64 f.res) (.int .i64 f.slots) (.slice a3 f.objs.length c3) (.slice a4 f.code.length c4)) := HF1.out.stay (Stay.tw q4)
  have HC2 : Hid (w2.rowIs bx 45 5 (fun k => (#[Value.slice a0 f.args.length c0, .int .i64 f.res, .int .i64 f.slots, .slice a3 f.objs.length c3, .slice a4 f.code.length c4] : Array Value).getD k undef)) := q4.row HC1.out (by decide)
  have HW2 : Hid (Wr w2 B x M2 (ok && ((true && okL f.args) && ok1 f.res))) := g1
  have hl2 : M2.length ≤ M.length + (f.args.length + 2) := by simp [lyL] at g3; omega
  have HA2 : Hid (((ok && ((true && okL f.args) && ok1 f.res)) = true → M2 = M ++ (([] ++ lyL f.args) ++ [f.res])) ∧ M2.length ≤ M.length + (([] ++ lyL f.args) ++ [f.res]).length ∧ Tw B w w2) := ⟨g2, g3, g4⟩
  have d2 : w2.cell? ⟨bx, 2, none⟩ = some (.int .i64 f.slots) := HC2.out.cell (i := 2) (by decide)
  clear d1 g1 g2 g3 g4 q4 h2 HF1 HC1 HW1 HA1
  go_wp2_with fail
  refine (number_any f.slots HW2.out (by omega)).mono ?_
  rintro e w3 ⟨rfl, h3⟩
  have q4 := h3.low
  obtain ⟨M3, g1, g2, g3, g4⟩ := WrTo.step HA2.out.1 HA2.out.2.1 HA2.out.2.2 h3
  have HF3 : Hid (FnC (Lo B) w3 f (.slice a0 f.args.length c0) (.int .i64 f.res) (.int .i64 f.slots) (.slice a3 f.objs.length c3) (.slice a4 f.code.length c4)) := HF2.out.stay (Stay.tw q4)
  have HC3 : Hid (w3.rowIs bx 45 5 (fun k => (#[Value.slice a0 f.args.length c0, .int .i64 f.res, .int .i64 f.slots, .slice a3 f.objs.length c3, .slice a4 f.code.length c4] : Array Value).getD k undef)) := q4.row HC2.out (by decide)
  have HW3 : Hid (Wr w3 B x M3 (ok && (((true && okL f.args) && ok1 f.res) && ok1 f.slots))) := g1
  have hl3 : M3.length ≤ M.length + (f.args.length + 3) := by simp [lyL] at g3; omega
  have HA3 : Hid (((ok && (((true && okL f.args) && ok1 f.res) && ok1 f.slots)) = true → M3 = M ++ ((([] ++ lyL f.args) ++ [f.res]) ++ [f.slots])) ∧ M3.length ≤ M.length + ((([] ++ lyL f.args) ++ [f.res]) ++ [f.slots]).length ∧ Tw B w w3) := ⟨g2, g3, g4⟩
  have d3 : w3.cell? ⟨bx, 3, none⟩ = some (.slice a3 f.objs.length c3) := HC3.out.cell (i := 3) (by decide)
  clear d2 g1 g2 g3 g4 q4 h3 HF2 HC2 HW2 HA2
  go_wp2_with fail
  refine (wlist_any f.objs a3 c3 HW3.out HF3.out.objs (by omega)).mono ?_
  rintro e w4 ⟨rfl, h4⟩
  have q4 := h4.low
  obtain ⟨M4, g1, g2, g3, g4⟩ := WrTo.step HA3.out.1 HA3.out.2.1 HA3.out.2.2 h4
  have HF4 : Hid (FnC (Lo B) w4 f (.slice a0 f.args.length c0) (.int .i64 f.res) (.int .i64 f.slots) (.slice a3 f.objs.length c3) (.slice a4 f.code.length c4)) := HF3.out.stay (Stay.tw q4)
  have HC4 : Hid (w4.rowIs bx 45 5 (fun k => (#[Value.slice a0 f.args.length c0, .int .i64 f.res, .int .i64 f.slots, .slice a3 f.objs.length c3, .slice a4 f.code.length c4] : Array Value).getD k undef)) := q4.row HC3.out (by decide)
  have HW4 : Hid (Wr w4 B x M4 (ok && ((((true && okL f.args) && ok1 f.res) && ok1 f.slots) && okL f.objs))) := g1
  have hl4 : M4.length ≤ M.length + (f.args.length + f.objs.length + 4) := by simp [lyL] at g3; omega
  have HA4 : Hid (((ok && ((((true && okL f.args) && ok1 f.res) && ok1 f.slots) && okL f.objs)) = true → M4 = M ++ (((([] ++ lyL f.args) ++ [f.res]) ++ [f.slots]) ++ lyL f.objs)) ∧ M4.length ≤ M.length + (((([] ++ lyL f.args) ++ [f.res]) ++ [f.slots]) ++ lyL f.objs).length ∧ Tw B w w4) := ⟨g2, g3, g4⟩
  have d4 : w4.cell? ⟨bx, 4, none⟩ = some (.slice a4 f.code.length c4) := HC4.out.cell (i := 4) (by decide)
  clear d3 g1 g2 g3 g4 q4 h4 HF3 HC3 HW3 HA3
  go_wp2_with fail
  refine (wcode_any (L := f.code) a4 c4 HW4.out HF4.out.code (by omega)).mono ?_
  rintro e w5 ⟨rfl, h5⟩
  have q4 := h5.low
  have h9 := WrTo.step HA4.out.1 HA4.out.2.1 HA4.out.2.2 h5
  have H9 : Hid (WrTo w w5 B x M ok (lyF f) (okF f)) := by
    unfold Hid
    rw [lyF_parts, okF_parts]
    simpa only [List.nil_append, Bool.true_and] using h9
  clear h9 h5 q4 d4 HF4 HC4 HW4 HA4
  go_wp2_with fail
  go_end0
  exact ⟨rfl, H9.out⟩

end Go.Proofs.Ytkgicalkcbagaaa

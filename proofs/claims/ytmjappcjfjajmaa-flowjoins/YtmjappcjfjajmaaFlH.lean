/- The walks of flow's settings, behind. -/
import Derived.Test.YtmjappcjfjajmaaFlF
import Derived.Deep.AppendLies
namespace Go.Proofs.Ytmjappcjfjajmaa
open Go.RowKit

theorem Try.infoSetting : (Try.prog.info? 90).map (fun i => (i.zero, i.size, i.bytes)) = some (some (.agg #[.int .i64 0, .int .i64 0]), 2, 16) := by kernel_rfl
/-- What an instruction sets: slots and kinds. -/
def stS (p : Pg) (f : Fn) (i : Ins) (K : List Int) : List (Int × Int) := match stA p f i K with | none => [] | some v => if i.o = 26 then [(i.a, v), (i.b, 16)] else [(i.a, v)]
theorem wr_none {p : Pg} {f : Fn} {i : Ins} {K : List Int} (hi : OkI p f i) (h : stA p f i K = none) : wrB i.o = false ∨ (wrB i.o = true ∧ i.o = 21 ∧ ∃ g, fnAt p i.b = some g ∧ g.res = 0) := by
  have hk := hi.kn
  have hpl := plac_and hi
  obtain ⟨o, a, b, c⟩ := i
  rcases kn_cases hk with rfl | rfl | rfl | rfl | rfl | rfl | rfl | rfl | rfl | rfl | rfl | rfl | rfl | rfl | rfl | rfl | rfl | rfl | rfl | rfl | rfl | rfl | rfl | rfl | rfl | rfl | rfl | rfl | rfl | rfl
  all_goals first
    | exact Or.inl rfl
    | (exfalso; have h2 : (some _ : Option Int) = none := h; cases h2; done)
    | (right
       refine ⟨rfl, rfl, ?_⟩
       have h1 : inB b p.funcs.length = true := hpl.2.1
       rw [fnAt_inB] at h1
       obtain ⟨g, hg⟩ := Option.isSome_iff_exists.1 h1
       refine ⟨g, hg, ?_⟩
       have h3 : (match fnAt p b with | some g => if g.res = 0 then none else some g.res | none => none) = (none : Option Int) := h
       rw [hg] at h3
       simp only at h3
       split at h3
       · assumption
       · cases h3)
theorem wr_some {p : Pg} {f : Fn} {i : Ins} {K : List Int} {v : Int} (hi : OkI p f i) (h : stA p f i K = some v) : wrB i.o = true ∧ (i.o = 21 → ∃ g, fnAt p i.b = some g ∧ ¬ g.res = 0) := by
  have hk := hi.kn
  obtain ⟨o, a, b, c⟩ := i
  rcases kn_cases hk with rfl | rfl | rfl | rfl | rfl | rfl | rfl | rfl | rfl | rfl | rfl | rfl | rfl | rfl | rfl | rfl | rfl | rfl | rfl | rfl | rfl | rfl | rfl | rfl | rfl | rfl | rfl | rfl | rfl | rfl
  all_goals first
    | (exfalso; have h2 : (none : Option Int) = some v := h; cases h2; done)
    | (refine ⟨rfl, fun h => ?_⟩; simp at h; done)
    | (refine ⟨rfl, fun _ => ?_⟩
       show ∃ g, fnAt p b = some g ∧ ¬ g.res = 0
       have h3 : (match fnAt p b with | some g => if g.res = 0 then none else some g.res | none => none) = some v := h
       cases hg : fnAt p b with
       | none => rw [hg] at h3; cases h3
       | some g =>
         rw [hg] at h3
         simp only at h3
         split at h3
         · cases h3
         · exact ⟨g, rfl, by assumption⟩)
theorem writesI {io ia ib ic a' : Int} {t : Bool} (ht : Hid (wrB io = t)) (ha : Hid ((if t = true then ia else 0) = a')) (w : World) :
    Calls Try.prog 76 #[.agg #[.int .i64 io, .int .i64 ia, .int .i64 ib, .int .i64 ic]] w fun e w' => e = .returned (.tuple #[.int .i64 a', .bool t]) ∧ Below w.heap.size w w' := by
  have h := writes_any ⟨io, ia, ib, ic⟩ w
  unfold Ins.v at h
  rw [ht.out, ha.out] at h
  exact h

/-- THE VALUE v IS A LIST OF SETTINGS. -/
def StAt (w : World) (v : Value) (S : List (Int × Int)) : Prop :=
  (S = [] ∧ v = .slice none 0 0) ∨ ∃ g c, v = .slice (some ⟨g, 0, none⟩) S.length c ∧ g < w.heap.size ∧ ∀ j s, S[j]? = some s → w.cell? ⟨g, j * 2, none⟩ = some (.int .i64 s.1) ∧ w.cell? ⟨g, j * 2 + 1, none⟩ = some (.int .i64 s.2)
theorem StAt.below {w w' : World} {v : Value} {S : List (Int × Int)} (h : StAt w v S) (hb : Below w.heap.size w w') : StAt w' v S := by
  rcases h with h | ⟨g, c, h1, h2, h3⟩
  · exact Or.inl h
  · exact Or.inr ⟨g, c, h1, Nat.lt_of_lt_of_le h2 hb.size, fun j s hj => ⟨(hb.cell (p := ⟨g, j * 2, none⟩) h2).trans (h3 j s hj).1, (hb.cell (p := ⟨g, j * 2 + 1, none⟩) h2).trans (h3 j s hj).2⟩⟩
theorem StAt.len {w : World} {v : Value} {S : List (Int × Int)} (h : StAt w v S) : ∃ a c, v = .slice a S.length c := by
  rcases h with ⟨rfl, rfl⟩ | ⟨g, c, rfl, _⟩
  · exact ⟨_, _, rfl⟩
  · exact ⟨_, _, rfl⟩
theorem StAt.some {w : World} {a : Option Addr} {n c j : Nat} {S : List (Int × Int)} {s : Int × Int} (h : StAt w (.slice a n c) S) (hj : S[j]? = Option.some s) : ∃ g, a = Option.some ⟨g, 0, none⟩ ∧ g < w.heap.size ∧ w.cell? ⟨g, j * 2, none⟩ = Option.some (.int .i64 s.1) ∧ w.cell? ⟨g, j * 2 + 1, none⟩ = Option.some (.int .i64 s.2) := by
  rcases h with ⟨rfl, _⟩ | ⟨g, c, h1, h2, h3⟩
  · simp at hj
  · cases h1
    exact ⟨g, rfl, h2, h3 j s hj⟩
theorem st_one (w : World) (x y : Int) : StAt (w.alloc (.cells #[.int .i64 x, .int .i64 y] 90)) (.slice (some ⟨w.heap.size, 0, none⟩) 1 1) [(x, y)] := by
  refine Or.inr ⟨w.heap.size, 1, rfl, by simp, fun j s hj => ?_⟩
  match j, hj with
  | 0, hj =>
    simp at hj
    subst hj
    exact ⟨cell_new w _ _ rfl, cell_new w _ _ rfl⟩

set_option maxRecDepth 100000 in
set_option maxHeartbeats 4000000 in
theorem settings_no (p : Pg) (f : Fn) (io ia ib ic : Int) (ag az af : Option Addr) (cg cs cf : Nat) (a0 a3 a4 : Option Addr) (c0 c3 c4 : Nat) (K : List Int) (ak : Option Addr) (ck : Nat) (hs : Hid (stA p f ⟨io, ia, ib, ic⟩ K = none)) (hi : Hid (OkI p f ⟨io, ia, ib, ic⟩)) (w : World) (hp : PgV Any w (.slice ag p.glob.length cg) (.slice az p.shapes.length cs) (.slice af p.funcs.length cf) p) (hf : FnC Any w f (.slice a0 f.args.length c0) (.int .i64 f.res) (.int .i64 f.slots) (.slice a3 f.objs.length c3) (.slice a4 f.code.length c4)) (hk : SrcP Any w (.slice ak K.length ck) K) :
    Calls Try.prog 50 #[.agg #[.slice ag p.glob.length cg, .slice az p.shapes.length cs, .slice af p.funcs.length cf, .slice a0 f.args.length c0, .int .i64 f.res, .int .i64 f.slots, .slice a3 f.objs.length c3, .slice a4 f.code.length c4, .int .i64 io, .int .i64 ia, .int .i64 ib, .int .i64 ic, .slice ak K.length ck]] w fun e w' => e = .returned (.slice none 0 0) ∧ Below w.heap.size w w' := by
  obtain ⟨wa, hwa⟩ : ∃ wa, w.alloc (.cells #[.slice ag p.glob.length cg, .slice az p.shapes.length cs, .slice af p.funcs.length cf, .slice a0 f.args.length c0, .int .i64 f.res, .int .i64 f.slots, .slice a3 f.objs.length c3, .slice a4 f.code.length c4, .int .i64 io, .int .i64 ia, .int .i64 ib, .int .i64 ic, .slice ak K.length ck] 66) = wa := ⟨_, rfl⟩
  have HT : Hid (OnT w wa w.heap.size p f io ia ib ic ag az af cg cs cf a0 a3 a4 c0 c3 c4 K ak ck) := onT_start p f io ia ib ic ag az af cg cs cf a0 a3 a4 c0 c3 c4 K ak ck hwa hp hf hk
  obtain ⟨d0, d1, d2, d3, d4, d5, d6, d7, d8, d9, d10, d11⟩ := HT.out.box.c
  have d12 := HT.out.k12
  clear hp hf hk
  rcases wr_none hi.out hs.out with hw | ⟨hw, h21, g, hg, hr⟩
  · have HW : Hid (wrB io = false) := hw
    have HA : Hid ((if false = true then ia else 0) = 0) := rfl
    clear hw
    go_enter Try.func50, Try.ntmps50
    go_wp2_with fail
    refine (writesI HW HA _).mono ?_
    rintro e w1 ⟨rfl, hb⟩
    have HL : Hid (Below w.heap.size w w1) := (HT.out.below hb).low
    clear hb d0 d1 d2 d3 d4 d5 d6 d7 d8 d9 d10 d11 d12
    go_wp2_with fail
    go_ret
    exact ⟨rfl, HL.out⟩
  · have h21' : io = 21 := h21
    subst h21'
    have HW : Hid (wrB 21 = true) := hw
    have HA : Hid ((if true = true then ia else 0) = ia) := rfl
    have HG : Hid (fnAt p ib = some g) := hg
    have HR : Hid ((g.res != 0) = false) := by unfold Hid; simp [hr]
    clear hw h21 hg hr
    go_enter Try.func50, Try.ntmps50
    go_wp2_with fail
    refine (writesI HW HA _).mono ?_
    rintro e w1 ⟨rfl, hb⟩
    have HT1 : Hid (OnT w w1 w.heap.size p f 21 ia ib ic ag az af cg cs cf a0 a3 a4 c0 c3 c4 K ak ck) := HT.out.below hb
    clear hb d0 d1 d2 d3 d4 d5 d6 d7 d8 d9 d10 d11 d12 HT
    obtain ⟨d0, d1, d2, d3, d4, d5, d6, d7, d8, d9, d10, d11⟩ := HT1.out.box.c
    have d12 := HT1.out.k12
    go_wp2_with fail
    refine (callee_any p f 21 ia ib ic ag az af cg cs cf a0 a3 a4 c0 c3 c4 K ak ck HG _ HT1.out.pp HT1.out.ff HT1.out.kk).mono ?_
    rintro e w2 ⟨b0, b3, b4, e0, e3, e4, rfl, _, hb⟩
    have HT2 : Hid (Below w.heap.size w w2) := (HT1.out.below hb).low
    clear hb d0 d1 d2 d3 d4 d5 d6 d7 d8 d9 d10 d11 d12 HT1
    go_wp2_with fail
    refine (fhasRes_any g b0 b3 b4 e0 e3 e4 HR _).mono ?_
    rintro e w3 ⟨rfl, hb⟩
    have HT3 : Hid (Below w.heap.size w w3) := HT2.out.trans (hb.mono HT2.out.size)
    clear hb
    go_wp2_with fail
    go_ret
    exact ⟨rfl, HT3.out⟩

set_option maxRecDepth 100000 in
set_option maxHeartbeats 4000000 in
theorem settings_yes (p : Pg) (f : Fn) (io ia ib ic : Int) (ag az af : Option Addr) (cg cs cf : Nat) (a0 a3 a4 : Option Addr) (c0 c3 c4 : Nat) (K : List Int) (ak : Option Addr) (ck : Nat) {v : Int} (hs : Hid (stA p f ⟨io, ia, ib, ic⟩ K = some v)) (hi : Hid (OkI p f ⟨io, ia, ib, ic⟩)) (hF : Hid (OkF p f)) (hK : Hid ((K.length : Int) = f.slots ∧ K.length ≤ ck ∧ K.length ≤ 3000)) (w : World) (hp : PgV Any w (.slice ag p.glob.length cg) (.slice az p.shapes.length cs) (.slice af p.funcs.length cf) p) (hf : FnC Any w f (.slice a0 f.args.length c0) (.int .i64 f.res) (.int .i64 f.slots) (.slice a3 f.objs.length c3) (.slice a4 f.code.length c4)) (hk : SrcP Any w (.slice ak K.length ck) K) :
    Calls Try.prog 50 #[.agg #[.slice ag p.glob.length cg, .slice az p.shapes.length cs, .slice af p.funcs.length cf, .slice a0 f.args.length c0, .int .i64 f.res, .int .i64 f.slots, .slice a3 f.objs.length c3, .slice a4 f.code.length c4, .int .i64 io, .int .i64 ia, .int .i64 ib, .int .i64 ic, .slice ak K.length ck]] w fun e w' => ∃ u, e = .returned u ∧ StAt w' u (stS p f ⟨io, ia, ib, ic⟩ K) ∧ Below w.heap.size w w' ∧ (∀ k, u.ownBlock = some k → w.heap.size ≤ k) := by
  obtain ⟨wa, hwa⟩ : ∃ wa, w.alloc (.cells #[.slice ag p.glob.length cg, .slice az p.shapes.length cs, .slice af p.funcs.length cf, .slice a0 f.args.length c0, .int .i64 f.res, .int .i64 f.slots, .slice a3 f.objs.length c3, .slice a4 f.code.length c4, .int .i64 io, .int .i64 ia, .int .i64 ib, .int .i64 ic, .slice ak K.length ck] 66) = wa := ⟨_, rfl⟩
  have HT : Hid (OnT w wa w.heap.size p f io ia ib ic ag az af cg cs cf a0 a3 a4 c0 c3 c4 K ak ck) := onT_start p f io ia ib ic ag az af cg cs cf a0 a3 a4 c0 c3 c4 K ak ck hwa hp hf hk
  obtain ⟨d0, d1, d2, d3, d4, d5, d6, d7, d8, d9, d10, d11⟩ := HT.out.box.c
  have d12 := HT.out.k12
  have hws := wr_some hi.out hs.out
  have HW : Hid (wrB io = true) := hws.1
  have HA : Hid ((if true = true then ia else 0) = ia) := rfl
  clear hp hf hk
  by_cases h26 : io = 26
  · subst h26
    have HSS : Hid (stS p f ⟨26, ia, ib, ic⟩ K = [(ia, v), (ib, 16)]) := by unfold Hid stS; rw [hs.out]; rfl
    rw [HSS.out]
    obtain ⟨i0, hi0, hz0, hz1, hz2⟩ := info_parts Try.infoSetting
    clear hws HSS
    go_enter Try.func50, Try.ntmps50
    go_wp2_with fail
    refine (writesI HW HA _).mono ?_
    rintro e w1 ⟨rfl, hb⟩
    have HT1 : Hid (OnT w w1 w.heap.size p f 26 ia ib ic ag az af cg cs cf a0 a3 a4 c0 c3 c4 K ak ck) := HT.out.below hb
    clear hb d0 d1 d2 d3 d4 d5 d6 d7 d8 d9 d10 d11 d12 HT
    obtain ⟨d0, d1, d2, d3, d4, d5, d6, d7, d8, d9, d10, d11⟩ := HT1.out.box.c
    have d12 := HT1.out.k12
    go_wp2_with fail
    refine (kindSet_any p f 26 ia ib ic ag az af cg cs cf a0 a3 a4 c0 c3 c4 K ak ck hs hi hF hK _ HT1.out.pp HT1.out.ff HT1.out.kk).mono ?_
    rintro e w2 ⟨rfl, hb⟩
    have HT2 : Hid (OnT w w2 w.heap.size p f 26 ia ib ic ag az af cg cs cf a0 a3 a4 c0 c3 c4 K ak ck) := HT1.out.below hb
    have HGE : Hid (w.heap.size ≤ w2.heap.size) := HT2.out.low.size
    have hA3 : Below w2.heap.size w2 (w2.alloc (.cells #[.int .i64 ia, .int .i64 v] 90)) := (Below.refl _ _).alloc (Nat.le_refl _) _
    have HT3 : Hid (OnT w (w2.alloc (.cells #[.int .i64 ia, .int .i64 v] 90)) w.heap.size p f 26 ia ib ic ag az af cg cs cf a0 a3 a4 c0 c3 c4 K ak ck) := HT2.out.below hA3
    have HO : Hid ((w2.alloc (.cells #[.int .i64 ia, .int .i64 v] 90)).ownsRow w2.heap.size 90 2 (.slice (some ⟨w2.heap.size, 0, none⟩) 1 1) 1 [.int .i64 ia, .int .i64 v]) := World.ownsRow_lit w2 #[.int .i64 ia, .int .i64 v] 1 (Nat.le_refl _) (by decide) rfl
    clear hb hA3 d0 d1 d2 d3 d4 d5 d6 d7 d8 d9 d10 d11 d12 HT1 HT2
    go_upto_region 5 with (fail)
    have hge : w.heap.size ≤ w2.heap.size := HGE.out
    have hgl : w2.heap.size < (w2.alloc (.cells #[.int .i64 ia, .int .i64 v] 90)).heap.size := by simp
    generalize w2.alloc (.cells #[.int .i64 ia, .int .i64 v] 90) = w3 at *
    generalize w2.heap.size = g3 at *
    obtain ⟨d0, d1, d2, d3, d4, d5, d6, d7, d8, d9, d10, d11⟩ := HT3.out.box.c
    have HN : Hid (∀ j u, [Value.int .i64 ib, Value.int .i64 16][j]? = some u → (w3.alloc (.cells #[.int .i64 ib, .int .i64 16] 90)).cell? ((⟨w3.heap.size, 0, none⟩ : Addr).add j) = some u) := fun j u hj => by
      rw [Go.WideShapes.add_plain]
      match j, hj with
      | 0, hj => simp at hj; subst hj; exact cell_new w3 _ _ rfl
      | 1, hj => simp at hj; subst hj; exact cell_new w3 _ _ rfl
    have HO1 : Hid (∀ u ∈ [Value.int .i64 ib, Value.int .i64 16], u.oneCell' = true) := fun u hu => by
      simp at hu
      rcases hu with rfl | rfl <;> rfl
    go_wp2_with (at_builtin; refine wpList_append_lies _ rfl _ _ 87 rfl g3 90 i0 (.agg #[.int .i64 0, .int .i64 0]) 2 16 Try.underlying87 hi0 hz0 hz1 hz2 rfl (by decide) _ _ _ rfl (HO.out.alloc _) ⟨w3.heap.size, 0, none⟩ 1 1 [.int .i64 ib, .int .i64 16] rfl rfl HN.out HO1.out (by decide) (by decide) (by decide) (by simp; omega) (w3.heap.size + 1) (by simp) ?_)
    intro g5 cap5 w5 ho5 hg5 hat5 hlt5
    have HSt : Hid (StAt w5 (.slice (some ⟨g5, 0, none⟩) 2 cap5) [(ia, v), (ib, 16)]) := by
      refine Or.inr ⟨g5, cap5, rfl, hlt5, fun j s hj => ?_⟩
      match j, hj with
      | 0, hj => simp at hj; subst hj; exact ⟨ho5.cellAt 0 (by decide), ho5.cellAt 1 (by decide)⟩
      | 1, hj => simp at hj; subst hj; exact ⟨ho5.cellAt 2 (by decide), ho5.cellAt 3 (by decide)⟩
    have HL : Hid (Below w.heap.size w w5) := (HT3.out.low.alloc HT3.out.low.size _).grown hg5 (by simp; omega) (fun k hk => Nat.le_trans hge (HO.out.lt k hk).1)
    have HG5 : Hid (w.heap.size ≤ g5) := Nat.le_trans hge (ho5.lt g5 rfl).1
    clear ho5 hg5 hat5 hlt5 HT3 HO HN HO1 d0 d1 d2 d3 d4 d5 d6 d7 d8 d9 d10 d11
    go_wp2_with fail
    go_ret
    exact ⟨_, rfl, HSt.out, HL.out, fun k hk => by cases hk; exact HG5.out⟩
  · have HSS : Hid (stS p f ⟨io, ia, ib, ic⟩ K = [(ia, v)]) := by unfold Hid stS; rw [hs.out]; simp only; rw [if_neg h26]
    rw [HSS.out]
    have e26 : (io == 26) = false := by simpa using h26
    by_cases h21 : io = 21
    · subst h21
      obtain ⟨g, hg, hr⟩ := hws.2 rfl
      have HG : Hid (fnAt p ib = some g) := hg
      have HR : Hid ((g.res != 0) = true) := by unfold Hid; simpa using hr
      clear hg hr hws h26 HSS
      go_enter Try.func50, Try.ntmps50
      go_wp2_with fail
      refine (writesI HW HA _).mono ?_
      rintro e w1 ⟨rfl, hb⟩
      have HT1 : Hid (OnT w w1 w.heap.size p f 21 ia ib ic ag az af cg cs cf a0 a3 a4 c0 c3 c4 K ak ck) := HT.out.below hb
      clear hb d0 d1 d2 d3 d4 d5 d6 d7 d8 d9 d10 d11 d12 HT
      obtain ⟨d0, d1, d2, d3, d4, d5, d6, d7, d8, d9, d10, d11⟩ := HT1.out.box.c
      have d12 := HT1.out.k12
      go_wp2_with fail
      refine (callee_any p f 21 ia ib ic ag az af cg cs cf a0 a3 a4 c0 c3 c4 K ak ck HG _ HT1.out.pp HT1.out.ff HT1.out.kk).mono ?_
      rintro e w2 ⟨b0, b3, b4, e0, e3, e4, rfl, _, hb⟩
      have HT2 : Hid (OnT w w2 w.heap.size p f 21 ia ib ic ag az af cg cs cf a0 a3 a4 c0 c3 c4 K ak ck) := HT1.out.below hb
      clear hb d0 d1 d2 d3 d4 d5 d6 d7 d8 d9 d10 d11 d12 HT1
      go_wp2_with fail
      refine (fhasRes_any g b0 b3 b4 e0 e3 e4 HR _).mono ?_
      rintro e w3 ⟨rfl, hb⟩
      have HT3 : Hid (OnT w w3 w.heap.size p f 21 ia ib ic ag az af cg cs cf a0 a3 a4 c0 c3 c4 K ak ck) := HT2.out.below hb
      clear hb HT2
      obtain ⟨d0, d1, d2, d3, d4, d5, d6, d7, d8, d9, d10, d11⟩ := HT3.out.box.c
      have d12 := HT3.out.k12
      go_wp2_with fail
      refine (kindSet_any p f 21 ia ib ic ag az af cg cs cf a0 a3 a4 c0 c3 c4 K ak ck hs hi hF hK _ HT3.out.pp HT3.out.ff HT3.out.kk).mono ?_
      rintro e w4 ⟨rfl, hb⟩
      have HT4 : Hid (OnT w w4 w.heap.size p f 21 ia ib ic ag az af cg cs cf a0 a3 a4 c0 c3 c4 K ak ck) := HT3.out.below hb
      have HG5 : Hid (w.heap.size ≤ w4.heap.size) := HT4.out.low.size
      have hA5 : Below w4.heap.size w4 (w4.alloc (.cells #[.int .i64 ia, .int .i64 v] 90)) := (Below.refl _ _).alloc (Nat.le_refl _) _
      have HT5 : Hid (OnT w (w4.alloc (.cells #[.int .i64 ia, .int .i64 v] 90)) w.heap.size p f 21 ia ib ic ag az af cg cs cf a0 a3 a4 c0 c3 c4 K ak ck) := HT4.out.below hA5
      have HSt : Hid (StAt (w4.alloc (.cells #[.int .i64 ia, .int .i64 v] 90)) (.slice (some ⟨w4.heap.size, 0, none⟩) 1 1) [(ia, v)]) := st_one w4 ia v
      clear hb hA5 d0 d1 d2 d3 d4 d5 d6 d7 d8 d9 d10 d11 d12 HT3 HT4
      obtain ⟨d0, d1, d2, d3, d4, d5, d6, d7, d8, d9, d10, d11⟩ := HT5.out.box.c
      go_wp2_with fail
      go_ret
      exact ⟨_, rfl, HSt.out, HT5.out.low, fun k hk => by cases hk; exact HG5.out⟩
    · have e21 : (io == 21) = false := by simpa using h21
      clear hws h26 h21 HSS
      go_enter Try.func50, Try.ntmps50
      go_wp2_with fail
      refine (writesI HW HA _).mono ?_
      rintro e w1 ⟨rfl, hb⟩
      have HT3 : Hid (OnT w w1 w.heap.size p f io ia ib ic ag az af cg cs cf a0 a3 a4 c0 c3 c4 K ak ck) := HT.out.below hb
      clear hb d0 d1 d2 d3 d4 d5 d6 d7 d8 d9 d10 d11 d12 HT
      obtain ⟨d0, d1, d2, d3, d4, d5, d6, d7, d8, d9, d10, d11⟩ := HT3.out.box.c
      have d12 := HT3.out.k12
      go_wp2_with fail
      refine (kindSet_any p f io ia ib ic ag az af cg cs cf a0 a3 a4 c0 c3 c4 K ak ck hs hi hF hK _ HT3.out.pp HT3.out.ff HT3.out.kk).mono ?_
      rintro e w4 ⟨rfl, hb⟩
      have HT4 : Hid (OnT w w4 w.heap.size p f io ia ib ic ag az af cg cs cf a0 a3 a4 c0 c3 c4 K ak ck) := HT3.out.below hb
      have HG5 : Hid (w.heap.size ≤ w4.heap.size) := HT4.out.low.size
      have hA5 : Below w4.heap.size w4 (w4.alloc (.cells #[.int .i64 ia, .int .i64 v] 90)) := (Below.refl _ _).alloc (Nat.le_refl _) _
      have HT5 : Hid (OnT w (w4.alloc (.cells #[.int .i64 ia, .int .i64 v] 90)) w.heap.size p f io ia ib ic ag az af cg cs cf a0 a3 a4 c0 c3 c4 K ak ck) := HT4.out.below hA5
      have HSt : Hid (StAt (w4.alloc (.cells #[.int .i64 ia, .int .i64 v] 90)) (.slice (some ⟨w4.heap.size, 0, none⟩) 1 1) [(ia, v)]) := st_one w4 ia v
      clear hb hA5 d0 d1 d2 d3 d4 d5 d6 d7 d8 d9 d10 d11 d12 HT3 HT4
      obtain ⟨d0, d1, d2, d3, d4, d5, d6, d7, d8, d9, d10, d11⟩ := HT5.out.box.c
      go_wp2_with fail
      go_ret
      exact ⟨_, rfl, HSt.out, HT5.out.low, fun k hk => by cases hk; exact HG5.out⟩

theorem settings_any (p : Pg) (f : Fn) (io ia ib ic : Int) (ag az af : Option Addr) (cg cs cf : Nat) (a0 a3 a4 : Option Addr) (c0 c3 c4 : Nat) (K : List Int) (ak : Option Addr) (ck : Nat) (hi : Hid (OkI p f ⟨io, ia, ib, ic⟩)) (hF : Hid (OkF p f)) (hK : Hid ((K.length : Int) = f.slots ∧ K.length ≤ ck ∧ K.length ≤ 3000)) (w : World) (hp : PgV Any w (.slice ag p.glob.length cg) (.slice az p.shapes.length cs) (.slice af p.funcs.length cf) p) (hf : FnC Any w f (.slice a0 f.args.length c0) (.int .i64 f.res) (.int .i64 f.slots) (.slice a3 f.objs.length c3) (.slice a4 f.code.length c4)) (hk : SrcP Any w (.slice ak K.length ck) K) :
    Calls Try.prog 50 #[.agg #[.slice ag p.glob.length cg, .slice az p.shapes.length cs, .slice af p.funcs.length cf, .slice a0 f.args.length c0, .int .i64 f.res, .int .i64 f.slots, .slice a3 f.objs.length c3, .slice a4 f.code.length c4, .int .i64 io, .int .i64 ia, .int .i64 ib, .int .i64 ic, .slice ak K.length ck]] w fun e w' => ∃ u, e = .returned u ∧ StAt w' u (stS p f ⟨io, ia, ib, ic⟩ K) ∧ Below w.heap.size w w' ∧ (∀ k, u.ownBlock = some k → w.heap.size ≤ k) := by
  cases hs : stA p f ⟨io, ia, ib, ic⟩ K with
  | none =>
    refine (settings_no p f io ia ib ic ag az af cg cs cf a0 a3 a4 c0 c3 c4 K ak ck hs hi w hp hf hk).mono ?_
    rintro e w' ⟨rfl, hb⟩
    refine ⟨_, rfl, ?_, hb, fun k hk => by cases hk⟩
    unfold stS
    rw [hs]
    exact Or.inl ⟨rfl, rfl⟩
  | some v => exact settings_yes p f io ia ib ic ag az af cg cs cf a0 a3 a4 c0 c3 c4 K ak ck hs hi hF hK w hp hf hk

end Go.Proofs.Ytmjappcjfjajmaa

/- flow's Maps in memory; the walk of come. -/
import Derived.Test.YtmjappcjfjajmaaFlG
import Derived.Test.YtmjappcjfjajmaaFlK
import Derived.Test.YtmjappcjfjajmaaFlI
namespace Go.Proofs.Ytmjappcjfjajmaa
open Go.RowKit Go.Maps

/-- THE VALUE v IS A LIST OF THE KINDS K, within its capacity, in a row of ints. -/
def LsV (w : World) (v : Value) (K : List Int) : Prop := SrcAt w v K ∧ ∃ a c, v = .slice a K.length c ∧ K.length ≤ c ∧ IntRow w a
/-- Rows of ints that were there are as they were. -/
def KpI (w w' : World) : Prop := w.heap.size ≤ w'.heap.size ∧ ∀ b : Nat, (∃ cs fl, w.heap[b]? = some (Obj.cells cs 3 fl)) → w'.heap[b]? = w.heap[b]?
theorem LsV.keep {w w' : World} {v : Value} {K : List Int} (h : LsV w v K) (hb : KpI w w') : LsV w' v K := by
  obtain ⟨h1, a, c, h2, h3, h4⟩ := h
  refine ⟨?_, a, c, h2, h3, h4.of_block hb.2⟩
  rcases h1 with h1 | ⟨b, off, c', e1, e2, e3⟩
  · exact Or.inl h1
  · rw [h2] at e1
    cases e1
    exact Or.inr ⟨b, off, c, h2, Nat.lt_of_lt_of_le e2 hb.1, fun j hj => (World.cell?_of_block (hb.2 b (h4 b off none rfl))).trans (e3 j hj)⟩
theorem kpI_but {w w' : World} {mb n : Nat} {O : Int → Int → Option Value} (hm : MkAt w mb n O) (hb : But mb w w') : KpI w w' := by
  refine ⟨hb.size, fun b ⟨_, _, hc⟩ => hb.block b (Array.getElem?_eq_some_iff.1 hc).1 fun e => ?_⟩
  subst e
  obtain ⟨D, ⟨es, clock, hbk, _⟩, _⟩ := hm
  rw [hbk] at hc
  cases hc
theorem LsV.but {w w' : World} {v : Value} {K : List Int} {mb n : Nat} {O : Int → Int → Option Value} (h : LsV w v K) (hm : MkAt w mb n O) (hb : But mb w w') : LsV w' v K := h.keep (kpI_but hm hb)
theorem LsV.below {w w' : World} {v : Value} {K : List Int} (h : LsV w v K) (hb : Below w.heap.size w w') : LsV w' v K := h.keep ⟨hb.size, fun b ⟨_, _, hc⟩ => hb.block b (Array.getElem?_eq_some_iff.1 hc).1⟩
/-- What is kept, as a value, is what is told. -/
def RelO (w : World) (o : Option Value) (g : Option (List Int)) : Prop :=
  match o, g with
  | none, none => True
  | some v, some K => LsV w v K
  | _, _ => False
theorem rel_none {w : World} {o : Option Value} (h : RelO w o none) : o = none := by
  cases o with
  | none => rfl
  | some v => exact h.elim
theorem rel_some {w : World} {o : Option Value} {K : List Int} (h : RelO w o (some K)) : ∃ v, o = some v ∧ LsV w v K := by
  cases o with
  | none => exact h.elim
  | some v => exact ⟨v, rfl, h⟩
theorem rel_but {w w' : World} {o : Option Value} {g : Option (List Int)} {mb n : Nat} {O : Int → Int → Option Value} (h : RelO w o g) (hm : MkAt w mb n O) (hb : But mb w w') : RelO w' o g := by
  match o, g, h with
  | none, none, _ => trivial
  | some v, some K, h => exact LsV.but h hm hb
theorem rel_keep {w w' : World} {o : Option Value} {g : Option (List Int)} (h : RelO w o g) (hb : KpI w w') : RelO w' o g := by
  match o, g, h with
  | none, none, _ => trivial
  | some v, some K, h => exact LsV.keep h hb
theorem rel_below {w w' : World} {o : Option Value} {g : Option (List Int)} (h : RelO w o g) (hb : Below w.heap.size w w') : RelO w' o g := by
  match o, g, h with
  | none, none, _ => trivial
  | some v, some K, h => exact LsV.below h hb
/-- Kinds by function and place. -/
abbrev Gs := Int → Int → Option (List Int)
def upG (G : Gs) (k s : Int) (K : List Int) : Gs := fun k' s' => if k' = k ∧ s' = s then some K else G k' s'
/-- THE MAPS AT BLOCK mo, whose map lies at mb, tells the kinds G. -/
structure MmAt (w : World) (mo mb n : Nat) (G : Gs) : Prop where
  box : w.cell? ⟨mo, 0, none⟩ = some (.map (some mb))
  ne : mo ≠ mb
  map : ∃ O, MkAt w mb n O ∧ ∀ k s, I64 k → I64 s → RelO w (O k s) (G k s)
section
variable {w w' : World} {mo mb n : Nat} {G : Gs}
theorem MmAt.lt (h : MmAt w mo mb n G) : mo < w.heap.size ∧ mb < w.heap.size := by
  obtain ⟨O, h1, _⟩ := h.map
  exact ⟨(cell_lt h.box).1, h1.lt⟩
theorem MmAt.below (h : MmAt w mo mb n G) (hb : Below w.heap.size w w') : MmAt w' mo mb n G := by
  obtain ⟨O, h1, h2⟩ := h.map
  exact ⟨(hb.cell (p := ⟨mo, 0, none⟩) h.lt.1).trans h.box, h.ne, O, h1.below hb, fun k s hk hs => rel_below (h2 k s hk hs) hb⟩
theorem MmAt.drewN (h : MmAt w mo mb n G) (q : Nat) : MmAt (w.drewN q) mo mb n G := h.below (below_drewN (Below.refl _ _) q)
theorem MmAt.mono {m : Nat} (h : MmAt w mo mb n G) (hm : n ≤ m) : MmAt w mo mb m G := by
  obtain ⟨O, h1, h2⟩ := h.map
  exact ⟨h.box, h.ne, O, h1.mono hm, h2⟩
theorem MmAt.store (h : MmAt w mo mb n G) {k s : Int} (hk : I64 k) (hs : I64 s) {v : Value} {K : List Int} (hv : LsV w v K) (hn : n ≤ 3000000) :
    ∃ w', (Instr.mapUpdate 74 (.map (some mb)) (plV k s) v).run Try.prog w = .ok () w' ∧ MmAt w' mo mb (if (G k s).isSome then n else n + 1) (upG G k s K) ∧ But mb w w' := by
  obtain ⟨O, h1, h2⟩ := h.map
  obtain ⟨w', hr, hm, hb⟩ := h1.store hk hs v hn
  have he : (O k s).isSome = (G k s).isSome := by
    have := h2 k s hk hs
    cases hg : G k s with
    | none => rw [hg] at this; rw [rel_none this]; rfl
    | some K => rw [hg] at this; obtain ⟨v, hv, _⟩ := rel_some this; rw [hv]; rfl
  rw [he] at hm
  refine ⟨w', hr, ⟨(World.cell?_of_block (hb.block mo h.lt.1 h.ne)).trans h.box, h.ne, _, hm, fun k' s' hk' hs' => ?_⟩, hb⟩
  by_cases e : k' = k ∧ s' = s
  · obtain ⟨rfl, rfl⟩ := e
    rw [upV_same]
    unfold upG
    rw [if_pos ⟨rfl, rfl⟩]
    exact hv.but h1 hb
  · rw [upV_other _ _ e]
    unfold upG
    rw [if_neg e]
    exact rel_but (h2 k' s' hk' hs') h1 hb
theorem MmAt.look_none (h : MmAt w mo mb n G) {k s : Int} (hk : I64 k) (hs : I64 s) (hg : G k s = none) :
    (Instr.lookup 74 (.map (some mb)) (plV k s) true).run Try.prog w = .ok (.tuple #[.slice none 0 0, .bool false]) w ∧ (Instr.lookup 74 (.map (some mb)) (plV k s) false).run Try.prog w = .ok (.slice none 0 0) w := by
  obtain ⟨O, h1, h2⟩ := h.map
  have h3 := h1.look hk hs
  have h4 := h2 k s hk hs
  rw [hg] at h4
  rw [rel_none h4] at h3
  exact h3
theorem MmAt.look_some (h : MmAt w mo mb n G) {k s : Int} (hk : I64 k) (hs : I64 s) {K : List Int} (hg : G k s = some K) :
    ∃ v, LsV w v K ∧ (Instr.lookup 74 (.map (some mb)) (plV k s) true).run Try.prog w = .ok (.tuple #[v, .bool true]) w ∧ (Instr.lookup 74 (.map (some mb)) (plV k s) false).run Try.prog w = .ok v w := by
  obtain ⟨O, h1, h2⟩ := h.map
  have h3 := h1.look hk hs
  have h4 := h2 k s hk hs
  rw [hg] at h4
  obtain ⟨v, hv, hl⟩ := rel_some h4
  rw [hv] at h3
  exact ⟨v, hl, h3⟩
end

/-- In come: the place's box at the end of w, the Maps. -/
structure OnC (w wk : World) (k s : Int) (mo mb n : Nat) (G : Gs) : Prop where
  rq : wk.rowIs w.heap.size 34 2 (plC k s)
  mm : MmAt wk mo mb n G
  low : Below w.heap.size w wk
section
variable {w wk w2 : World} {k s : Int} {mo mb n : Nat} {G : Gs}
theorem OnC.below (h : OnC w wk k s mo mb n G) (hb : Below wk.heap.size wk w2) : OnC w w2 k s mo mb n G := ⟨h.rq.of_block (hb.block _ h.rq.lt), h.mm.below hb, h.low.trans (hb.mono h.low.size)⟩
theorem OnC.c (h : OnC w wk k s mo mb n G) : wk.cell? ⟨w.heap.size, 0, none⟩ = some (.int .i64 k) ∧ wk.cell? ⟨w.heap.size, 1, none⟩ = some (.int .i64 s) ∧ wk.cell? ⟨mo, 0, none⟩ = some (.map (some mb)) :=
  ⟨h.rq.cell (i := 0) (by decide), h.rq.cell (i := 1) (by decide), h.mm.box⟩
end
theorem onC_start {w : World} {mo mb n : Nat} {G : Gs} (h : MmAt w mo mb n G) (k s : Int) : OnC w (w.alloc (.cells #[.int .i64 k, .int .i64 s] 34)) k s mo mb n G :=
  ⟨pl_box w k s, h.below ((Below.refl _ _).alloc (Nat.le_refl _) _), (Below.refl _ _).alloc (Nat.le_refl _) _⟩

set_option maxRecDepth 100000 in
set_option maxHeartbeats 4000000 in
theorem come_new {w : World} {mo mb n : Nat} {G : Gs} {k s : Int} (h : MmAt w mo mb n G) (hk : I64 k) (hs : I64 s) (hg : G k s = none) {v : Value} {K : List Int} (hv : LsV w v K) (hn : n ≤ 3000000) :
    Calls Try.prog 53 #[.pointer (some ⟨mo, 0, none⟩), .agg #[.int .i64 k, .int .i64 s], v] w fun e w' => e = .returned (.bool true) ∧ MmAt w' mo mb (n + 1) (upG G k s K) ∧ But mb w w' := by
  have HO : Hid (OnC w (w.alloc (.cells #[.int .i64 k, .int .i64 s] 34)) k s mo mb n G) := onC_start h k s
  have HV : Hid (LsV (w.alloc (.cells #[.int .i64 k, .int .i64 s] 34)) v K) := hv.below ((Below.refl _ _).alloc (Nat.le_refl _) _)
  have HB : Hid (But mb w (w.alloc (.cells #[.int .i64 k, .int .i64 s] 34))) := ⟨rfl, rfl, rfl, by simp, fun i hi _ => ((Below.refl _ _).alloc (Nat.le_refl _) _).block i hi⟩
  have HG : Hid (G k s = none ∧ I64 k ∧ I64 s) := ⟨hg, hk, hs⟩
  have hlm := h.lt
  obtain ⟨av, cv, rfl, _⟩ := hv.2
  clear h hk hs hg hv
  go_enter Try.func53, Try.ntmps53
  go_upto_region 1 with (fail)
  have hq1 : w.heap.size < (w.alloc (.cells #[.int .i64 k, .int .i64 s] 34)).heap.size := by simp
  generalize w.alloc (.cells #[.int .i64 k, .int .i64 s] 34) = w1 at *
  generalize hqe : w.heap.size = q at *
  have HO1 : Hid (OnC w w1.drew k s mo mb n G) := HO.out.below (Below.refl _ _).drew
  have HC1 : Hid (w1.cell? ⟨q, 0, none⟩ = some (.int .i64 k) ∧ w1.cell? ⟨q, 1, none⟩ = some (.int .i64 s) ∧ w1.cell? ⟨mo, 0, none⟩ = some (.map (some mb))) := by have := HO.out.c; rw [hqe] at this; exact this
  have HL1 : Hid ((Instr.lookup 74 (.map (some mb)) (.agg #[.int .i64 k, .int .i64 s]) true).run Try.prog w1.drew = .ok (.tuple #[.slice none 0 0, .bool false]) w1.drew) := (HO1.out.mm.look_none HG.out.2.1 HG.out.2.2 HG.out.1).1
  go_region_held3 (fun w' => w'.cell? ⟨q, 0, none⟩ = some (.int .i64 k) ∧ w'.cell? ⟨q, 1, none⟩ = some (.int .i64 s) ∧ w'.cell? ⟨mo, 0, none⟩ = some (.map (some mb)) ∧ (Instr.lookup 74 (.map (some mb)) (.agg #[.int .i64 k, .int .i64 s]) true).run Try.prog w' = .ok (.tuple #[.slice none 0 0, .bool false]) w')
    (first | exact ⟨HC1.out.1, HC1.out.2.1, HC1.out.2.2, HL1.out⟩) (fail)
  go_upto_region 3 with (fail)
  have HV2 : Hid (LsV w1.drew.drew (.slice av K.length cv) K) := (HV.out.below (Below.refl _ _).drew).below (Below.refl _ _).drew
  have HB2 : Hid (But mb w w1.drew.drew) := HB.out.drew.drew
  clear HL1 HC1 HV HB HO
  generalize w1.drew = w2 at *
  have HC2 : Hid (w2.cell? ⟨q, 0, none⟩ = some (.int .i64 k) ∧ w2.cell? ⟨q, 1, none⟩ = some (.int .i64 s) ∧ w2.cell? ⟨mo, 0, none⟩ = some (.map (some mb))) := by have := HO1.out.c; rw [hqe] at this; exact this
  have HM3 : Hid (MmAt w2.drew mo mb n G) := HO1.out.mm.below (Below.refl _ _).drew
  obtain ⟨w4, hrun, hm4, hb4⟩ := HM3.out.store HG.out.2.1 HG.out.2.2 HV2.out hn
  rw [HG.out.1] at hm4
  have HM4 : Hid (MmAt w4 mo mb (n + 1) (upG G k s K) ∧ But mb w2.drew w4) := ⟨hm4, hb4⟩
  have HC4 : Hid (w4.cell? ⟨q, 0, none⟩ = some (.int .i64 k) ∧ w4.cell? ⟨q, 1, none⟩ = some (.int .i64 s) ∧ w4.cell? ⟨mo, 0, none⟩ = some (.map (some mb))) := by
    have hr : w4.rowIs w.heap.size 34 2 (plC k s) := (HO1.out.below (Below.refl _ _).drew).rq.of_block (hb4.block _ (HO1.out.below (Below.refl _ _).drew).rq.lt (by rw [hqe]; have := hlm.2; omega))
    rw [hqe] at hr
    exact ⟨hr.cell (i := 0) (by decide), hr.cell (i := 1) (by decide), hm4.box⟩
  unfold plV at hrun
  clear hm4 hb4 HM3 HV2 HO1 hqe hlm hq1
  go_region_held3 (fun w' => w'.cell? ⟨q, 0, none⟩ = some (.int .i64 k) ∧ w'.cell? ⟨q, 1, none⟩ = some (.int .i64 s) ∧ w'.cell? ⟨mo, 0, none⟩ = some (.map (some mb)))
    (first | exact HC2.out | exact HC4.out) (fail)
  all_goals
    clear hrun
    go_wp2_with fail
    go_ret
    exact ⟨rfl, HM4.out.1, HB2.out.trans HM4.out.2⟩

end Go.Proofs.Ytmjappcjfjajmaa

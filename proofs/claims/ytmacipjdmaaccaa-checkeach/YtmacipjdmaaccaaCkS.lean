/- The walk of chapter 11's alive. -/
import Derived.Test.YtmacipjdmaaccaaCkR
namespace Go.Proofs.Ytmacipjdmaaccaa
open Go.RowKit

def aPg : Pg := ⟨[], [], [⟨[], 0, 0, [], [⟨27, 0, 0, 0⟩]⟩]⟩
def bPg : Pg := ⟨[], [], [⟨[], 0, 1, [], [⟨1, 0, 0, 0⟩, ⟨9, 0, 5, 0⟩]⟩]⟩
theorem aPg_gd : Gd aPg := by
  refine ⟨⟨by decide, by decide, by decide, fun L hL => by simp [aPg] at hL, fun f hf => ?_⟩, ⟨fun L hL => by simp [aPg] at hL, fun f hf => ?_⟩, by decide⟩
  · simp [aPg] at hf
    subst hf
    exact ⟨by decide, by decide, by decide⟩
  · simp [aPg] at hf
    subst hf
    decide
theorem bPg_gd : Gd bPg := by
  refine ⟨⟨by decide, by decide, by decide, fun L hL => by simp [bPg] at hL, fun f hf => ?_⟩, ⟨fun L hL => by simp [bPg] at hL, fun f hf => ?_⟩, by decide⟩
  · simp [bPg] at hf
    subst hf
    exact ⟨by decide, by decide, by decide⟩
  · simp [bPg] at hf
    subst hf
    decide
theorem aPg_is : progE aPg = (0, 0, 0) := by decide +kernel
theorem bPg_is : progE bPg = (4, 0, 1) := by decide +kernel

/-- The first program of alive, in memory from B on. -/
structure ApAt (wk : World) (B : Nat) : Prop where
  lt : B + 2 < wk.heap.size
  i : InsAt wk B 0 ⟨27, 0, 0, 0⟩
  f : wk.rowIs (B + 1) 41 5 (fnC ⟨[], 0, 0, [], [⟨27, 0, 0, 0⟩]⟩ none none (some ⟨B, 0, none⟩) 0 0 1)
  p : wk.rowIs (B + 2) 26 3 (pgC (.slice none 0 0) (.slice none 0 0) (.slice (some ⟨B + 1, 0, none⟩) 1 1))
structure BpAt (wk : World) (B : Nat) : Prop where
  lt : B + 2 < wk.heap.size
  i : InsAt wk B 0 ⟨1, 0, 0, 0⟩
  i' : InsAt wk B 4 ⟨9, 0, 5, 0⟩
  f : wk.rowIs (B + 1) 41 5 (fnC ⟨[], 0, 1, [], [⟨1, 0, 0, 0⟩, ⟨9, 0, 5, 0⟩]⟩ none none (some ⟨B, 0, none⟩) 0 0 2)
  p : wk.rowIs (B + 2) 26 3 (pgC (.slice none 0 0) (.slice none 0 0) (.slice (some ⟨B + 1, 0, none⟩) 1 1))
theorem ApAt.below {wk w2 : World} {B : Nat} (h : ApAt wk B) (hb : Below wk.heap.size wk w2) : ApAt w2 B :=
  ⟨Nat.lt_of_lt_of_le h.lt hb.size, h.i.below hb (by have := h.lt; omega), h.f.of_block (hb.block _ h.f.lt), h.p.of_block (hb.block _ h.p.lt)⟩
theorem BpAt.below {wk w2 : World} {B : Nat} (h : BpAt wk B) (hb : Below wk.heap.size wk w2) : BpAt w2 B :=
  ⟨Nat.lt_of_lt_of_le h.lt hb.size, h.i.below hb (by have := h.lt; omega), h.i'.below hb (by have := h.lt; omega), h.f.of_block (hb.block _ h.f.lt), h.p.of_block (hb.block _ h.p.lt)⟩
theorem ApAt.c {wk : World} {B : Nat} (h : ApAt wk B) : wk.cell? ⟨B + 2, 0, none⟩ = some (.slice none 0 0) ∧ wk.cell? ⟨B + 2, 1, none⟩ = some (.slice none 0 0) ∧ wk.cell? ⟨B + 2, 2, none⟩ = some (.slice (some ⟨B + 1, 0, none⟩) 1 1) :=
  ⟨h.p.cell (i := 0) (by decide), h.p.cell (i := 1) (by decide), h.p.cell (i := 2) (by decide)⟩
theorem BpAt.c {wk : World} {B : Nat} (h : BpAt wk B) : wk.cell? ⟨B + 2, 0, none⟩ = some (.slice none 0 0) ∧ wk.cell? ⟨B + 2, 1, none⟩ = some (.slice none 0 0) ∧ wk.cell? ⟨B + 2, 2, none⟩ = some (.slice (some ⟨B + 1, 0, none⟩) 1 1) :=
  ⟨h.p.cell (i := 0) (by decide), h.p.cell (i := 1) (by decide), h.p.cell (i := 2) (by decide)⟩
theorem ApAt.pg {wk : World} {B : Nat} (h : ApAt wk B) : PgV Any wk (.slice none 0 0) (.slice none 0 0) (.slice (some ⟨B + 1, 0, none⟩) 1 1) aPg := by
  have hl := h.lt
  refine ⟨srcP_nil _ _, Or.inl ⟨rfl, _, _, rfl⟩, Or.inr ⟨B + 1, 0, 1, rfl, by omega, trivial, fun j f hj => ?_⟩⟩
  match j, hj with
  | 0, hj =>
    simp [aPg] at hj
    subst hj
    refine ⟨_, _, _, _, _, h.f.cell (i := 0) (by decide), h.f.cell (i := 1) (by decide), h.f.cell (i := 2) (by decide), h.f.cell (i := 3) (by decide), h.f.cell (i := 4) (by decide), srcP_nil _ _, rfl, rfl, srcP_nil _ _, Or.inr ⟨B, 0, 1, rfl, trivial, by omega, fun j i hj => ?_⟩⟩
    match j, hj with
    | 0, hj =>
      simp at hj
      subst hj
      exact h.i
theorem BpAt.pg {wk : World} {B : Nat} (h : BpAt wk B) : PgV Any wk (.slice none 0 0) (.slice none 0 0) (.slice (some ⟨B + 1, 0, none⟩) 1 1) bPg := by
  have hl := h.lt
  refine ⟨srcP_nil _ _, Or.inl ⟨rfl, _, _, rfl⟩, Or.inr ⟨B + 1, 0, 1, rfl, by omega, trivial, fun j f hj => ?_⟩⟩
  match j, hj with
  | 0, hj =>
    simp [bPg] at hj
    subst hj
    refine ⟨_, _, _, _, _, h.f.cell (i := 0) (by decide), h.f.cell (i := 1) (by decide), h.f.cell (i := 2) (by decide), h.f.cell (i := 3) (by decide), h.f.cell (i := 4) (by decide), srcP_nil _ _, rfl, rfl, srcP_nil _ _, Or.inr ⟨B, 0, 2, rfl, trivial, by omega, fun j i hj => ?_⟩⟩
    match j, hj with
    | 0, hj =>
      simp at hj
      subst hj
      exact h.i
    | 1, hj =>
      simp at hj
      subst hj
      exact h.i'
theorem apAt_made {w wi wf wp : World} (h1 : w.alloc (.cells #[.int .i64 27, .int .i64 0, .int .i64 0, .int .i64 0] 52) = wi)
    (h2 : wi.alloc (.cells #[.slice none 0 0, .int .i64 0, .int .i64 0, .slice none 0 0, .slice (some ⟨w.heap.size, 0, none⟩) 1 1] 41) = wf)
    (h3 : wf.alloc (.cells #[.slice none 0 0, .slice none 0 0, .slice (some ⟨w.heap.size + 1, 0, none⟩) 1 1] 26) = wp) : ApAt wp w.heap.size ∧ Below w.heap.size w wp ∧ wp.heap.size = w.heap.size + 3 := by
  have s1 : wi.heap.size = w.heap.size + 1 := by rw [← h1]; simp
  have s2 : wf.heap.size = w.heap.size + 2 := by rw [← h2]; simp [s1]
  have s3 : wp.heap.size = w.heap.size + 3 := by rw [← h3]; simp [s2]
  have b1 : Below w.heap.size w wi := h1 ▸ (Below.refl _ _).alloc (Nat.le_refl _) _
  have b2 : Below wi.heap.size wi wf := h2 ▸ (Below.refl _ _).alloc (Nat.le_refl _) _
  have b3 : Below wf.heap.size wf wp := h3 ▸ (Below.refl _ _).alloc (Nat.le_refl _) _
  refine ⟨⟨by omega, ?_, ?_, ?_⟩, b1.trans ((b2.mono (by omega)).trans (b3.mono (by omega))), s3⟩
  · have : InsAt wi w.heap.size 0 ⟨27, 0, 0, 0⟩ := by
      subst h1
      exact ⟨cell_new w _ _ rfl, cell_new w _ _ rfl, cell_new w _ _ rfl, cell_new w _ _ rfl⟩
    exact (this.below b2 (by omega)).below b3 (by omega)
  · have := fn_box wi ⟨[], 0, 0, [], [⟨27, 0, 0, 0⟩]⟩ none none (some ⟨w.heap.size, 0, none⟩) 0 0 1
    rw [s1] at this
    have h4 : wf.rowIs (w.heap.size + 1) 41 5 _ := h2 ▸ this
    exact h4.of_block (b3.block _ (by omega))
  · have := pg_box wf 0 0 1 none none (some ⟨w.heap.size + 1, 0, none⟩) 0 0 1
    rw [s2] at this
    exact h3 ▸ this
theorem bpAt_made {w wi wf wp : World} {C : Nat} (hC : w.heap.size = C) (h1 : w.alloc (.cells #[.int .i64 1, .int .i64 0, .int .i64 0, .int .i64 0, .int .i64 9, .int .i64 0, .int .i64 5, .int .i64 0] 52) = wi)
    (h2 : wi.alloc (.cells #[.slice none 0 0, .int .i64 0, .int .i64 1, .slice none 0 0, .slice (some ⟨C, 0, none⟩) 2 2] 41) = wf)
    (h3 : wf.alloc (.cells #[.slice none 0 0, .slice none 0 0, .slice (some ⟨C + 1, 0, none⟩) 1 1] 26) = wp) : BpAt wp C ∧ Below w.heap.size w wp := by
  subst hC
  have s1 : wi.heap.size = w.heap.size + 1 := by rw [← h1]; simp
  have s2 : wf.heap.size = w.heap.size + 2 := by rw [← h2]; simp [s1]
  have s3 : wp.heap.size = w.heap.size + 3 := by rw [← h3]; simp [s2]
  have b1 : Below w.heap.size w wi := h1 ▸ (Below.refl _ _).alloc (Nat.le_refl _) _
  have b2 : Below wi.heap.size wi wf := h2 ▸ (Below.refl _ _).alloc (Nat.le_refl _) _
  have b3 : Below wf.heap.size wf wp := h3 ▸ (Below.refl _ _).alloc (Nat.le_refl _) _
  refine ⟨⟨by omega, ?_, ?_, ?_, ?_⟩, b1.trans ((b2.mono (by omega)).trans (b3.mono (by omega)))⟩
  · have : InsAt wi w.heap.size 0 ⟨1, 0, 0, 0⟩ := by
      subst h1
      exact ⟨cell_new w _ _ rfl, cell_new w _ _ rfl, cell_new w _ _ rfl, cell_new w _ _ rfl⟩
    exact (this.below b2 (by omega)).below b3 (by omega)
  · have : InsAt wi w.heap.size 4 ⟨9, 0, 5, 0⟩ := by
      subst h1
      exact ⟨cell_new w _ _ rfl, cell_new w _ _ rfl, cell_new w _ _ rfl, cell_new w _ _ rfl⟩
    exact (this.below b2 (by omega)).below b3 (by omega)
  · have := fn_box wi ⟨[], 0, 1, [], [⟨1, 0, 0, 0⟩, ⟨9, 0, 5, 0⟩]⟩ none none (some ⟨w.heap.size, 0, none⟩) 0 0 2
    rw [s1] at this
    have h4 : wf.rowIs (w.heap.size + 1) 41 5 _ := h2 ▸ this
    exact h4.of_block (b3.block _ (by omega))
  · have := pg_box wf 0 0 1 none none (some ⟨w.heap.size + 1, 0, none⟩) 0 0 1
    rw [s2] at this
    exact h3 ▸ this

set_option maxRecDepth 100000 in
set_option maxHeartbeats 8000000 in
theorem alive_any (w : World) : Calls Try.prog 6 #[] w fun e w' => e = .returned (.bool true) ∧ Below w.heap.size w w' := by
  obtain ⟨wi, h1⟩ : ∃ wi, w.alloc (.cells #[.int .i64 27, .int .i64 0, .int .i64 0, .int .i64 0] 52) = wi := ⟨_, rfl⟩
  obtain ⟨wf, h2⟩ : ∃ wf, wi.alloc (.cells #[.slice none 0 0, .int .i64 0, .int .i64 0, .slice none 0 0, .slice (some ⟨w.heap.size, 0, none⟩) 1 1] 41) = wf := ⟨_, rfl⟩
  obtain ⟨wp, h3⟩ : ∃ wp, wf.alloc (.cells #[.slice none 0 0, .slice none 0 0, .slice (some ⟨w.heap.size + 1, 0, none⟩) 1 1] 26) = wp := ⟨_, rfl⟩
  have s1 : wi.heap.size = w.heap.size + 1 := by rw [← h1]; simp
  have s2 : wf.heap.size = w.heap.size + 2 := by rw [← h2]; simp [s1]
  obtain ⟨hap, hbl, s3⟩ := apAt_made h1 h2 h3
  obtain ⟨vi, k1⟩ : ∃ vi, wp.alloc (.cells #[.int .i64 1, .int .i64 0, .int .i64 0, .int .i64 0, .int .i64 9, .int .i64 0, .int .i64 5, .int .i64 0] 52) = vi := ⟨_, rfl⟩
  obtain ⟨vf, k2⟩ : ∃ vf, vi.alloc (.cells #[.slice none 0 0, .int .i64 0, .int .i64 1, .slice none 0 0, .slice (some ⟨w.heap.size + 3, 0, none⟩) 2 2] 41) = vf := ⟨_, rfl⟩
  obtain ⟨vp, k3⟩ : ∃ vp, vf.alloc (.cells #[.slice none 0 0, .slice none 0 0, .slice (some ⟨w.heap.size + 4, 0, none⟩) 1 1] 26) = vp := ⟨_, rfl⟩
  have t1 : vi.heap.size = w.heap.size + 4 := by rw [← k1]; simp [s3]
  have t2 : vf.heap.size = w.heap.size + 5 := by rw [← k2]; simp [t1]
  obtain ⟨hbp, hbk⟩ := bpAt_made (C := w.heap.size + 3) s3 k1 k2 k3
  have HAp : Hid (ApAt vp w.heap.size) := hap.below hbk
  have HBp : Hid (BpAt vp (w.heap.size + 3)) := hbp
  have HLo : Hid (Below w.heap.size w vp) := hbl.trans (hbk.mono hbl.size)
  obtain ⟨d0, d1, d2⟩ := HAp.out.c
  obtain ⟨e0, e1, e2⟩ := HBp.out.c
  clear hap hbl hbp hbk
  go_enter Try.func6, Try.ntmps6
  go_wp2_with fail
  refine (program_any aPg none none (some ⟨w.heap.size + 1, 0, none⟩) 0 0 1 aPg_gd _ HAp.out.pg).mono ?_
  rintro e w2 ⟨he, hb⟩
  unfold ProgIs at he
  rw [aPg_is] at he
  subst he
  have hB2 : Below w2.heap.size w2 (w2.alloc (.cells #[.int .i64 0, .int .i64 0] 31)) := (Below.refl _ _).alloc (Nat.le_refl _) _
  have HBp2 : Hid (BpAt (w2.alloc (.cells #[.int .i64 0, .int .i64 0] 31)) (w.heap.size + 3)) := (HBp.out.below hb).below hB2
  have HLo2 : Hid (Below w.heap.size w (w2.alloc (.cells #[.int .i64 0, .int .i64 0] 31))) := (HLo.out.trans (hb.mono HLo.out.size)).trans (hB2.mono (Nat.le_trans HLo.out.size hb.size))
  clear hb hB2 d0 d1 d2 e0 e1 e2 HAp HBp HLo h1 h2 h3 s1 s2 s3 k1 k2 k3 t1 t2
  obtain ⟨e0, e1, e2⟩ := HBp2.out.c
  go_wp2_with fail
  refine (program_any bPg none none (some ⟨w.heap.size + 4, 0, none⟩) 0 0 1 bPg_gd _ HBp2.out.pg).mono ?_
  rintro e w4 ⟨he, hb⟩
  unfold ProgIs at he
  rw [bPg_is] at he
  subst he
  have HLo4 : Hid (Below w.heap.size w (w4.alloc (.cells #[.int .i64 0, .int .i64 1] 31))) := (HLo2.out.trans (hb.mono HLo2.out.size)).alloc (Nat.le_trans HLo2.out.size hb.size) _
  clear hb e0 e1 e2 HBp2
  go_wp2_with fail
  go_ret
  exact ⟨rfl, HLo4.out⟩

end Go.Proofs.Ytmacipjdmaaccaa

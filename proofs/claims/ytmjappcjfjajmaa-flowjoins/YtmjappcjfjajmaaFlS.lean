/- In follow: what is in memory, and what keeps it. The walk of follow. -/
import Derived.Test.YtmjappcjfjajmaaFlP
import Derived.Test.YtmjappcjfjajmaaLsA
import Derived.Deep.LoopGhost
import Derived.Deep.AppendLies
namespace Go.Proofs.Ytmjappcjfjajmaa
open Go.RowKit Go.Maps

/-- A program's lists lie elsewhere than a map. -/
theorem map_no_cell {w : World} {mb n o : Nat} {O : Int → Int → Option Value} (hm : MkAt w mb n O) : w.cell? ⟨mb, o, none⟩ = none := by
  obtain ⟨D, ⟨es, clock, hbk, _⟩, _⟩ := hm
  simp [World.cell?, hbk]
section
variable {w : World} {mb n : Nat} {O : Int → Int → Option Value}
theorem srcP_ne (hm : MkAt w mb n O) {v : Value} {L : List Int} (h : SrcP Any w v L) : SrcP (fun b => b ≠ mb) w v L := by
  rcases h with h | ⟨b, off, c, h1, _, h2, h3⟩
  · exact Or.inl h
  · by_cases h0 : L = []
    · subst h0
      exact Or.inl ⟨rfl, Or.inr ⟨_, c, h1⟩⟩
    · have hp : 0 < L.length := List.length_pos_iff.2 h0
      refine Or.inr ⟨b, off, c, h1, fun e => ?_, h2, h3⟩
      subst e
      have := h3 0 hp
      rw [map_no_cell hm] at this
      cases this
theorem srcJ_ne (hm : MkAt w mb n O) {v : Value} {L : List Ins} (h : SrcJ Any w v L) : SrcJ (fun b => b ≠ mb) w v L := by
  rcases h with h | ⟨b, off, c, h1, _, h2, h3⟩
  · exact Or.inl h
  · by_cases h0 : L = []
    · subst h0
      exact Or.inl ⟨rfl, Or.inr ⟨_, c, h1⟩⟩
    · have hp : 0 < L.length := List.length_pos_iff.2 h0
      refine Or.inr ⟨b, off, c, h1, fun e => ?_, h2, h3⟩
      subst e
      have := (h3 0 _ (List.getElem?_eq_getElem hp)).1
      rw [map_no_cell hm] at this
      cases this
theorem pgV_ne (hm : MkAt w mb n O) {vg vs vf : Value} {p : Pg} (h : PgV Any w vg vs vf p) : PgV (fun b => b ≠ mb) w vg vs vf p := by
  refine ⟨srcP_ne hm h.glob, ?_, ?_⟩
  · rcases h.shapes with h1 | ⟨b, off, c, h1, h2⟩
    · exact Or.inl h1
    · by_cases h0 : p.shapes = []
      · rw [h0] at h1 ⊢
        exact Or.inl ⟨rfl, _, c, h1⟩
      · have hp : 0 < p.shapes.length := List.length_pos_iff.2 h0
        refine Or.inr ⟨b, off, c, h1, h2.lt, fun e => ?_, fun j L hj => ?_⟩
        · subst e
          obtain ⟨v, hc, _⟩ := h2.cell 0 _ (List.getElem?_eq_getElem hp)
          rw [map_no_cell hm] at hc
          cases hc
        · obtain ⟨v, g1, g2⟩ := h2.cell j L hj
          exact ⟨v, g1, srcP_ne hm g2⟩
  · rcases h.funcs with h1 | ⟨b, off, c, h1, h2⟩
    · exact Or.inl h1
    · by_cases h0 : p.funcs = []
      · rw [h0] at h1 ⊢
        exact Or.inl ⟨rfl, _, c, h1⟩
      · have hp : 0 < p.funcs.length := List.length_pos_iff.2 h0
        refine Or.inr ⟨b, off, c, h1, h2.lt, fun e => ?_, fun j L hj => ?_⟩
        · subst e
          obtain ⟨v0, v1, v2, v3, v4, hc, _⟩ := h2.cell 0 _ (List.getElem?_eq_getElem hp)
          rw [map_no_cell hm] at hc
          cases hc
        · obtain ⟨v0, v1, v2, v3, v4, g0, g1, g2, g3, g4, g5⟩ := h2.cell j L hj
          exact ⟨v0, v1, v2, v3, v4, g0, g1, g2, g3, g4, srcP_ne hm g5.args, g5.res, g5.slots, srcP_ne hm g5.objs, srcJ_ne hm g5.code⟩
end

/-- The kinds of the function j are X, all others are G's. -/
def GX (G : Gs) (j : Nat) (X : Ks) : Gs := fun k s => if k = (j : Int) ∧ 0 ≤ s then X s.toNat else G k s
theorem GX_at (G : Gs) (j s : Nat) (X : Ks) : GX G j X (j : Int) (s : Int) = X s := by unfold GX; rw [if_pos ⟨rfl, by omega⟩, Int.toNat_natCast]
theorem GX_come_none {G : Gs} {j t : Nat} {X : Ks} {K : List Int} (h : X t = none) : upG (GX G j X) (j : Int) (t : Int) K = GX G j (cmK X t K) := by
  funext k s
  unfold upG GX
  by_cases e : k = (j : Int) ∧ s = (t : Int)
  · obtain ⟨rfl, rfl⟩ := e
    rw [if_pos ⟨rfl, rfl⟩, if_pos ⟨rfl, by omega⟩, Int.toNat_natCast, cmK_none K h]
  · rw [if_neg e]
    by_cases e2 : k = (j : Int) ∧ 0 ≤ s
    · rw [if_pos e2, if_pos e2, cmK_other]
      intro h3
      exact e ⟨e2.1, by omega⟩
    · rw [if_neg e2, if_neg e2]
theorem GX_come_some {G : Gs} {j t : Nat} {X : Ks} {K l : List Int} (h : X t = some l) : upG (GX G j X) (j : Int) (t : Int) (joinK l K) = GX G j (cmK X t K) := by
  funext k s
  unfold upG GX
  by_cases e : k = (j : Int) ∧ s = (t : Int)
  · obtain ⟨rfl, rfl⟩ := e
    rw [if_pos ⟨rfl, rfl⟩, if_pos ⟨rfl, by omega⟩, Int.toNat_natCast, cmK_some K h]
  · rw [if_neg e]
    by_cases e2 : k = (j : Int) ∧ 0 ≤ s
    · rw [if_pos e2, if_pos e2, cmK_other]
      intro h3
      exact e ⟨e2.1, by omega⟩
    · rw [if_neg e2, if_neg e2]
theorem GX_none {G : Gs} {j : Nat} (h : ∀ s, G (j : Int) s = none) : GX G j (fun _ => none) = G := by
  funext k s
  unfold GX
  split
  · rename_i e; rw [e.1, h]
  · rfl

def wkC (j : Nat) (W : List Nat) : List Value := W.flatMap fun (s : Nat) => [Value.int .i64 (j : Int), .int .i64 (s : Int)]
theorem wkC_len (j : Nat) : ∀ W : List Nat, (wkC j W).length = W.length * 2
  | [] => rfl
  | s :: W => by
    have h : wkC j (s :: W) = .int .i64 (j : Int) :: .int .i64 (s : Int) :: wkC j W := rfl
    rw [h, List.length_cons, List.length_cons, wkC_len j W, List.length_cons]
    omega
theorem wkC_snoc (j : Nat) (W : List Nat) (s : Nat) : wkC j (W ++ [s]) = wkC j W ++ [.int .i64 (j : Int), .int .i64 (s : Int)] := by unfold wkC; rw [List.flatMap_append]; rfl

/-- IN follow, at w: the program's box at the end of w0, the Maps, the list of places that are to be looked at. -/
structure FlAt (w0 w : World) (p : Pg) (ag az af : Option Addr) (cg cs cf : Nat) (j : Nat) (mo mb n : Nat) (G : Gs) (X : Ks) (W : List Nat) (g cap : Nat) : Prop where
  bt : But mb w0 w
  mlt : mb < w0.heap.size ∧ mo < w0.heap.size
  rp : w.rowIs w0.heap.size 26 3 (pgC (.slice ag p.glob.length cg) (.slice az p.shapes.length cs) (.slice af p.funcs.length cf))
  pn : PgV (fun b => b ≠ mb ∧ b < w0.heap.size) w (.slice ag p.glob.length cg) (.slice az p.shapes.length cs) (.slice af p.funcs.length cf) p
  mm : MmAt w mo mb n (GX G j X)
  own : w.ownsRow (w0.heap.size + 1) 34 2 (.slice (some ⟨g, 0, none⟩) W.length cap) W.length (wkC j W)
section
variable {w0 w w2 : World} {p : Pg} {ag az af : Option Addr} {cg cs cf : Nat} {j mo mb n : Nat} {G : Gs} {X : Ks} {W : List Nat} {g cap : Nat}
theorem FlAt.pp (h : FlAt w0 w p ag az af cg cs cf j mo mb n G X W g cap) : PgV Any w (.slice ag p.glob.length cg) (.slice az p.shapes.length cs) (.slice af p.funcs.length cf) p := h.pn.mono fun _ _ _ => trivial
theorem FlAt.c (h : FlAt w0 w p ag az af cg cs cf j mo mb n G X W g cap) : w.cell? ⟨w0.heap.size, 0, none⟩ = some (.slice ag p.glob.length cg) ∧ w.cell? ⟨w0.heap.size, 1, none⟩ = some (.slice az p.shapes.length cs) ∧ w.cell? ⟨w0.heap.size, 2, none⟩ = some (.slice af p.funcs.length cf) :=
  ⟨h.rp.cell (i := 0) (by decide), h.rp.cell (i := 1) (by decide), h.rp.cell (i := 2) (by decide)⟩
theorem FlAt.below (h : FlAt w0 w p ag az af cg cs cf j mo mb n G X W g cap) (hb : Below w.heap.size w w2) : FlAt w0 w2 p ag az af cg cs cf j mo mb n G X W g cap :=
  ⟨h.bt.trans ⟨hb.os, hb.tape, hb.output, hb.size, fun i hi _ => hb.block i hi⟩, h.mlt, h.rp.of_block (hb.block _ h.rp.lt), h.pn.stay (Stay.all hb), h.mm.below hb, own_below h.own hb⟩
theorem FlAt.glt (h : FlAt w0 w p ag az af cg cs cf j mo mb n G X W g cap) : w0.heap.size < g ∧ g < w.heap.size := by
  have := h.own.lt g rfl
  omega
/-- The Maps changed, nothing else. -/
theorem FlAt.came (h : FlAt w0 w p ag az af cg cs cf j mo mb n G X W g cap) (hb : But mb w w2) {n' : Nat} {X' : Ks} (hm : MmAt w2 mo mb n' (GX G j X')) : FlAt w0 w2 p ag az af cg cs cf j mo mb n' G X' W g cap := by
  have hg := h.glt
  have hml := h.mlt.1
  refine ⟨h.bt.trans hb, h.mlt, h.rp.of_block (hb.block _ h.rp.lt (by omega)), h.pn.stay ⟨hb.size, fun b hlt hP => hb.block b hlt hP.1⟩, hm, h.own.1, ?_⟩
  rcases h.own.2 with h2 | ⟨g', cap', cur, h2, h3, h4, r⟩
  · exact Or.inl h2
  · cases h2
    exact Or.inr ⟨g, cap, cur, rfl, h3, (hb.block g hg.2 (by omega)).trans h4, r⟩
/-- The list of places grew. -/
theorem FlAt.grew (h : FlAt w0 w p ag az af cg cs cf j mo mb n G X W g cap) (hb : w.grownBy w2 (some g)) {W' : List Nat} {g' cap' : Nat} (ho : w2.ownsRow (w0.heap.size + 1) 34 2 (.slice (some ⟨g', 0, none⟩) W'.length cap') W'.length (wkC j W')) : FlAt w0 w2 p ag az af cg cs cf j mo mb n G X W' g' cap' := by
  have hg := h.glt
  have hgr := hb
  have hP : ∃ cur fl, w.heap[g]? = some (.cells cur 34 fl) := by
    rcases h.own.2 with ⟨h2, _⟩ | ⟨g', cap', cur, h2, h3, h4, r⟩
    · cases h2
    · cases h2; exact ⟨cur, _, h4⟩
  obtain ⟨cur, fl, hcur⟩ := hP
  have hK : KpI w w2 := ⟨hgr.size, fun b ⟨cs, fl', hc⟩ => hgr.block b (Array.getElem?_eq_some_iff.1 hc).1 (fun e => by
    simp at e
    subst e
    rw [hcur] at hc
    cases hc)⟩
  have hbl : ∀ b, b < w.heap.size → b ≠ g → w2.heap[b]? = w.heap[b]? := fun b hlt hne => hgr.block b hlt (fun e => hne (by simpa using e))
  refine ⟨⟨hgr.os.trans h.bt.os, hgr.tape.trans h.bt.tape, hgr.output.trans h.bt.output, Nat.le_trans h.bt.size hgr.size, fun b hlt hne => (hbl b (Nat.lt_of_lt_of_le hlt h.bt.size) (by omega)).trans (h.bt.block b hlt hne)⟩, h.mlt, h.rp.of_block (hbl _ h.rp.lt (by omega)), h.pn.stay ⟨hgr.size, fun b hlt hP => hbl b hlt (by have := hP.2; omega)⟩, ?_, ho⟩
  obtain ⟨O, h1, h2⟩ := h.mm.map
  have hml := h.mlt
  exact ⟨(World.cell?_of_block (hbl mo (by have := h.bt.size; omega) (by omega))).trans h.mm.box, h.mm.ne, O, h1.of_block (hbl mb h1.lt (by omega)), fun k s hk hs => rel_keep (h2 k s hk hs) hK⟩
end

end Go.Proofs.Ytmjappcjfjajmaa

namespace Go.Proofs.Ytmjappcjfjajmaa
open Go.RowKit Go.Maps

theorem Try.infoPlace : (Try.prog.info? 34).map (fun i => (i.zero, i.size, i.bytes)) = some (some (.agg #[.int .i64 0, .int .i64 0]), 2, 16) := by kernel_rfl
theorem own_prefix2 {base g n cap : Nat} {e : TypeId} {xs ys : List Value} {w : World} (h : w.ownsRow base e 2 (.slice (some ⟨g, 0, none⟩) (n + 1) cap) (n + 1) (xs ++ ys)) (hx : xs.length = n * 2) :
    w.ownsRow base e 2 (.slice (some ⟨g, 0, none⟩) n cap) n xs := by
  obtain ⟨h1, h2⟩ := h
  refine ⟨hx, ?_⟩
  rcases h2 with ⟨h2, _⟩ | ⟨g', cap', cur, hv, hg, hh, hn, hc, hs, ht⟩
  · simp at h2
  · simp at hv
    obtain ⟨rfl, rfl⟩ := hv
    refine Or.inr ⟨g, cap, cur, rfl, hg, hh, by omega, hc, hs, ?_⟩
    have e1 : cur.toList.take (n * 2) = (cur.toList.take ((n + 1) * 2)).take (n * 2) := by rw [List.take_take]; congr 1; omega
    rw [e1, ht, ← hx, List.take_left]
theorem FlAt.pop {w0 w : World} {p : Pg} {ag az af : Option Addr} {cg cs cf : Nat} {j mo mb n : Nat} {G : Gs} {X : Ks} {W : List Nat} {g cap pc : Nat} (h : FlAt w0 w p ag az af cg cs cf j mo mb n G X (W ++ [pc]) g cap) :
    FlAt w0 w p ag az af cg cs cf j mo mb n G X W g cap ∧ w.cell? ⟨g, W.length * 2, none⟩ = some (.int .i64 (j : Int)) ∧ w.cell? ⟨g, W.length * 2 + 1, none⟩ = some (.int .i64 (pc : Int)) ∧ W.length + 1 ≤ cap ∧ cap ≤ maxLen := by
  have ho := h.own
  rw [wkC_snoc, List.length_append] at ho
  refine ⟨⟨h.bt, h.mlt, h.rp, h.pn, h.mm, own_prefix2 ho (wkC_len j W)⟩, ?_, ?_, ?_⟩
  · rw [ho.cellAt _ (by simp), List.getElem?_append_right (by rw [wkC_len]; exact Nat.le_refl _), wkC_len, Nat.sub_self]
    rfl
  · rw [ho.cellAt _ (by simp; omega), List.getElem?_append_right (by rw [wkC_len]; omega), wkC_len]
    rw [show W.length * 2 + 1 - W.length * 2 = 1 by omega]
    rfl
  · rcases ho.2 with ⟨h2, _⟩ | ⟨g', cap', cur, hv, hg, hh, hn, hc, hs, ht⟩
    · cases h2
    · cases hv
      exact ⟨by simpa using hn, hc⟩

theorem but_cells {w w2 : World} {q b off j mb : Nat} {p0 p1 p2 u0 u1 u2 u3 u4 : Value} (hb : But mb w w2) (hq : mb < q) (hbm : b ≠ mb)
    (h : (w.cell? ⟨q + 1, 0, none⟩ = some p0 ∧ w.cell? ⟨q + 1, 1, none⟩ = some p1) ∧ w.cell? ⟨q, 2, none⟩ = some p2 ∧ w.cell? ⟨b, off + j * 5, none⟩ = some u0 ∧ w.cell? ⟨b, off + j * 5 + 1, none⟩ = some u1 ∧ w.cell? ⟨b, off + j * 5 + 2, none⟩ = some u2 ∧ w.cell? ⟨b, off + j * 5 + 3, none⟩ = some u3 ∧ w.cell? ⟨b, off + j * 5 + 4, none⟩ = some u4) :
    (w2.cell? ⟨q + 1, 0, none⟩ = some p0 ∧ w2.cell? ⟨q + 1, 1, none⟩ = some p1) ∧ w2.cell? ⟨q, 2, none⟩ = some p2 ∧ w2.cell? ⟨b, off + j * 5, none⟩ = some u0 ∧ w2.cell? ⟨b, off + j * 5 + 1, none⟩ = some u1 ∧ w2.cell? ⟨b, off + j * 5 + 2, none⟩ = some u2 ∧ w2.cell? ⟨b, off + j * 5 + 3, none⟩ = some u3 ∧ w2.cell? ⟨b, off + j * 5 + 4, none⟩ = some u4 := by
  obtain ⟨⟨h1, h2⟩, h3, h4, h5, h6, h7, h8⟩ := h
  have k : ∀ {c o : Nat} {v : Value}, c ≠ mb → w.cell? ⟨c, o, none⟩ = some v → w2.cell? ⟨c, o, none⟩ = some v := fun hc hv => (World.cell?_of_block (hb.block _ (cell_lt hv).1 hc)).trans hv
  exact ⟨⟨k (by omega) h1, k (by omega) h2⟩, k (by omega) h3, k hbm h4, k hbm h5, k hbm h6, k hbm h7, k hbm h8⟩
theorem flAt_start {w w2 w3 : World} {p : Pg} {f : Fn} {ag az af : Option Addr} {cg cs cf : Nat} {j mo mb n : Nat} {G : Gs} (h2 : OnQ w w2 (j : Int) 0 p ag az af cg cs cf) (hml : mb < w.heap.size ∧ mo < w.heap.size) (hpn : PgV (fun b => b ≠ mb ∧ b < w.heap.size) w2 (.slice ag p.glob.length cg) (.slice az p.shapes.length cs) (.slice af p.funcs.length cf) p)
    (hm : MmAt w3 mo mb n (upG G (j : Int) 0 (begK f))) (hb : But mb w2 w3) (hg : ∀ s, G (j : Int) s = none) : FlAt w (w3.alloc (.cells #[.int .i64 (j : Int), .int .i64 0] 34)) p ag az af cg cs cf j mo mb n G (begX f) [0] w3.heap.size 1 := by
  have hA : Below w3.heap.size w3 (w3.alloc (.cells #[.int .i64 (j : Int), .int .i64 0] 34)) := (Below.refl _ _).alloc (Nat.le_refl _) _
  have h20 : But mb w w2 := ⟨h2.low.os, h2.low.tape, h2.low.output, h2.low.size, fun i hi _ => h2.low.block i hi⟩
  have hx : upG G (j : Int) 0 (begK f) = GX G j (begX f) := by
    have := GX_come_none (G := G) (j := j) (t := 0) (X := fun _ => none) (K := begK f) rfl
    rw [GX_none hg, cm_begin] at this
    exact this
  have hr : w3.rowIs w.heap.size 26 3 (pgC (.slice ag p.glob.length cg) (.slice az p.shapes.length cs) (.slice af p.funcs.length cf)) := h2.rp.of_block (hb.block _ h2.rp.lt (by omega))
  rw [hx] at hm
  exact ⟨(h20.trans hb).trans ⟨hA.os, hA.tape, hA.output, hA.size, fun i hi _ => hA.block i hi⟩, hml, hr.of_block (hA.block _ hr.lt), (hpn.stay ⟨hb.size, fun b hlt hP => hb.block b hlt hP.1⟩).stay (Stay.all hA), hm.below hA, World.ownsRow_lit w3 #[.int .i64 (j : Int), .int .i64 0] 1 (by have := h2.rq.lt; have := hb.size; omega) (by decide) rfl⟩
/-- What stands while a place is looked at. -/
structure FlIn (w0 w : World) (p : Pg) (f : Fn) (ag az af : Option Addr) (cg cs cf : Nat) (j mo mb n nb : Nat) (G : Gs) (X : Ks) (W : List Nat) (g cap : Nat) (pc : Nat) (i : Ins) (K0 : List Int) (k gk : Nat) (bv nv : Value) : Prop where
  at_ : FlAt w0 w p ag az af cg cs cf j mo mb n G X W g cap
  fj : Fj p f X W pc i K0 k
  bd : n + potK f.code.length f.slots.toNat X ≤ nb
  ms : 2 * potK f.code.length f.slots.toNat X + W.length < gk
  bh : LsV w bv (behK p f i K0)
  nx : SrcAt w nv (nxtI i (pc : Int)) ∧ IntRowV w nv
/-- What stands where the loop begins anew. -/
def FlOut (w0 w : World) (p : Pg) (f : Fn) (ag az af : Option Addr) (cg cs cf : Nat) (j mo mb n nb : Nat) (G : Gs) (X : Ks) (W : List Nat) (g cap k : Nat) : Prop :=
  FlAt w0 w p ag az af cg cs cf j mo mb n G X W g cap ∧ Fi p f X W ∧ n + potK f.code.length f.slots.toNat X ≤ nb ∧ 2 * potK f.code.length f.slots.toNat X + W.length ≤ k

theorem begX_len {f : Fn} {q : Nat} {K : List Int} (h : begX f q = some K) : K.length = (begK f).length := by
  unfold begX at h
  split at h
  · cases h; rfl
  · cases h
theorem pot_le (n m : Nat) (X : Ks) (h : ∀ q K, X q = some K → K.length ≤ m) : potK n m X ≤ n * (m + 1) := by
  induction n with
  | zero => exact Nat.zero_le _
  | succ n ih =>
    rw [potK_succ, Nat.succ_mul]
    have h1 : potA m (X n) ≤ m + 1 := by
      cases hx : X n with
      | none => exact Nat.le_refl _
      | some K =>
        have h2 := h n K hx
        have h3 := nz_len K
        show nzK K ≤ m + 1
        omega
    omega
theorem srcI_keep {w w' : World} {v : Value} {L : List Int} (h : SrcAt w v L) (hr : IntRowV w v) (hb : KpI w w') : SrcAt w' v L ∧ IntRowV w' v := by
  refine ⟨?_, fun a n c e => (hr a n c e).of_block hb.2⟩
  rcases h with h1 | ⟨b, off, c, e1, e2, e3⟩
  · exact Or.inl h1
  · exact Or.inr ⟨b, off, c, e1, Nat.lt_of_lt_of_le e2 hb.1, fun j hj => (World.cell?_of_block (hb.2 b (hr _ _ _ e1 b off none rfl))).trans (e3 j hj)⟩
theorem kpI_below {w w' : World} (hb : Below w.heap.size w w') : KpI w w' := ⟨hb.size, fun b ⟨_, _, hc⟩ => hb.block b (Array.getElem?_eq_some_iff.1 hc).1⟩
section
variable {w0 w w2 : World} {p : Pg} {f : Fn} {ag az af : Option Addr} {cg cs cf : Nat} {j mo mb n nb : Nat} {G : Gs} {X : Ks} {W : List Nat} {g cap pc k gk t : Nat} {i : Ins} {K0 : List Int} {bv nv : Value}
theorem FlIn.below (h : FlIn w0 w p f ag az af cg cs cf j mo mb n nb G X W g cap pc i K0 k gk bv nv) (hb : Below w.heap.size w w2) : FlIn w0 w2 p f ag az af cg cs cf j mo mb n nb G X W g cap pc i K0 k gk bv nv :=
  ⟨h.at_.below hb, h.fj, h.bd, h.ms, h.bh.below hb, srcI_keep h.nx.1 h.nx.2 (kpI_below hb)⟩
theorem FlIn.skip (h : FlIn w0 w p f ag az af cg cs cf j mo mb n nb G X W g cap pc i K0 k gk bv nv) (ht : (nxt i pc)[k]? = some t) (htl : ¬ t < f.code.length) : FlIn w0 w p f ag az af cg cs cf j mo mb n nb G X W g cap pc i K0 (k + 1) gk bv nv :=
  ⟨h.at_, h.fj.out ht htl, h.bd, h.ms, h.bh, h.nx⟩
/-- What stands where a place came that is to be looked at. -/
structure FlCm (w0 w : World) (p : Pg) (f : Fn) (ag az af : Option Addr) (cg cs cf : Nat) (j mo mb n nb : Nat) (G : Gs) (X : Ks) (W : List Nat) (g cap : Nat) (pc : Nat) (i : Ins) (K0 : List Int) (k gk t : Nat) (bv nv : Value) : Prop where
  at_ : FlAt w0 w p ag az af cg cs cf j mo mb n G X W g cap
  fj : Fj p f X (W ++ [t]) pc i K0 k
  bd : n + potK f.code.length f.slots.toNat X ≤ nb
  ms : 2 * potK f.code.length f.slots.toNat X + (W.length + 1) < gk
  bh : LsV w bv (behK p f i K0)
  nx : SrcAt w nv (nxtI i (pc : Int)) ∧ IntRowV w nv
theorem FlCm.below (h : FlCm w0 w p f ag az af cg cs cf j mo mb n nb G X W g cap pc i K0 k gk t bv nv) (hb : Below w.heap.size w w2) : FlCm w0 w2 p f ag az af cg cs cf j mo mb n nb G X W g cap pc i K0 k gk t bv nv :=
  ⟨h.at_.below hb, h.fj, h.bd, h.ms, h.bh.below hb, srcI_keep h.nx.1 h.nx.2 (kpI_below hb)⟩
theorem FlCm.grew (h : FlCm w0 w p f ag az af cg cs cf j mo mb n nb G X W g cap pc i K0 k gk t bv nv) (hb : w.grownBy w2 (some g)) {g' cap' : Nat} (ho : w2.ownsRow (w0.heap.size + 1) 34 2 (.slice (some ⟨g', 0, none⟩) (W.length + 1) cap') (W.length + 1) (wkC j W ++ [.int .i64 (j : Int), .int .i64 (t : Int)])) :
    FlIn w0 w2 p f ag az af cg cs cf j mo mb n nb G X (W ++ [t]) g' cap' pc i K0 k gk bv nv := by
  have hl : (W ++ [t]).length = W.length + 1 := by simp
  rw [← wkC_snoc, ← hl] at ho
  have hP : ∃ cur fl, w.heap[g]? = some (.cells cur 34 fl) := by
    rcases h.at_.own.2 with ⟨h2, _⟩ | ⟨g', cap', cur, h2, h3, h4, r⟩
    · cases h2
    · cases h2; exact ⟨cur, _, h4⟩
  obtain ⟨cur, fl, hcur⟩ := hP
  have hK : KpI w w2 := ⟨hb.size, fun b ⟨cs, fl', hc⟩ => hb.block b (Array.getElem?_eq_some_iff.1 hc).1 (fun e => by
    simp at e
    subst e
    rw [hcur] at hc
    cases hc)⟩
  exact ⟨h.at_.grew hb ho, h.fj, h.bd, by rw [hl]; exact h.ms, h.bh.keep hK, srcI_keep h.nx.1 h.nx.2 hK⟩

theorem come_step (h : FlIn w0 w p f ag az af cg cs cf j mo mb n nb G X W g cap pc i K0 k gk bv nv) (ht : (nxt i pc)[k]? = some t) (htl : t < f.code.length) (hj : j ≤ 3000 ∧ f.code.length ≤ 64 ∧ nb ≤ 2000000) (hs : f.slots ≤ 16) :
    Calls Try.prog 53 #[.pointer (some ⟨mo, 0, none⟩), .agg #[.int .i64 (j : Int), .int .i64 (t : Int)], bv] w fun e w' => ∃ b, e = .returned (.bool b) ∧ But mb w w' ∧ ((b = false ∧ FlIn w0 w' p f ag az af cg cs cf j mo mb n nb G X W g cap pc i K0 (k + 1) gk bv nv) ∨
      (b = true ∧ ∃ n' X', FlCm w0 w' p f ag az af cg cs cf j mo mb n' nb G X' W g cap pc i K0 (k + 1) gk t bv nv)) := by
  have hjI : I64 (j : Int) := i64_nat (by omega)
  have htI : I64 (t : Int) := i64_nat (by omega)
  have hbd := h.bd
  have hms := h.ms
  have hlen := h.fj.len
  obtain ⟨O, hmk, _⟩ := h.at_.mm.map
  cases hx : X t with
  | none =>
    refine (come_new h.at_.mm hjI htI (by rw [GX_at]; exact hx) h.bh (by omega)).mono ?_
    rintro e w' ⟨rfl, hm, hb⟩
    rw [GX_come_none hx] at hm
    have hp := pot_come (n := f.code.length) (m := f.slots.toNat) (t := t) (X := X) (K := behK p f i K0) htl (by omega) (fun l hl => by rw [hx] at hl; cases hl) (fun l hl => by rw [hx] at hl; cases hl)
    exact ⟨true, rfl, hb, Or.inr ⟨rfl, n + 1, _, h.at_.came hb hm, h.fj.come ht htl, by omega, by omega, h.bh.but hmk hb, srcI_keep h.nx.1 h.nx.2 (kpI_but hmk hb)⟩⟩
  | some l =>
    have hll := h.fj.lens l hx
    refine (come_had h.at_.mm hjI htI (by rw [GX_at]; exact hx) h.bh (by omega) (by omega) (by omega) hll).mono ?_
    rintro e w' ⟨b, rfl, hb, ⟨rfl, hjn, hm⟩ | ⟨rfl, hjn, hm⟩⟩
    · exact ⟨false, rfl, hb, Or.inl ⟨rfl, h.at_.came hb hm, h.fj.same ht hx hjn, h.bd, h.ms, h.bh.but hmk hb, srcI_keep h.nx.1 h.nx.2 (kpI_but hmk hb)⟩⟩
    · rw [GX_come_some hx] at hm
      have hp := pot_come (n := f.code.length) (m := f.slots.toNat) (t := t) (X := X) (K := behK p f i K0) htl (by omega) (fun l' hl => by rw [hx] at hl; cases hl; exact hll) (fun l' hl => by rw [hx] at hl; cases hl; exact hjn)
      exact ⟨true, rfl, hb, Or.inr ⟨rfl, n, _, h.at_.came hb hm, h.fj.come ht htl, by omega, by omega, h.bh.but hmk hb, srcI_keep h.nx.1 h.nx.2 (kpI_but hmk hb)⟩⟩
end
theorem nxt_in {p : Pg} {f : Fn} {i : Ins} {pc : Nat} (hi : OkI p f i) (hpc : pc < f.code.length) : ∀ t ∈ nxtI i (pc : Int), 0 ≤ t ∧ t ≤ (f.code.length : Int) := by
  have hpl := plac_and hi
  intro t ht
  unfold nxtI at ht
  by_cases h9 : i.o = 9
  · rw [if_pos h9] at ht
    simp at ht
    subst ht
    have h1 : inB i.b f.code.length = true := by have := hpl.2.1; rw [h9] at this; exact this
    have := inB_iff.1 h1
    omega
  · rw [if_neg h9] at ht
    by_cases h10 : i.o = 10
    · rw [if_pos h10] at ht
      have h1 : inB i.b f.code.length = true := by have := hpl.2.1; rw [h10] at this; exact this
      have := inB_iff.1 h1
      split at ht
      · simp at ht; omega
      · simp at ht; omega
    · rw [if_neg h10] at ht
      split at ht
      · simp at ht
      · simp at ht; omega

set_option maxRecDepth 100000 in
set_option maxHeartbeats 8000000 in
theorem follow_any (p : Pg) (ag az af : Option Addr) (cg cs cf : Nat) {j : Nat} {f : Fn} {mo mb n nb : Nat} {G : Gs} (hfj : Hid (p.funcs[j]? = some f)) (hok : Hid (OkP p ∧ OkF p f)) (hg : Hid (∀ s, G (j : Int) s = none)) (hj : Hid (j ≤ 3000 ∧ f.code.length ≤ 64 ∧ nb ≤ 2000000))
    (hn : Hid (n + potK f.code.length f.slots.toNat (fun _ => none) ≤ nb)) (w : World) (hp : PgV Any w (.slice ag p.glob.length cg) (.slice az p.shapes.length cs) (.slice af p.funcs.length cf) p) (h : MmAt w mo mb n G) :
    Calls Try.prog 35 #[.pointer (some ⟨mo, 0, none⟩), .agg #[.slice ag p.glob.length cg, .slice az p.shapes.length cs, .slice af p.funcs.length cf], .int .i64 (j : Int)] w fun e w' => e = .returned (.tuple #[]) ∧ ∃ X n', Great p f X ∧ MmAt w' mo mb n' (GX G j X) ∧ n' ≤ nb ∧ But mb w w' := by
  have hA : ∀ (w : World) o, Below w.heap.size w (w.alloc o) := fun w o => (Below.refl _ _).alloc (Nat.le_refl _) _
  obtain ⟨O, hmk, _⟩ := h.map
  have hmlt := h.lt
  have HPN : Hid (PgV (fun b => b ≠ mb ∧ b < w.heap.size) w (.slice ag p.glob.length cg) (.slice az p.shapes.length cs) (.slice af p.funcs.length cf) p) := (pgV_ne hmk hp).mono fun b hb hP => ⟨hP, hb⟩
  obtain ⟨wp, hwp⟩ : ∃ wp, w.alloc (.cells #[.slice ag p.glob.length cg, .slice az p.shapes.length cs, .slice af p.funcs.length cf] 26) = wp := ⟨_, rfl⟩
  have hws : wp.heap.size = w.heap.size + 1 := by rw [← hwp]; simp
  have HQ : Hid (OnQ w (wp.alloc (.cells #[.int .i64 (j : Int), .int .i64 0] 34)) (j : Int) 0 p ag az af cg cs cf) := onQ_start (by rw [hwp]) hp
  have HMB : Hid (MmAt (wp.alloc (.cells #[.int .i64 (j : Int), .int .i64 0] 34)) mo mb n G ∧ (mb < w.heap.size ∧ mo < w.heap.size) ∧ PgV (fun b => b ≠ mb ∧ b < w.heap.size) (wp.alloc (.cells #[.int .i64 (j : Int), .int .i64 0] 34)) (.slice ag p.glob.length cg) (.slice az p.shapes.length cs) (.slice af p.funcs.length cf) p) := ⟨h.below HQ.out.low, ⟨hmlt.2, hmlt.1⟩, HPN.out.stay (Stay.all HQ.out.low)⟩
  obtain ⟨b, off, v0, v1, v2, v3, v4, rfl, hb, hbP, k0, k1, k2, k3, k4, hfc⟩ := HMB.out.2.2.funcs.some hfj.out
  obtain ⟨a0, c0, a3, c3, a4, c4, rfl, rfl, rfl⟩ := hfc.lens
  obtain rfl := hfc.res
  obtain rfl := hfc.slots
  obtain ⟨d0, d1, d2, d3, d4⟩ := HQ.out.c
  have hjl := (List.getElem?_eq_some_iff.1 hfj.out).1
  have hjI : (j : Int) < (p.funcs.length : Int) := by omega
  have HFC : Hid (FnC Any (wp.alloc (.cells #[.int .i64 (j : Int), .int .i64 0] 34)) f (.slice a0 f.args.length c0) (.int .i64 f.res) (.int .i64 f.slots) (.slice a3 f.objs.length c3) (.slice a4 f.code.length c4)) := hfc.mono fun _ _ _ => trivial
  have HBP : Hid (b ≠ mb ∧ b < w.heap.size) := hbP
  have hbl : b < (wp.alloc (.cells #[.int .i64 (j : Int), .int .i64 0] 34)).heap.size := hb
  clear hfc hb hbP h hmk hmlt hp
  go_enter Try.func35, Try.ntmps35
  go_upto_region 2 with (fail)
  have hq1 : w.heap.size + 1 < (wp.alloc (.cells #[.int .i64 (j : Int), .int .i64 0] 34)).heap.size := HQ.out.rq.lt
  generalize wp.alloc (.cells #[.int .i64 (j : Int), .int .i64 0] 34) = wb at *
  have HG0 : Hid (G (j : Int) 0 = none ∧ I64 (j : Int) ∧ I64 0 ∧ n ≤ 3000000) := ⟨hg.out 0, i64_nat (by have := hj.out; omega), by unfold I64; omega, by have := hn.out; have := hj.out; omega⟩
  have HLB : Hid (limB f = true) := hok.out.2.lim
  go_region_held3 (fun w' => (w'.cell? ⟨w.heap.size + 1, 0, none⟩ = some (.int .i64 (j : Int)) ∧ w'.cell? ⟨w.heap.size + 1, 1, none⟩ = some (.int .i64 0)) ∧ w'.cell? ⟨w.heap.size, 2, none⟩ = some (.slice (some ⟨b, off, none⟩) p.funcs.length cf) ∧
      w'.cell? ⟨b, off + j * 5, none⟩ = some (.slice a0 f.args.length c0) ∧ w'.cell? ⟨b, off + j * 5 + 1, none⟩ = some (.int .i64 f.res) ∧ w'.cell? ⟨b, off + j * 5 + 2, none⟩ = some (.int .i64 f.slots) ∧ w'.cell? ⟨b, off + j * 5 + 3, none⟩ = some (.slice a3 f.objs.length c3) ∧ w'.cell? ⟨b, off + j * 5 + 4, none⟩ = some (.slice a4 f.code.length c4))
    (first | exact ⟨⟨d3, d4⟩, d2, k0, k1, k2, k3, k4⟩ | exact HS2.out | exact HS3.out)
    (first
      | (go_at_call 54; refine (entering_any f a0 a3 a4 c0 c3 c4 HLB.out (wb.drewN 1) (HFC.out.below (below_drewN (Below.refl _ _) 1))).mono ?_; rintro e w2 ⟨g, rfl, hls, hb2⟩; have hB2 : Below wb.heap.size wb w2 := ⟨hb2.os, hb2.tape, hb2.output, hb2.size, hb2.block⟩; have HQ2 : Hid (OnQ w w2 (j : Int) 0 p ag az (some ⟨b, off, none⟩) cg cs cf) := HQ.out.below hB2; have HM2 : Hid (MmAt w2 mo mb n G ∧ (mb < w.heap.size ∧ mo < w.heap.size) ∧ PgV (fun b => b ≠ mb ∧ b < w.heap.size) w2 (.slice ag p.glob.length cg) (.slice az p.shapes.length cs) (.slice (some ⟨b, off, none⟩) p.funcs.length cf) p) := ⟨HMB.out.1.below hB2, HMB.out.2.1, HMB.out.2.2.stay (Stay.all hB2)⟩; have HLS : Hid (LsV w2 (.slice (some ⟨g, 0, none⟩) (begK f).length (begK f).length) (begK f)) := hls; have HS2 : Hid ((w2.cell? ⟨w.heap.size + 1, 0, none⟩ = some (.int .i64 (j : Int)) ∧ w2.cell? ⟨w.heap.size + 1, 1, none⟩ = some (.int .i64 0)) ∧ w2.cell? ⟨w.heap.size, 2, none⟩ = some (.slice (some ⟨b, off, none⟩) p.funcs.length cf) ∧ w2.cell? ⟨b, off + j * 5, none⟩ = some (.slice a0 f.args.length c0) ∧ w2.cell? ⟨b, off + j * 5 + 1, none⟩ = some (.int .i64 f.res) ∧ w2.cell? ⟨b, off + j * 5 + 2, none⟩ = some (.int .i64 f.slots) ∧ w2.cell? ⟨b, off + j * 5 + 3, none⟩ = some (.slice a3 f.objs.length c3) ∧ w2.cell? ⟨b, off + j * 5 + 4, none⟩ = some (.slice a4 f.code.length c4)) := ⟨⟨(hB2.cell (p := ⟨w.heap.size + 1, 0, none⟩) hq1).trans d3, (hB2.cell (p := ⟨w.heap.size + 1, 1, none⟩) hq1).trans d4⟩, (hB2.cell (p := ⟨w.heap.size, 2, none⟩) (by show w.heap.size < _; omega)).trans d2, (hB2.cell (p := ⟨b, off + j * 5, none⟩) hbl).trans k0, (hB2.cell (p := ⟨b, off + j * 5 + 1, none⟩) hbl).trans k1, (hB2.cell (p := ⟨b, off + j * 5 + 2, none⟩) hbl).trans k2, (hB2.cell (p := ⟨b, off + j * 5 + 3, none⟩) hbl).trans k3, (hB2.cell (p := ⟨b, off + j * 5 + 4, none⟩) hbl).trans k4⟩; clear hb2 hls hB2)
      | (go_at_call 53; refine (come_new HM2.out.1 HG0.out.2.1 HG0.out.2.2.1 HG0.out.1 HLS.out HG0.out.2.2.2).mono ?_; rintro e w3 ⟨rfl, hm3, hbt3⟩; have HW3 : Hid (MmAt w3 mo mb (n + 1) (upG G (j : Int) 0 (begK f)) ∧ But mb w2 w3) := ⟨hm3, hbt3⟩; have HS3 : Hid ((w3.cell? ⟨w.heap.size + 1, 0, none⟩ = some (.int .i64 (j : Int)) ∧ w3.cell? ⟨w.heap.size + 1, 1, none⟩ = some (.int .i64 0)) ∧ w3.cell? ⟨w.heap.size, 2, none⟩ = some (.slice (some ⟨b, off, none⟩) p.funcs.length cf) ∧ w3.cell? ⟨b, off + j * 5, none⟩ = some (.slice a0 f.args.length c0) ∧ w3.cell? ⟨b, off + j * 5 + 1, none⟩ = some (.int .i64 f.res) ∧ w3.cell? ⟨b, off + j * 5 + 2, none⟩ = some (.int .i64 f.slots) ∧ w3.cell? ⟨b, off + j * 5 + 3, none⟩ = some (.slice a3 f.objs.length c3) ∧ w3.cell? ⟨b, off + j * 5 + 4, none⟩ = some (.slice a4 f.code.length c4)) := but_cells hbt3 HM2.out.2.1.1 HBP.out.1 HS2.out; clear hm3 hbt3))
  all_goals
    have HF4 : Hid (FlAt w (w3.alloc (.cells #[.int .i64 (j : Int), .int .i64 0] 34)) p ag az (some ⟨b, off, none⟩) cg cs cf j mo mb (n + 1) G (begX f) [0] w3.heap.size 1) := flAt_start HQ2.out HM2.out.2.1 HM2.out.2.2 HW3.out.1 HW3.out.2 hg.out
    have HP3 := HS3.out.1
    have hp30 : w3.cell? ⟨w.heap.size + 1, 0, none⟩ = some (.int .i64 (j : Int)) := HP3.1
    have hp31 : w3.cell? ⟨w.heap.size + 1, 1, none⟩ = some (.int .i64 0) := HP3.2
    clear HP3 HS3 HS2 HW3 HM2 HQ2 HLS HMB HQ HFC HPN hbl hq1 d0 d1 d2 d3 d4 k0 k1 k2 k3 k4
    have HO4 : Hid (FlOut w (w3.alloc (.cells #[.int .i64 (j : Int), .int .i64 0] 34)) p f ag az (some ⟨b, off, none⟩) cg cs cf j mo mb (n + 1) nb G (begX f) [0] w3.heap.size 1 (2 * potK f.code.length f.slots.toNat (begX f) + 1)) := by
      have hl := beg_len hok.out.2.lim
      have hpc := pot_come (n := f.code.length) (m := f.slots.toNat) (t := 0) (X := fun _ => none) (K := begK f) (by omega) (by omega) (fun l h => by cases h) (fun l h => by cases h)
      rw [cm_begin] at hpc
      have := hn.out
      exact ⟨HF4.out, fi_start p hok.out.2.lim, by omega, by simp⟩
    have HPB : Hid (2 * potK f.code.length f.slots.toNat (begX f) + 1 ≤ 90000) := by
      have hl := beg_len hok.out.2.lim
      have hpc := pot_le f.code.length f.slots.toNat (begX f) (fun q K hq => by have := begX_len hq; omega)
      have h5 : f.code.length * (f.slots.toNat + 1) ≤ 64 * 17 := Nat.mul_le_mul hj.out.2.1 (by omega)
      unfold Hid
      omega
    clear HF4
    go_wp2_with fail
    go_loopg [7] (2 * potK f.code.length f.slots.toNat (begX f) + 1) (fun gk wv wr => ∃ X W n' g cap, wv = .slice (some ⟨g, 0, none⟩) W.length cap ∧ Hid (FlOut w wr p f ag az (some ⟨b, off, none⟩) cg cs cf j mo mb n' nb G X W g cap gk ∧ gk ≤ 90000))
    case atStart => exact ⟨_, [0], _, _, _, rfl, HO4.out, HPB.out⟩
    case round =>
      obtain ⟨w6, hw6⟩ : ∃ w6, w6 = wr := ⟨_, rfl⟩
      subst hw6
      obtain ⟨X, W, n', g', cap, rfl, HR⟩ := hrel
      clear HO4 hp30 hp31
      rcases List.eq_nil_or_concat W with hW | ⟨W', pc, hW⟩
      · subst hW
        have HGr : Hid (Great p f X) := HR.out.1.2.1.great
        have HX : Hid (MmAt w6 mo mb n' (GX G j X) ∧ n' ≤ nb ∧ But mb w w6) := ⟨HR.out.1.1.mm, by have := HR.out.1.2.2.1; omega, HR.out.1.1.bt⟩
        go_wp2_with fail
        refine bodyPost_end (results_none rfl _ _ _) rfl ?_
        exact ⟨rfl, X, n', HGr.out, HX.out.1, HX.out.2.1, HX.out.2.2⟩
      · rw [List.concat_eq_append] at hW
        subst hW
        obtain ⟨hP0, hw0, hw1, hcap, hcm⟩ := HR.out.1.1.pop
        have HP : Hid (FlAt w w6 p ag az (some ⟨b, off, none⟩) cg cs cf j mo mb n' G X W' g' cap) := hP0
        have HFi : Hid (Fi p f X (W' ++ [pc]) ∧ n' + potK f.code.length f.slots.toNat X ≤ nb ∧ 2 * potK f.code.length f.slots.toNat X + W'.length < gk) := ⟨HR.out.1.2.1, HR.out.1.2.2.1, by have h9 := HR.out.1.2.2.2; rw [List.length_append, List.length_singleton] at h9; omega⟩
        have HGK : Hid (gk ≤ 90000) := HR.out.2
        have hWl : (W' ++ [pc]).length = W'.length + 1 := by simp
        rw [hWl]
        clear hWl hP0 HR
        obtain ⟨L, hL⟩ : ∃ L, W'.length = L := ⟨_, rfl⟩
        have HL : Hid (W'.length = L) := hL
        rw [hL] at hw0 hw1 hcap
        rw [hL]
        clear hL
        have hLm : L + 1 ≤ 9223372036854775807 := by unfold maxLen at hcm; omega
        have hsub : IntKind.i64.wrap (((L + 1 : Nat) : Int) - 1) = (L : Int) := by rw [IntKind.wrap_i64]; omega
        have hsub2 : IntKind.i64.wrap ((L : Int) + 1 - 1) = (L : Int) := by rw [IntKind.wrap_i64]; omega
        obtain ⟨K0, hK0⟩ : ∃ K0, X pc = some K0 := Option.isSome_iff_exists.1 (HFi.out.1.wk pc (by simp))
        have hsup := HFi.out.1.sup pc K0 hK0
        obtain ⟨i, hi⟩ : ∃ i, f.code[pc]? = some i := ⟨_, List.getElem?_eq_getElem hsup.1⟩
        obtain ⟨io, ia, ib, ic⟩ := i
        have HPC : Hid (f.code[pc]? = some ⟨io, ia, ib, ic⟩ ∧ X pc = some K0 ∧ (K0.length : Int) = f.slots ∧ K0.length ≤ 16 ∧ pc ≤ 64) := ⟨hi, hK0, hsup.2, by have := (beg_len hok.out.2.lim).2.1; omega, by have := hj.out.2.1; omega⟩
        clear hK0 hsup hi
        have hA8 : Below w6.heap.size w6 (w6.alloc (.cells #[.int .i64 (j : Int), .int .i64 (pc : Int)] 34)) := (Below.refl _ _).alloc (Nat.le_refl _) _
        have HP8 : Hid (FlAt w (w6.alloc (.cells #[.int .i64 (j : Int), .int .i64 (pc : Int)] 34)) p ag az (some ⟨b, off, none⟩) cg cs cf j mo mb n' G X W' g' cap) := HP.out.below hA8
        have HR8 : Hid ((w6.alloc (.cells #[.int .i64 (j : Int), .int .i64 (pc : Int)] 34)).rowIs w6.heap.size 34 2 (plC (j : Int) (pc : Int))) := pl_box w6 _ _
        go_upto_region 7 with (fail)
        generalize w6.alloc (.cells #[.int .i64 (j : Int), .int .i64 (pc : Int)] 34) = w8 at *
        generalize w6.heap.size = q8 at *
        clear hw0 hw1 HP hA8 hsub hsub2
        obtain ⟨d0, d1, d2⟩ := HP8.out.c
        have e0 : w8.cell? ⟨q8, 0, none⟩ = some (.int .i64 (j : Int)) := HR8.out.cell (i := 0) (by decide)
        have e1 : w8.cell? ⟨q8, 1, none⟩ = some (.int .i64 (pc : Int)) := HR8.out.cell (i := 1) (by decide)
        go_wp2_with fail
        refine (site_any p ag az (some ⟨b, off, none⟩) cg cs cf hfj.out HPC.out.1 _ HP8.out.pp HP8.out.mm (by have := hj.out; omega) (by have := HPC.out; omega) (by rw [GX_at]; exact HPC.out.2.1)).mono ?_
        rintro e w9 ⟨a0', a3', a4', c0', c3', c4', ak, ck, rfl, hfc9, hls9, hb9⟩
        have HP9 : Hid (FlAt w w9 p ag az (some ⟨b, off, none⟩) cg cs cf j mo mb n' G X W' g' cap) := HP8.out.below hb9
        have HR9 : Hid (w9.rowIs q8 34 2 (plC (j : Int) (pc : Int))) := HR8.out.of_block (hb9.block _ HR8.out.lt)
        have HS9 : Hid (FnC Any w9 f (.slice a0' f.args.length c0') (.int .i64 f.res) (.int .i64 f.slots) (.slice a3' f.objs.length c3') (.slice a4' f.code.length c4') ∧ SrcP Any w9 (.slice ak K0.length ck) K0 ∧ K0.length ≤ ck) := ⟨hfc9, hls9.1.p, by obtain ⟨a, c, h1, h2, _⟩ := hls9.2; cases h1; exact h2⟩
        clear hfc9 hls9 hb9 HP8 HR8 e0 e1 d0 d1 d2
        have HI0 : Hid (OkI p f ⟨io, ia, ib, ic⟩) := okI_of (hok.out.1.ins f (List.mem_of_getElem? hfj.out) _ (List.mem_of_getElem? HPC.out.1))
        have HOF : Hid (OkF p f) := hok.out.2
        have HKK : Hid ((K0.length : Int) = f.slots ∧ K0.length ≤ ck ∧ K0.length ≤ 3000) := ⟨HPC.out.2.2.1, HS9.out.2.2, by have := HPC.out.2.2.2.1; omega⟩
        go_wp2_with fail
        refine (behind_any p f io ia ib ic ag az (some ⟨b, off, none⟩) cg cs cf a0' a3' a4' c0' c3' c4' K0 ak ck HI0 HOF HKK _ HP9.out.pp HS9.out.1 HS9.out.2.1).mono ?_
        rintro e w10 ⟨ba, bc, rfl, hbs, hbc, hb10, hbi⟩
        have HP10 : Hid (FlAt w w10 p ag az (some ⟨b, off, none⟩) cg cs cf j mo mb n' G X W' g' cap) := HP9.out.below hb10
        have HR10 : Hid (w10.rowIs q8 34 2 (plC (j : Int) (pc : Int))) := HR9.out.of_block (hb10.block _ HR9.out.lt)
        have hbl10 : (behK p f ⟨io, ia, ib, ic⟩ K0).length = K0.length := behK_len _ _ _ _
        have HBV : Hid (LsV w10 (.slice ba K0.length bc) (behK p f ⟨io, ia, ib, ic⟩ K0)) := ⟨hbs, ba, bc, by rw [hbl10], by rw [hbl10]; exact hbc, hbi⟩
        clear hbs hbc hb10 hbi HP9 HR9 HS9 hbl10
        obtain ⟨d0, d1, d2⟩ := HP10.out.c
        have e0 : w10.cell? ⟨q8, 0, none⟩ = some (.int .i64 (j : Int)) := HR10.out.cell (i := 0) (by decide)
        have e1 : w10.cell? ⟨q8, 1, none⟩ = some (.int .i64 (pc : Int)) := HR10.out.cell (i := 1) (by decide)
        have HFN : Hid (fnAt p (j : Int) = some f ∧ inAt f (pc : Int) = some ⟨io, ia, ib, ic⟩) := ⟨fnAt_nat hfj.out, inAt_nat HPC.out.1⟩
        go_wp2_with fail
        refine (next_any p ag az (some ⟨b, off, none⟩) cg cs cf HFN.out.1 HFN.out.2 (by have := HPC.out.2.2.2.2; omega) _ HP10.out.pp).mono ?_
        rintro e w11 ⟨nv, rfl, hns, hb11, hnr⟩
        obtain ⟨na, nc, rfl⟩ := hns.len
        have HP11 : Hid (FlAt w w11 p ag az (some ⟨b, off, none⟩) cg cs cf j mo mb n' G X W' g' cap) := HP10.out.below hb11
        have HBV11 : Hid (LsV w11 (.slice ba K0.length bc) (behK p f ⟨io, ia, ib, ic⟩ K0)) := HBV.out.below hb11
        have HNV : Hid (SrcAt w11 (.slice na (nxtI ⟨io, ia, ib, ic⟩ (pc : Int)).length nc) (nxtI ⟨io, ia, ib, ic⟩ (pc : Int)) ∧ IntRowV w11 (.slice na (nxtI ⟨io, ia, ib, ic⟩ (pc : Int)).length nc)) := ⟨hns, hnr⟩
        clear hns hb11 hnr HP10 HR10 HBV d0 d1 d2 e0 e1
        obtain ⟨N, hN⟩ : ∃ N, nxtI ⟨io, ia, ib, ic⟩ (pc : Int) = N := ⟨_, rfl⟩
        have HN : Hid (nxtI ⟨io, ia, ib, ic⟩ (pc : Int) = N) := hN
        rw [hN] at HNV
        rw [hN]
        clear hN
        have HN2 : Hid (N.length ≤ 2) := by rw [← HN.out]; unfold Hid nxtI; split; · simp
                                            · split
                                              · split <;> simp
                                              · split <;> simp
        have HIN : Hid (FlIn w w11 p f ag az (some ⟨b, off, none⟩) cg cs cf j mo mb n' nb G X W' g' cap pc ⟨io, ia, ib, ic⟩ K0 0 gk (.slice ba K0.length bc) (.slice na N.length nc)) := ⟨HP11.out, HFi.out.1.pop hok.out.1 (List.mem_of_getElem? hfj.out) HPC.out.1 HPC.out.2.1, HFi.out.2.1, HFi.out.2.2, HBV11.out, by rw [HN.out]; exact HNV.out⟩
        clear HP11 HBV11 HNV HFi hcap hcm hLm
        go_wp2_with fail
        go_loopw [7, 49] (fun wv iv wr => ∃ X W n' g' cap k, wv = .slice (some ⟨g', 0, none⟩) W.length cap ∧ iv = .int .i64 (k : Nat) ∧ k ≤ N.length ∧ Hid (FlIn w wr p f ag az (some ⟨b, off, none⟩) cg cs cf j mo mb n' nb G X W g' cap pc ⟨io, ia, ib, ic⟩ K0 k gk (.slice ba K0.length bc) (.slice na N.length nc))) (fun _ iv _ => N.length - (intOf iv).toNat)
        case atStart => exact ⟨X, W', n', g', cap, 0, by rw [HL.out], rfl, Nat.zero_le _, HIN⟩
        case round =>
          obtain ⟨X, W, n', g', cap, k, rfl, rfl, hk, HI⟩ := hrel
          clear HIN HL
          have HOI : Hid (∀ t ∈ nxtI ⟨io, ia, ib, ic⟩ (pc : Int), 0 ≤ t ∧ t ≤ (f.code.length : Int)) := nxt_in HI0.out (List.getElem?_eq_some_iff.1 HPC.out.1).1
          have HSL : Hid (f.slots ≤ 16) := (beg_len hok.out.2.lim).2.1
          by_cases hlt : k < N.length
          · obtain ⟨t, htI, hth⟩ : ∃ t : Nat, N.getD k 0 = (t : Int) ∧ (nxt ⟨io, ia, ib, ic⟩ pc)[k]? = some t := by
              have h1 : N[k]? = some N[k] := List.getElem?_eq_getElem hlt
              have h2 := HOI.out N[k] (by rw [HN.out]; exact List.getElem_mem hlt)
              refine ⟨N[k].toNat, ?_, ?_⟩
              · rw [List.getD_eq_getElem?_getD, h1]
                show N[k] = _
                omega
              · unfold nxt
                rw [HN.out, List.getElem?_map, h1]
                rfl
            have HT : Hid ((nxt ⟨io, ia, ib, ic⟩ pc)[k]? = some t) := hth
            have hnx := HI.out.nx.1
            rw [HN.out] at hnx
            obtain ⟨nb', no, rfl, hnb, _, hnc⟩ := hnx.p.some hlt
            rw [htI] at hnc
            have hkI : (k : Int) < (N.length : Int) := by omega
            have hk3 : k + 1 ≤ 9223372036854775807 := by have := HN2.out; omega
            clear hth hnx htI hnb
            have hA12 : Below wr.heap.size wr (wr.alloc (.cells #[.int .i64 (j : Int), .int .i64 (t : Int)] 34)) := (Below.refl _ _).alloc (Nat.le_refl _) _
            have HI12 : Hid (FlIn w (wr.alloc (.cells #[.int .i64 (j : Int), .int .i64 (t : Int)] 34)) p f ag az (some ⟨b, off, none⟩) cg cs cf j mo mb n' nb G X W g' cap pc ⟨io, ia, ib, ic⟩ K0 k gk (.slice ba K0.length bc) (.slice (some ⟨nb', no, none⟩) N.length nc)) := HI.out.below hA12
            have HR12 : Hid ((wr.alloc (.cells #[.int .i64 (j : Int), .int .i64 (t : Int)] 34)).rowIs wr.heap.size 34 2 (plC (j : Int) (t : Int)) ∧ mb < wr.heap.size) := ⟨pl_box wr _ _, by have h5 := HI.out.at_.mlt.1; have h6 := HI.out.at_.bt.size; omega⟩
            go_upto_region 12 with (fail)
            generalize wr.alloc (.cells #[.int .i64 (j : Int), .int .i64 (t : Int)] 34) = w12 at *
            generalize wr.heap.size = q12 at *
            clear hnc hA12 HI
            obtain ⟨d0, d1, d2⟩ := HI12.out.at_.c
            obtain ⟨b'', off'', y0, y1, y2, y3, y4, hbe, _, _, _, _, _, _, z4, hzc⟩ := HI12.out.at_.pp.funcs.some hfj.out
            cases hbe
            obtain ⟨_, _, _, _, x4, xc4, _, _, rfl⟩ := hzc.lens
            have e0 : w12.cell? ⟨q12, 0, none⟩ = some (.int .i64 (j : Int)) := HR12.out.1.cell (i := 0) (by decide)
            have e1 : w12.cell? ⟨q12, 1, none⟩ = some (.int .i64 (t : Int)) := HR12.out.1.cell (i := 1) (by decide)
            clear hzc
            by_cases htl : t < f.code.length
            · have htlI : (t : Int) < (f.code.length : Int) := by omega
              go_wp2_with fail
              refine (come_step HI12.out HT.out htl hj.out HSL.out).mono ?_
              rintro e w13 ⟨rb, rfl, hbt, hcase⟩
              rcases hcase with ⟨rfl, hI2⟩ | ⟨rfl, n2, X2, hC⟩
              · have HI2 : Hid (FlIn w w13 p f ag az (some ⟨b, off, none⟩) cg cs cf j mo mb n' nb G X W g' cap pc ⟨io, ia, ib, ic⟩ K0 (k + 1) gk (.slice ba K0.length bc) (.slice (some ⟨nb', no, none⟩) N.length nc)) := hI2
                clear hI2 hbt HI12 HR12 d0 d1 d2 z4 e0 e1
                go_wp2_with fail
                go_roundw
                case rel => exact ⟨X, W, n', g', cap, k + 1, rfl, by go_num, by omega, HI2⟩
                case measure => simp [intOf]; omega
              · have f0 : w13.cell? ⟨q12, 0, none⟩ = some (.int .i64 (j : Int)) := (World.cell?_of_block (hbt.block q12 HR12.out.1.lt (by have := HR12.out.2; omega))).trans e0
                have f1 : w13.cell? ⟨q12, 1, none⟩ = some (.int .i64 (t : Int)) := (World.cell?_of_block (hbt.block q12 HR12.out.1.lt (by have := HR12.out.2; omega))).trans e1
                have HC : Hid (FlCm w w13 p f ag az (some ⟨b, off, none⟩) cg cs cf j mo mb n2 nb G X2 W g' cap pc ⟨io, ia, ib, ic⟩ K0 (k + 1) gk t (.slice ba K0.length bc) (.slice (some ⟨nb', no, none⟩) N.length nc)) := hC
                have HC14 : Hid (FlCm w (w13.alloc (.cells #[.int .i64 (j : Int), .int .i64 (t : Int)] 34)) p f ag az (some ⟨b, off, none⟩) cg cs cf j mo mb n2 nb G X2 W g' cap pc ⟨io, ia, ib, ic⟩ K0 (k + 1) gk t (.slice ba K0.length bc) (.slice (some ⟨nb', no, none⟩) N.length nc)) := HC.out.below ((Below.refl _ _).alloc (Nat.le_refl _) _)
                have HN14 : Hid (∀ y u, [Value.int .i64 (j : Int), Value.int .i64 (t : Int)][y]? = some u → (w13.alloc (.cells #[.int .i64 (j : Int), .int .i64 (t : Int)] 34)).cell? ((⟨w13.heap.size, 0, none⟩ : Addr).add y) = some u) := fun y u hy => by
                  rw [Go.WideShapes.add_plain]
                  match y, hy with
                  | 0, hy => simp at hy; subst hy; exact cell_new w13 _ _ rfl
                  | 1, hy => simp at hy; subst hy; exact cell_new w13 _ _ rfl
                have HO14 : Hid (∀ u ∈ [Value.int .i64 (j : Int), Value.int .i64 (t : Int)], u.oneCell' = true) := fun u hu => by
                  simp at hu
                  rcases hu with rfl | rfl <;> rfl
                have HWL : Hid (W.length + 1 ≤ 100000 ∧ w.heap.size + 1 ≤ (w13.alloc (.cells #[.int .i64 (j : Int), .int .i64 (t : Int)] 34)).heap.size) := ⟨by
                  have h5 := HC.out.ms
                  have h6 := HGK.out
                  omega, by have h7 := HC14.out.at_.bt.size; have h8 := HC14.out.at_.rp.lt; omega⟩
                obtain ⟨i0, hi0, hz0, hz1, hz2⟩ := info_parts Try.infoPlace
                clear hC hbt HI12 HR12 d0 d1 d2 z4 e0 e1 HC
                go_wp2_with (at_builtin; refine wpList_append_lies _ rfl _ _ 94 rfl (w.heap.size + 1) 34 i0 (.agg #[.int .i64 0, .int .i64 0]) 2 16 Try.underlying94 hi0 hz0 hz1 hz2 rfl (by decide) _ _ _ rfl HC14.out.at_.own ⟨w13.heap.size, 0, none⟩ 1 1 [.int .i64 (j : Int), .int .i64 (t : Int)] rfl rfl HN14.out HO14.out (by decide) (by have := HWL.out.1; unfold maxLen; omega) (by have := HWL.out.1; omega) HWL.out.2 (w13.heap.size + 1) (by simp) ?_)
                intro g5 cap5 w5 ho5 hg5 hat5 hlt5
                have HI5 : Hid (FlIn w w5 p f ag az (some ⟨b, off, none⟩) cg cs cf j mo mb n2 nb G X2 (W ++ [t]) g5 cap5 pc ⟨io, ia, ib, ic⟩ K0 (k + 1) gk (.slice ba K0.length bc) (.slice (some ⟨nb', no, none⟩) N.length nc)) := HC14.out.grew hg5 ho5
                clear ho5 hg5 hat5 hlt5 HC14 HN14 HO14 HWL f0 f1 hi0 hz0 hz1 hz2
                go_wp2_with fail
                go_roundw
                case rel => exact ⟨X2, W ++ [t], n2, g5, cap5, k + 1, by simp, by go_num, by omega, HI5⟩
                case measure => simp [intOf]; omega
            · have htlI : (f.code.length : Int) ≤ (t : Int) := by omega
              have HI2 : Hid (FlIn w w12 p f ag az (some ⟨b, off, none⟩) cg cs cf j mo mb n' nb G X W g' cap pc ⟨io, ia, ib, ic⟩ K0 (k + 1) gk (.slice ba K0.length bc) (.slice (some ⟨nb', no, none⟩) N.length nc)) := HI12.out.skip HT.out htl
              clear HI12 HR12
              go_wp2_with fail
              go_roundw
              case rel => exact ⟨X, W, n', g', cap, k + 1, rfl, by go_num, by omega, HI2⟩
              case measure => simp [intOf]; omega
          · obtain rfl : k = N.length := by omega
            have HE : Hid (FlOut w wr p f ag az (some ⟨b, off, none⟩) cg cs cf j mo mb n' nb G X W g' cap (2 * potK f.code.length f.slots.toNat X + W.length) ∧ 2 * potK f.code.length f.slots.toNat X + W.length < gk) := ⟨⟨HI.out.at_, HI.out.fj.done HPC.out.1 (by unfold nxt; rw [HN.out, List.length_map]; exact Nat.le_refl _), HI.out.bd, Nat.le_refl _⟩, HI.out.ms⟩
            clear HI
            go_wp2_with fail
            go_roundg (2 * potK f.code.length f.slots.toNat X + W.length)
            case rel => exact ⟨X, W, n', g', cap, rfl, HE.out.1, by have := HE.out.2; have := HGK.out; omega⟩
            case measure => exact HE.out.2

end Go.Proofs.Ytmjappcjfjajmaa

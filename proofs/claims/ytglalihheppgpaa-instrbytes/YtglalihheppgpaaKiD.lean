/- A Book in memory, and the walk of its Ints. -/
import Derived.Test.YtglalihheppgpaaKiC
import Derived.Deep.RegionLaw
namespace Go.Proofs.Ytglalihheppgpaa
open Go.RowKit

def bkCells (vi vw : Value) (i : Nat) : Value := if i = 2 then vi else if i = 3 then vw else .slice none 0 0

/-- Two values that own no row in common. -/
def Apt (a b : Value) : Prop := a.ownBlock = none ∨ a.ownBlock ≠ b.ownBlock
abbrev OwnInts (w : World) (B : Nat) (p : Value × List Ins) : Prop := w.ownsRow B 23 4 p.1 p.2.length (p.2.flatMap Ins.cs)

/-- THE BOOK AT BLOCK bk: its lists of ints I, and the copies W; nothing else is kept. -/
structure BookAt (w : World) (B bk : Nat) (vi vw : Value) (I W : List (Value × List Ins)) : Prop where
  hd : w.rowIs bk 36 10 (bkCells vi vw)
  hB : B ≤ bk
  oi : w.ownsRow B 43 1 vi I.length (I.map Prod.fst)
  ow : w.ownsRow B 43 1 vw W.length (W.map Prod.fst)
  ne : Apt vi vw
  ri : ∀ p ∈ I, OwnInts w B p
  rc : ∀ p ∈ W, OwnInts w B p
  di : I.Pairwise fun p q => Apt p.1 q.1
  dw : ∀ p ∈ I, ∀ q ∈ W, Apt p.1 q.1

theorem Try.info43 : (Try.prog.info? 43).map (fun i => (i.zero, i.size, i.bytes)) = some (some (.slice none 0 0), 1, 24) := by kernel_rfl

theorem ty_below {K : List TypeId} {B B' : Nat} {a b : World} (h : Below B a b) (hs : B = a.heap.size) : Ty K B' a b := by subst hs; exact Ty.of_below h

theorem BookAt.ty {w w' : World} {K : List TypeId} {B B' bk : Nat} {vi vw : Value} {I W : List (Value × List Ins)} (h : BookAt w B bk vi vw I W) (ht : Ty K B' w w') (h1 : 36 ∉ K) (h2 : 43 ∉ K) (h3 : 23 ∉ K) : BookAt w' B bk vi vw I W :=
  ⟨ht.row h.hd h1, h.hB, ht.own h.oi h2, ht.own h.ow h2, h.ne, fun p hp => ht.own (h.ri p hp) h3, fun p hp => ht.own (h.rc p hp) h3, h.di, h.dw⟩

theorem own_kept {w w' : World} {base : Nat} {e : TypeId} {size n : Nat} {v u : Value} {xs : List Value} (h : w.ownsRow base e size v n xs) (hg : w.grownBy w' u.ownBlock) (ha : Apt v u) : w'.ownsRow base e size v n xs := h.kept hg ha
theorem grown_row {w w' : World} {b : Nat} {t e : TypeId} {n m base size : Nat} {f : Nat → Value} {u : Value} {xs : List Value} (r : w.rowIs b t n f) (hu : w.ownsRow base e size u m xs) (hg : w.grownBy w' u.ownBlock) (ht : t ≠ e) : w'.rowIs b t n f :=
  (Ty.of_grown hu hg (Nat.le_refl _)).row r (by simpa using ht)
theorem grown_own {w w' : World} {base base' : Nat} {t e : TypeId} {size size' n m : Nat} {v u : Value} {xs ys : List Value} (h : w.ownsRow base t size v n xs) (hu : w.ownsRow base' e size' u m ys) (hg : w.grownBy w' u.ownBlock) (ht : t ≠ e) : w'.ownsRow base t size v n xs :=
  (Ty.of_grown hu hg (Nat.le_refl _)).own h (by simpa using ht)
theorem apt_new {w : World} {base g n cap : Nat} {e : TypeId} {size m : Nat} {v : Value} {xs : List Value} (h : w.ownsRow base e size v m xs) (hg : w.heap.size ≤ g) : Apt v (.slice (some ⟨g, 0, none⟩) n cap) ∧ Apt (.slice (some ⟨g, 0, none⟩) n cap) v := by
  cases hv : v.ownBlock with
  | none => exact ⟨Or.inl hv, Or.inr (by rw [hv]; simp [Value.ownBlock])⟩
  | some k =>
    have := (h.lt k hv).2
    refine ⟨Or.inr ?_, Or.inr ?_⟩
    · rw [hv]; simp [Value.ownBlock]; omega
    · rw [hv]; simp [Value.ownBlock]; omega

theorem apt_fresh {w w' : World} {B H m : Nat} {e e' : TypeId} {size size' n : Nat} {v u : Value} {xs ys : List Value} (h : w.ownsRow B e size v n xs) (hu : w'.ownsRow H e' size' u m ys) (hH : w.heap.size ≤ H) : Apt v u := by
  cases hv : v.ownBlock with
  | none => exact Or.inl hv
  | some k =>
    refine Or.inr ?_
    rw [hv]
    intro e1
    have h1 := (h.lt k hv).2
    have h2 := (hu.lt k e1.symm).1
    omega

theorem book_i {w wb : World} {B bk g cap H : Nat} {vi vw v : Value} {L : List Ins} {I W : List (Value × List Ins)} (h : BookAt w B bk vi vw I W) (hv : OwnInts w B (v, L)) (hI : ∀ p ∈ I, Apt p.1 v) (hW : ∀ p ∈ W, Apt v p.1)
    (ho : wb.ownsRow B 43 1 (.slice (some ⟨g, 0, none⟩) (I.length + 1) cap) (I.length + 1) (I.map Prod.fst ++ [v])) (hg : w.grownBy wb vi.ownBlock) (hat : vi.ownBlock = some g ∨ g = H) (hH : w.heap.size = H) :
    BookAt (wb.setCell ⟨bk, 2, none⟩ (.slice (some ⟨g, 0, none⟩) (I.length + 1) cap)) B bk (.slice (some ⟨g, 0, none⟩) (I.length + 1) cap) vw (I ++ [(v, L)]) W ∧
      Ty [36, 43] B w (wb.setCell ⟨bk, 2, none⟩ (.slice (some ⟨g, 0, none⟩) (I.length + 1) cap)) := by
  have t1 : Ty [43] B w wb := Ty.of_grown h.oi hg (Nat.le_refl _)
  have hd1 : wb.rowIs bk 36 10 (bkCells vi vw) := t1.row h.hd (by decide)
  have b2 : But bk wb (wb.setCell ⟨bk, 2, none⟩ (.slice (some ⟨g, 0, none⟩) (I.length + 1) cap)) := (But.refl _ _).setCell 2 _
  have t2 : Ty [36] B wb (wb.setCell ⟨bk, 2, none⟩ (.slice (some ⟨g, 0, none⟩) (I.length + 1) cap)) := Ty.of_but b2 hd1 h.hB
  refine ⟨⟨?_, h.hB, ?_, ?_, ?_, ?_, ?_, ?_, ?_⟩, (t1.mono (by simp) (Nat.le_refl _)).trans (t2.mono (by simp) (Nat.le_refl _))⟩
  · refine (hd1.set 2 _).congr fun i _ => ?_
    by_cases e : i = 2
    · subst e; rfl
    · simp [bkCells, e]
  · have := t2.own ho (by decide)
    simpa using this
  · exact t2.own (own_kept h.ow hg (by
      rcases h.ne with e | e
      · cases hw : vw.ownBlock with
        | none => exact Or.inl hw
        | some k => exact Or.inr (by rw [hw, e]; simp)
      · exact Or.inr (Ne.symm e))) (by decide)
  · rcases hat with e | e
    · rcases h.ne with e2 | e2
      · rw [e] at e2; cases e2
      · exact Or.inr (by show some g ≠ _; rw [← e]; exact e2)
    · exact (apt_new h.ow (by omega)).2
  · intro p hp
    rcases List.mem_append.1 hp with hp | hp
    · exact t2.own (t1.own (h.ri p hp) (by decide)) (by decide)
    · simp at hp; subst hp
      exact t2.own (t1.own hv (by decide)) (by decide)
  · exact fun p hp => t2.own (t1.own (h.rc p hp) (by decide)) (by decide)
  · refine List.pairwise_append.2 ⟨h.di, List.pairwise_singleton _ _, fun p hp q hq => ?_⟩
    simp at hq; subst hq
    exact hI p hp
  · intro p hp q hq
    rcases List.mem_append.1 hp with hp | hp
    · exact h.dw p hp q hq
    · simp at hp; subst hp
      exact hW q hq

theorem book_w {w wb : World} {B bk g cap H : Nat} {vi vw v : Value} {L : List Ins} {I W : List (Value × List Ins)} (h : BookAt w B bk vi vw I W) (hv : OwnInts w B (v, L)) (hI : ∀ p ∈ I, Apt p.1 v)
    (ho : wb.ownsRow B 43 1 (.slice (some ⟨g, 0, none⟩) (W.length + 1) cap) (W.length + 1) (W.map Prod.fst ++ [v])) (hg : w.grownBy wb vw.ownBlock) (hat : vw.ownBlock = some g ∨ g = H) (hH : w.heap.size = H) :
    BookAt (wb.setCell ⟨bk, 3, none⟩ (.slice (some ⟨g, 0, none⟩) (W.length + 1) cap)) B bk vi (.slice (some ⟨g, 0, none⟩) (W.length + 1) cap) I (W ++ [(v, L)]) ∧
      Ty [36, 43] B w (wb.setCell ⟨bk, 3, none⟩ (.slice (some ⟨g, 0, none⟩) (W.length + 1) cap)) := by
  have t1 : Ty [43] B w wb := Ty.of_grown h.ow hg (Nat.le_refl _)
  have hd1 : wb.rowIs bk 36 10 (bkCells vi vw) := t1.row h.hd (by decide)
  have b2 : But bk wb (wb.setCell ⟨bk, 3, none⟩ (.slice (some ⟨g, 0, none⟩) (W.length + 1) cap)) := (But.refl _ _).setCell 3 _
  have t2 : Ty [36] B wb (wb.setCell ⟨bk, 3, none⟩ (.slice (some ⟨g, 0, none⟩) (W.length + 1) cap)) := Ty.of_but b2 hd1 h.hB
  refine ⟨⟨?_, h.hB, ?_, ?_, ?_, ?_, ?_, h.di, ?_⟩, (t1.mono (by simp) (Nat.le_refl _)).trans (t2.mono (by simp) (Nat.le_refl _))⟩
  · refine (hd1.set 3 _).congr fun i _ => ?_
    by_cases e : i = 3
    · subst e; rfl
    · simp [bkCells, e]
  · exact t2.own (own_kept h.oi hg h.ne) (by decide)
  · have := t2.own ho (by decide)
    simpa using this
  · rcases hat with e | e
    · rcases h.ne with e2 | e2
      · exact Or.inl e2
      · exact Or.inr (by show _ ≠ some g; rw [← e]; exact e2)
    · exact (apt_new h.oi (by omega)).1
  · exact fun p hp => t2.own (t1.own (h.ri p hp) (by decide)) (by decide)
  · intro p hp
    rcases List.mem_append.1 hp with hp | hp
    · exact t2.own (t1.own (h.rc p hp) (by decide)) (by decide)
    · simp at hp; subst hp
      exact t2.own (t1.own hv (by decide)) (by decide)
  · intro p hp q hq
    rcases List.mem_append.1 hq with hq | hq
    · exact h.dw p hp q hq
    · simp at hq; subst hq
      exact hI p hp

theorem BookAt.below {w w' : World} {B bk : Nat} {vi vw : Value} {I W : List (Value × List Ins)} (h : BookAt w B bk vi vw I W) (hb : Below w.heap.size w w') : BookAt w' B bk vi vw I W :=
  h.ty (K := []) (B' := 0) (Ty.of_below hb) (by simp) (by simp) (by simp)
theorem BookAt.drewN {w : World} {B bk : Nat} {vi vw : Value} {I W : List (Value × List Ins)} (h : BookAt w B bk vi vw I W) (q : Nat) : BookAt (w.drewN q) B bk vi vw I W := ⟨h.hd, h.hB, h.oi, h.ow, h.ne, h.ri, h.rc, h.di, h.dw⟩
theorem OwnInts.below {w w' : World} {B : Nat} {p : Value × List Ins} (h : OwnInts w B p) (hb : Below w.heap.size w w') : OwnInts w' B p := (Ty.of_below (K := []) (B := 0) hb).own h (by simp)
theorem BookAt.c0 {w : World} {B bk : Nat} {vi vw : Value} {I W : List (Value × List Ins)} (h : BookAt w B bk vi vw I W) : w.cell? ⟨bk, 2, none⟩ = some vi := h.hd.cell (i := 2) (by decide)
theorem BookAt.c1 {w : World} {B bk : Nat} {vi vw : Value} {I W : List (Value × List Ins)} (h : BookAt w B bk vi vw I W) : w.cell? ⟨bk, 3, none⟩ = some vw := h.hd.cell (i := 3) (by decide)
theorem BookAt.cx {w : World} {B bk : Nat} {vi vw : Value} {I W : List (Value × List Ins)} (h : BookAt w B bk vi vw I W) (i : Nat) (h1 : i ≠ 2) (h2 : i ≠ 3) (h3 : i < 10) : w.cell? ⟨bk, i, none⟩ = some (.slice none 0 0) := by
  rw [h.hd.cell (i := i) h3]
  simp [bkCells, h1, h2]
theorem BookAt.lt {w : World} {B bk : Nat} {vi vw : Value} {I W : List (Value × List Ins)} (h : BookAt w B bk vi vw I W) : bk < w.heap.size := h.hd.lt
theorem own_one (v : Value) (L : List Ins) (w : World) (B : Nat) (h : OwnInts w B (v, L)) : v.oneCell' = true := by
  rcases h.2 with ⟨e, _⟩ | ⟨g, cap, cur, e, _⟩
  · show v.oneCell' = true
    rw [show v = _ from e]; rfl
  · show v.oneCell' = true
    rw [show v = _ from e]; rfl

theorem step_call1 {P : Program} {ops : Array Oper} {o : Oper} {a : Act} {w : World} {K : Act → World → Prop} {Q : Exit → Act → World → Prop} {E : Prop} (hg : o.guard = none) (x : Operand) (f : FuncId) (ts : Array TypeId)
    (hop : o.op = Op.call { callee := Callee.value (Operand.func f), args := #[x], argTypes := ts }) (u : Value) (hx : a.eval x = u) (R : Value → World → Prop) (hc : Calls P f #[u] w fun e w' => ∃ v, e = .returned v ∧ R v w')
    (hrun : (callFunc f #[u]).run P w = .ok (.enter f #[u]) w) (hK : ∀ v w', R v w' → K (a.put o.dst v) w') : if Region.wanted o (yielded ops a.tmps) = true then Oper.wp P o a w K Q else E := by
  have hw : Region.wanted o (yielded ops a.tmps) = true := by simp [Region.wanted, hg]
  rw [if_pos hw]
  unfold Oper.wp
  have e : (execOp a.eval o).run P w = .ok (.enter f #[u]) w := by
    rw [← hrun]
    simp only [execOp, hop, resolve]
    rw [show Array.map a.eval #[x] = #[u] from by simp [hx]]
    simp [go_sem]
  rw [e]
  refine hc.mono ?_
  rintro e w' ⟨v, rfl, hR⟩
  exact hK v w' hR
theorem run_copy (u : Value) (w : World) : (callFunc 53 #[u]).run Try.prog w = .ok (.enter 53 #[u]) w := by
  simp [go_sem]
theorem new_one (w : World) (v : Value) (t : TypeId) : ∀ j u, [v][j]? = some u → (w.alloc (.cells #[v] t)).cell? ((⟨w.heap.size, 0, none⟩ : Addr).add j) = some u := by
  intro j u hj
  match j, hj with
  | 0, hj => simp at hj; subst hj; simp [Addr.add]
theorem one_of {v : Value} (h : v.oneCell' = true) : ∀ u ∈ [v], u.oneCell' = true := by
  intro u hu; simp at hu; subst hu; exact h

set_option maxRecDepth 100000 in
set_option maxHeartbeats 1000000 in
theorem ints_core2 (L : List Ins) (av : Option Addr) (cv : Nat) (ai : Option Addr) (ci : Nat) (aw : Option Addr) (cw : Nat) (w : World) {B bk : Nat} {I W : List (Value × List Ins)} (h : BookAt w B bk (.slice ai I.length ci) (.slice aw W.length cw) I W) (hBw : B ≤ w.heap.size) (hlen : L.length ≤ 1000) (hIl : I.length < 250) (hWl : W.length < 250)
    (hv : OwnInts w B (.slice av L.length cv, L)) (hI : ∀ p ∈ I, Apt p.1 (.slice av L.length cv)) (hW : ∀ p ∈ W, Apt (.slice av L.length cv) p.1) :
    Calls Try.prog 25 #[.pointer (some ⟨bk, 0, none⟩), .slice av L.length cv] w fun e w' => e = .returned (.tuple #[]) ∧
      ∃ vi' vw' v2, BookAt w' B bk vi' vw' (I ++ [(.slice av L.length cv, L)]) (W ++ [(v2, L)]) ∧ Ty [36, 43] B w w' ∧ ∀ k, v2.ownBlock = some k → w.heap.size ≤ k := by
  obtain ⟨i0, hi, hz0, hz1, hz2⟩ := info_parts Try.info43
  have hc0 := h.c0
  have hlt := h.lt
  have H : Hid (BookAt w B bk (.slice ai I.length ci) (.slice aw W.length cw) I W) := h
  have hfz : ∀ j, w.frozen? ⟨bk, j, none⟩ = false := h.hd.frozen
  have Hv : Hid (OwnInts w B (.slice av L.length cv, L)) := hv
  have HI : Hid (∀ p ∈ I, Apt p.1 (.slice av L.length cv)) := hI
  have HW : Hid (∀ p ∈ W, Apt (.slice av L.length cv) p.1) := hW
  have hb1 : I.length + 1 ≤ maxLen := by unfold maxLen; omega
  have hb2 : (I.length + 1) * 24 ≤ 140737488355328 := by omega
  have hb3 : B ≤ (w.alloc (.cells #[.slice av L.length cv] 43)).heap.size := by simp; omega
  have ho1 := one_of (v := .slice av L.length cv) rfl
  have hn1 := new_one w (.slice av L.length cv) 43
  have HA : Hid (I.length + 1 ≤ maxLen ∧ (I.length + 1) * 24 ≤ 140737488355328 ∧ B ≤ (w.alloc (.cells #[.slice av L.length cv] 43)).heap.size ∧ (∀ u ∈ [Value.slice av L.length cv], u.oneCell' = true) ∧
    ∀ j u, [Value.slice av L.length cv][j]? = some u → (w.alloc (.cells #[.slice av L.length cv] 43)).cell? ((⟨w.heap.size, 0, none⟩ : Addr).add j) = some u) := ⟨hb1, hb2, hb3, ho1, hn1⟩
  clear hb1 hb2 hb3 ho1 hn1 h hv hI hW
  go_enter Try.func25, Try.ntmps25
  go_wp2_with (at_builtin; refine wpList_append_lies _ rfl _ _ 31 rfl B 43 i0 (.slice none 0 0) 1 24 Try.underlying31 hi hz0 hz1 hz2 rfl (by decide) _ _ _ rfl (H.out.oi.alloc _) ⟨w.heap.size, 0, none⟩ 1 1 [.slice av L.length cv] rfl rfl HA.out.2.2.2.2 HA.out.2.2.2.1 (by decide) HA.out.1 HA.out.2.1 HA.out.2.2.1 (w.heap.size + 1) (by simp) ?_)
  · intro g cap wb ho hg hat hlt2
    have hcb : wb.cell? ⟨bk, 2, none⟩ = some (.slice ai I.length ci) := by
      have r := grown_row (H.out.hd.alloc (.cells #[.slice av L.length cv] 43)) (H.out.oi.alloc (.cells #[.slice av L.length cv] 43)) hg (by decide)
      exact r.cell (i := 2) (by decide)
    have hfb : wb.frozen? ⟨bk, 2, none⟩ = false := by
      have r := grown_row (H.out.hd.alloc (.cells #[.slice av L.length cv] 43)) (H.out.oi.alloc (.cells #[.slice av L.length cv] 43)) hg (by decide)
      exact r.frozen 2
    have hA : Below w.heap.size w (w.alloc (.cells #[.slice av L.length cv] 43)) := (Below.refl _ _).alloc (Nat.le_refl _) _
    obtain ⟨b1, t1⟩ := book_i (H := w.heap.size + 1) (H.out.below hA) (Hv.out.below hA) HI.out HW.out ho hg hat (by simp)
    have t0 : Ty [36, 43] B w (w.alloc (.cells #[.slice av L.length cv] 43)) := Ty.of_below hA
    have T1 : Hid (Ty [36, 43] B w (wb.setCell ⟨bk, 2, none⟩ (.slice (some ⟨g, 0, none⟩) (I.length + 1) cap))) := t0.trans t1
    have B1 : Hid (BookAt (wb.setCell ⟨bk, 2, none⟩ (.slice (some ⟨g, 0, none⟩) (I.length + 1) cap)) B bk (.slice (some ⟨g, 0, none⟩) (I.length + 1) cap) (.slice aw W.length cw) (I ++ [(.slice av L.length cv, L)]) W) := b1
    clear b1 t1 t0 ho hg hat hlt2 HA hA hfz hc0 hlt H HI HW
    go_upto_region 2 with (fail)
    generalize wb.setCell ⟨bk, 2, none⟩ (.slice (some ⟨g, 0, none⟩) (I.length + 1) cap) = w1 at *
    clear hcb hfb
    have hc1 := B1.out.c1
    have hf1 : w1.frozen? ⟨bk, 3, none⟩ = false := B1.out.hd.frozen 3
    have hs1 : Hid (SrcI w1 (.slice av L.length cv) L) := srcI_of_own (T1.out.own Hv.out (by decide))
    have hW1 : Hid (W.length + 1 ≤ maxLen ∧ (W.length + 1) * 24 ≤ 140737488355328 ∧ B ≤ w1.heap.size) := ⟨by unfold maxLen; omega, by omega, Nat.le_trans hBw T1.out.size⟩
    have hbk1 := B1.out.lt
    go_region_law (first | (refine step_call1 (by rfl) _ 53 _ (by rfl) _ (by rfl) _ (copy_anyI L _ _ (by omega) (by exact hs1.out)) (run_copy _ _) ?_; rintro v2 w2 ⟨hown2, hB2⟩; obtain ⟨a2, c2, rfl⟩ := own_lenG hown2; have hlt2 : bk < w2.heap.size := Nat.lt_of_lt_of_le hbk1 hB2.size; have hc2 : w2.cell? ⟨bk, 3, none⟩ = some (.slice aw W.length cw) := (hB2.cell (p := ⟨bk, 3, none⟩) hbk1).trans hc1; have hf2 : w2.frozen? ⟨bk, 3, none⟩ = false := (hB2.frozen (p := ⟨bk, 3, none⟩) hbk1).trans hf1; have B2 : Hid (BookAt w2 B bk (.slice (some ⟨g, 0, none⟩) (I.length + 1) cap) (.slice aw W.length cw) (I ++ [(.slice av L.length cv, L)]) W) := (B1.out.drewN 1).below hB2; have hB3 : Hid (B ≤ w2.heap.size) := Nat.le_trans hW1.out.2.2 hB2.size) | (refine step_append_lies _ (by rfl) _ _ 31 (by rfl) B 43 i0 (.slice none 0 0) 1 24 Try.underlying31 hi hz0 hz1 hz2 rfl (by decide) _ _ _ (by rfl) (B2.out.ow.alloc _) ⟨w2.heap.size, 0, none⟩ 1 1 [.slice a2 L.length c2] (by rfl) rfl (new_one w2 _ _) (one_of rfl) (by decide) hW1.out.1 hW1.out.2.1 (by have := hB3.out; simp; omega) (w2.heap.size + 1) (by simp) ?_; intro g3 cap3 w3 ho3 hg3 hat3 hlt3; have r3 := grown_row (B2.out.hd.alloc (.cells #[.slice a2 L.length c2] 43)) (B2.out.ow.alloc (.cells #[.slice a2 L.length c2] 43)) hg3 (by decide); have hc3 : w3.cell? ⟨bk, 3, none⟩ = some (.slice aw W.length cw) := r3.cell (i := 3) (by decide); have hf3 : w3.frozen? ⟨bk, 3, none⟩ = false := r3.frozen 3))
    all_goals
      have hA2 : Below w2.heap.size w2 (w2.alloc (.cells #[.slice a2 L.length c2] 43)) := (Below.refl _ _).alloc (Nat.le_refl _) _
      have hv2 : OwnInts (w2.alloc (.cells #[.slice a2 L.length c2] 43)) B (.slice a2 L.length c2, L) := (own_base hown2 hW1.out.2.2).alloc _
      have hI2 : ∀ p ∈ I ++ [(Value.slice av L.length cv, L)], Apt p.1 (.slice a2 L.length c2) := fun p hp => apt_fresh (B1.out.ri p hp) hown2 (Nat.le_refl _)
      obtain ⟨bb, tt⟩ := book_w (H := w2.heap.size + 1) (B2.out.below hA2) hv2 hI2 ho3 hg3 hat3 (by simp)
      have t2 : Ty [36, 43] B w1 w2 := Ty.of_below (⟨hB2.os, hB2.tape, hB2.output, hB2.size, hB2.block⟩ : Below w1.heap.size w1 w2)
      have t3 : Ty [36, 43] B w2 (w2.alloc (.cells #[.slice a2 L.length c2] 43)) := Ty.of_below hA2
      have TT := ((T1.out.trans t2).trans t3).trans tt
      have FR : Hid (∀ k, (Value.slice a2 L.length c2).ownBlock = some k → w.heap.size ≤ k) := fun k hk => Nat.le_trans T1.out.size (hown2.lt k hk).1
      clear hA2 hv2 hI2 ho3 hg3 hat3 tt t2 t3 hc3 hf3 r3 hlt3 hown2 hB2 hc2 hf2 hlt2
      go_wp2_with fail
      go_end0
      exact ⟨rfl, _, _, _, bb, TT, FR.out⟩

theorem ints_core (L : List Ins) (av : Option Addr) (cv : Nat) (ai : Option Addr) (ci : Nat) (aw : Option Addr) (cw : Nat) (w : World) {B bk : Nat} {I W : List (Value × List Ins)} (h : BookAt w B bk (.slice ai I.length ci) (.slice aw W.length cw) I W) (hBw : B ≤ w.heap.size) (hlen : L.length ≤ 1000) (hIl : I.length < 250) (hWl : W.length < 250)
    (hv : OwnInts w B (.slice av L.length cv, L)) (hI : ∀ p ∈ I, Apt p.1 (.slice av L.length cv)) (hW : ∀ p ∈ W, Apt (.slice av L.length cv) p.1) :
    Calls Try.prog 25 #[.pointer (some ⟨bk, 0, none⟩), .slice av L.length cv] w fun e w' => e = .returned (.tuple #[]) ∧
      ∃ vi' vw' v2, BookAt w' B bk vi' vw' (I ++ [(.slice av L.length cv, L)]) (W ++ [(v2, L)]) ∧ Ty [36, 43] B w w' :=
  (ints_core2 L av cv ai ci aw cw w h hBw hlen hIl hWl hv hI hW).mono fun _ _ ⟨he, vi', vw', v2, hb, ht, _⟩ => ⟨he, vi', vw', v2, hb, ht⟩

theorem ints_any (L : List Ins) (v : Value) (w : World) {B bk : Nat} {vi vw : Value} {I W : List (Value × List Ins)} (h : BookAt w B bk vi vw I W) (hBw : B ≤ w.heap.size) (hlen : L.length ≤ 1000) (hIl : I.length < 250) (hWl : W.length < 250)
    (hv : OwnInts w B (v, L)) (hI : ∀ p ∈ I, Apt p.1 v) (hW : ∀ p ∈ W, Apt v p.1) :
    Calls Try.prog 25 #[.pointer (some ⟨bk, 0, none⟩), v] w fun e w' => e = .returned (.tuple #[]) ∧
      ∃ vi' vw' v2, BookAt w' B bk vi' vw' (I ++ [(v, L)]) (W ++ [(v2, L)]) ∧ Ty [36, 43] B w w' := by
  obtain ⟨av, cv, ev⟩ := own_lenG hv
  have ev' : v = .slice av L.length cv := ev
  subst ev'
  obtain ⟨ai, ci, rfl⟩ := own_lenG h.oi
  obtain ⟨aw, cw, rfl⟩ := own_lenG h.ow
  exact ints_core L av cv ai ci aw cw w h hBw hlen hIl hWl hv hI hW
theorem ints_any2 (L : List Ins) (v : Value) (w : World) {B bk : Nat} {vi vw : Value} {I W : List (Value × List Ins)} (h : BookAt w B bk vi vw I W) (hBw : B ≤ w.heap.size) (hlen : L.length ≤ 1000) (hIl : I.length < 250) (hWl : W.length < 250)
    (hv : OwnInts w B (v, L)) (hI : ∀ p ∈ I, Apt p.1 v) (hW : ∀ p ∈ W, Apt v p.1) :
    Calls Try.prog 25 #[.pointer (some ⟨bk, 0, none⟩), v] w fun e w' => e = .returned (.tuple #[]) ∧
      ∃ vi' vw' v2, BookAt w' B bk vi' vw' (I ++ [(v, L)]) (W ++ [(v2, L)]) ∧ Ty [36, 43] B w w' ∧ ∀ k, v2.ownBlock = some k → w.heap.size ≤ k := by
  obtain ⟨av, cv, ev⟩ := own_lenG hv
  have ev' : v = .slice av L.length cv := ev
  subst ev'
  obtain ⟨ai, ci, rfl⟩ := own_lenG h.oi
  obtain ⟨aw, cw, rfl⟩ := own_lenG h.ow
  exact ints_core2 L av cv ai ci aw cw w h hBw hlen hIl hWl hv hI hW

end Go.Proofs.Ytglalihheppgpaa

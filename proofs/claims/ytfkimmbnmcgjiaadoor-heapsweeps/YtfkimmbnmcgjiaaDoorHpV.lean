import Derived.Test.YtfkimmbnmcgjiaaDoorHpT
/- The states of HeapSweeps: objects allocated, shaded, swept. -/
namespace Go.Proofs.YtfkimmbnmcgjiaaDoor
open Go.RowKit Go.Maps

section
variable {w wr w' : World} {B : Nat} {b : Hb} {n : Nat} {nf : List Int} {s s' : Hs}
theorem hg_alloc (h : HS w wr B b n nf s) (j : Nat) (bl : Bool) (hj : j < nf.length) {m : Nat} (hm : nf.getD j 0 = (m : Int)) (hser : s.ser < 2000000) :
    Calls Tryd.prog 9 #[.pointer (some ⟨b.bh, 0, none⟩), .int .i64 j, .bool bl] wr fun e w' =>
      (∃ k z p, Fit s.P (ofN (nf.getD j 0)) k z p ∧ e = .returned (.tuple #[.int .i64 (adr k z p.sz : Nat), .int .i64 0]) ∧ HS w w' B b n nf (s.took j m bl k z p) ∧ Hf B b wr w') ∨
      (e = .returned (.tuple #[.int .i64 0, .int .i64 5]) ∧ HS w w' B b n nf s ∧ Hf B b wr w') := by
  rcases fit_or s.P (ofN (nf.getD j 0)) n with h1 | ⟨k, z, p, hk, h1, h2⟩
  · refine (alloc_full h.hp j bl hj h1).mono fun e w' hh => ?_
    obtain ⟨he, q, rfl⟩ := hh
    exact Or.inr ⟨he, h.drewN q, (Fz.refl _ _ _ _).drewN q⟩
  · refine (alloc_some h.hp j bl hj hm h1 h2 h.tb hser).mono fun e w' hh => ?_
    exact Or.inl ⟨k, z, p, h2, hh.1, h.to hh.2.1 hh.2.2, hh.2.2⟩
theorem hg_fresh (h : HS w wr B b n nf s) {c : Int} (h0 : 0 ≤ c) (h7 : c ≤ 7) :
    Calls Tryd.prog 10 #[.pointer (some ⟨b.bh, 0, none⟩), .int .i64 c] wr fun e w' =>
      (∃ k pb, k < n ∧ s.P k = none ∧ e = .returned (.bool true) ∧ HS w w' B b n nf { s with P := upP s.P k (some ⟨pb, c, f0, f0⟩) } ∧ Hf B b wr w') ∨
      (e = .returned (.bool false) ∧ HS w w' B b n nf s ∧ Hf B b wr w') := by
  rcases first_free s.P n with h1 | ⟨k, h1, h2, h3⟩
  · refine (fresh_full h.hp h0 h7 h1).mono fun e w' hh => ?_
    exact Or.inr ⟨hh.1, h.below hh.2, Fz.of_below hh.2⟩
  · refine (fresh_some h.hp h0 h7 h1 h2 h3 h.bs).mono fun e w' hh => ?_
    obtain ⟨he, pb, g1, g2⟩ := hh
    exact Or.inl ⟨k, pb, h1, h2, he, h.to g1 g2, g2⟩
end

/-- Objects are allocated: those of A2 are there, the list at lv has A. -/
structure SwA (w2 wr : World) (S : Nat) (b : Hb) (nf : List Int) (lv : Value) (A A2 : List Int) (s : Hs) : Prop where
  hs : HS w2 wr w2.heap.size b 8 nf s
  ow : wr.ownsRow S 3 1 lv A.length (A.map (Value.int .i64))
  inv : InvA s A2
  wh : ∀ k x o, s.O k x = some o → o.co = 0
  sz : S ≤ wr.heap.size
section
variable {w2 wr w' : World} {S : Nat} {b : Hb} {nf : List Int} {lv : Value} {A A2 : List Int} {s : Hs}
theorem SwA.below (h : SwA w2 wr S b nf lv A A2 s) (hb : Below wr.heap.size wr w') : SwA w2 w' S b nf lv A A2 s :=
  ⟨h.hs.below hb, (Ty.of_below (K := []) (B := 0) hb).own h.ow (by simp), h.inv, h.wh, Nat.le_trans h.sz hb.size⟩
theorem swa_alloc (h : SwA w2 wr S b nf lv A A s) (hl : Low b S) (j : Nat) (hj : j < nf.length) {m : Nat} (hm : nf.getD j 0 = (m : Int)) (hser : s.ser < 2000000) :
    Calls Tryd.prog 9 #[.pointer (some ⟨b.bh, 0, none⟩), .int .i64 j, .bool false] wr fun e w' =>
      (∃ (ad : Int) (s' : Hs), e = .returned (.tuple #[.int .i64 ad, .int .i64 0]) ∧ SwA w2 w' S b nf lv A (A ++ [ad]) s' ∧ s'.ser = s.ser + 1) ∨
      (e = .returned (.tuple #[.int .i64 0, .int .i64 5]) ∧ SwA w2 w' S b nf lv A A s) := by
  refine (hg_alloc h.hs j false hj hm hser).mono fun e w' hh => ?_
  rcases hh with ⟨k, z, p, h1, h2, h3, h4⟩ | ⟨h1, h2, h3⟩
  · refine Or.inl ⟨_, _, h2, ⟨h3, h4.list hl h.ow, InvA.took h.hs.hp h.inv j m false h1, fun k' x o ho => ?_, Nat.le_trans h.sz h4.size⟩, rfl⟩
    by_cases e : k' = k ∧ x = z
    · obtain ⟨rfl, rfl⟩ := e
      rw [took_O] at ho
      cases ho
      rfl
    · rw [took_O2 _ _ _ _ _ e] at ho
      exact h.wh k' x o ho
  · exact Or.inr ⟨h1, h2, h3.list hl h.ow, h.inv, h.wh, Nat.le_trans h.sz h3.size⟩
theorem swa_fresh (h : SwA w2 wr S b nf lv A A s) (hl : Low b S) {c : Int} (h0 : 0 ≤ c) (h7 : c ≤ 7) :
    Calls Tryd.prog 10 #[.pointer (some ⟨b.bh, 0, none⟩), .int .i64 c] wr fun e w' =>
      ∃ (r : Bool) (s' : Hs), e = .returned (.bool r) ∧ SwA w2 w' S b nf lv A A s' ∧ s'.ser = s.ser := by
  refine (hg_fresh h.hs h0 h7).mono fun e w' hh => ?_
  rcases hh with ⟨k, pb, h1, h2, h3, h4, h5⟩ | ⟨h1, h2, h3⟩
  · exact ⟨true, _, h3, ⟨h4, h5.list hl h.ow, h.inv.fresh h1 h2, h.wh, Nat.le_trans h.sz h5.size⟩, rfl⟩
  · exact ⟨false, s, h1, ⟨h2, h3.list hl h.ow, h.inv, h.wh, Nat.le_trans h.sz h3.size⟩, rfl⟩
theorem SwA.app {ad : Int} (h : SwA w2 wr S b nf lv A (A ++ [ad]) s) (hl : Low b S) (hS : w2.heap.size ≤ S) {o : Obj} {w8 : World} {g' cap : Nat}
    (ho8 : w8.ownsRow S 3 1 (.slice (some ⟨g', 0, none⟩) (A.length + 1) cap) (A.length + 1) (A.map (Value.int .i64) ++ [.int .i64 ad])) (hg : (wr.alloc o).grownBy w8 lv.ownBlock) : SwA w2 w8 S b nf (.slice (some ⟨g', 0, none⟩) (A.length + 1) cap) (A ++ [ad]) (A ++ [ad]) s := by
  have hs := h.hs.lo.size
  have lo : Below w2.heap.size w2 w8 := (h.hs.lo.alloc h.hs.lo.size o).grown hg (by simp; omega) (fun k hk => Nat.le_trans hS (h.ow.lt k hk).1)
  exact ⟨⟨h.hs.hp.grown hl h.ow hg, lo, Nat.le_refl _, lo.size, h.hs.t0⟩, by simpa using ho8, h.inv, h.wh, by have h1 := h.sz; have h3 := hg.size; simp only [World.alloc, Array.size_push] at h3; omega⟩
end

/-- What is known of the objects of A, those of T shaded. -/
structure ColB (s : Hs) (A T : List Int) : Prop where
  inv : InvA s A
  sub : ∀ x ∈ T, x ∈ A
  col : ∀ ad ∈ A, ∀ k x p, InS s.P ad k x 0 p → ∃ o, s.O k x = some o ∧ o.co = if ad ∈ T then 1 else 0
  wt : wtot s 8 + T.length = A.length
/-- Objects are shaded: those of T2; the map has T. -/
structure SwB (w2 wr : World) (S : Nat) (b : Hb) (nf : List Int) (lv : Value) (sb : Nat) (A T T2 : List Int) (s : Hs) : Prop where
  hs : HS w2 wr w2.heap.size b 8 nf s
  ow : wr.ownsRow S 3 1 lv A.length (A.map (Value.int .i64))
  mp : MbAt wr sb T
  hS : S ≤ sb
  cb : ColB s A T2
section
variable {w2 wr w' : World} {S : Nat} {b : Hb} {nf : List Int} {lv : Value} {sb : Nat} {A T T2 : List Int} {s : Hs}
theorem SwA.start (h : SwA w2 wr S b nf lv A A s) : SwB w2 (wr.alloc (.map #[] 0)) S b nf lv wr.heap.size A [] [] s := by
  have hb : Below wr.heap.size wr (wr.alloc (.map #[] 0)) := (Below.refl _ _).alloc (Nat.le_refl _) _
  refine ⟨h.hs.below hb, (Ty.of_below (K := []) (B := 0) hb).own h.ow (by simp), mb_made wr, h.sz, ⟨h.inv, (fun x hx => by cases hx), fun ad had k x p hi => ?_, ?_⟩⟩
  · obtain ⟨o, ho⟩ := h.hs.hp.some_ob hi
    exact ⟨o, ho, by simp [h.wh k x o ho]⟩
  · rw [white_all h.hs.hp h.wh 8, h.inv.tt]
    rfl
theorem swb_shade (h : SwB w2 wr S b nf lv sb A T T s) (hl : Low b S) {ad : Int} (had : ad ∈ A) :
    Calls Tryd.prog 12 #[.pointer (some ⟨b.bh, 0, none⟩), .int .i64 ad] wr fun e w' => ∃ (r : Bool) (s' : Hs), e = .returned (.bool r) ∧ SwB w2 w' S b nf lv sb A T (if ad ∈ T then T else T ++ [ad]) s' := by
  obtain ⟨k, x, p, hi⟩ := h.cb.inv.i1 ad had
  obtain ⟨o, ho, hc⟩ := h.cb.col ad had k x p hi
  have hsm := ins_small h.hs.hp hi
  have hb : I64 ad := by constructor <;> omega
  by_cases hT : ad ∈ T
  · rw [if_pos hT] at hc
    rw [if_pos hT]
    refine (shade_other h.hs.hp hb hi ho (by omega)).mono fun e w' hh => ?_
    have t := Ty.of_below (K := []) (B := 0) hh.2
    exact ⟨false, s, hh.1, h.hs.below hh.2, t.own h.ow (by simp), h.mp.of_block (hh.2.block _ h.mp.lt), h.hS, h.cb⟩
  · rw [if_neg hT] at hc
    rw [if_neg hT]
    refine (shade_yes h.hs.hp hb hi ho hc).mono fun e w' hh => ?_
    obtain ⟨he, hp, hf⟩ := hh
    refine ⟨true, _, he, h.hs.to hp hf, hf.list hl h.ow, hf.mb hl h.hS h.mp, h.hS, ⟨⟨h.cb.inv.i1, h.cb.inv.nd, h.cb.inv.tt⟩, fun y hy => ?_, fun ad' had' k' x' p' hi' => ?_, ?_⟩⟩
    · rcases List.mem_append.1 hy with h1 | h1
      · exact h.cb.sub y h1
      · simp at h1; rw [h1]; exact had
    · have hi2 : InS s.P ad' k' x' 0 p' := hi'
      by_cases e : k' = k ∧ x' = x
      · obtain ⟨rfl, rfl⟩ := e
        have e2 : ad' = ad := by
          have := hi2.hp
          rw [hi.hp] at this
          cases this
          rw [hi.he, hi2.he]
        subst e2
        exact ⟨⟨o.sh, o.se, 1⟩, upO_same _ _ _ _, by simp⟩
      · obtain ⟨o2, ho2, hc2⟩ := h.cb.col ad' had' k' x' p' hi2
        have e2 : ad' ≠ ad := by
          intro e2
          subst e2
          have h1 := hi.he
          have h2 := hi2.he
          obtain ⟨e3, e4, _⟩ := plc_unique h.hs.hp hi.hp hi.hs hi.hy hi2.hp hi2.hs hi2.hy (by omega)
          exact e ⟨e3.symm, e4.symm⟩
        refine ⟨o2, (upO_other _ _ e).trans ho2, ?_⟩
        rw [hc2]
        simp [e2]
    · have h1 := wtot_shade (s := s) (o' := ⟨o.sh, o.se, 1⟩) hi.hp hi.hs ho hc (show (1 : Int) ≠ 0 by decide) 8 (h.hs.hp.ar.klt hi.hp)
      have h2 := h.cb.wt
      rw [List.length_append]
      simp only [List.length_singleton]
      omega
theorem SwB.store (h : SwB w2 wr S b nf lv sb A T T2 s) (hl : Low b S) (hw2 : w2.heap.size ≤ S) (hb : But sb wr w') (hm : MbAt w' sb T2) : SwB w2 w' S b nf lv sb A T2 T2 s := by
  have hS := h.hS
  have ho : w'.ownsRow S 3 1 lv A.length (A.map (Value.int .i64)) := by
    refine ⟨h.ow.1, ?_⟩
    rcases h.ow.2 with h2 | ⟨g, cap, cur, hv, hg, hh, r⟩
    · exact Or.inl h2
    · refine Or.inr ⟨g, cap, cur, hv, hg, (hb.block g (Array.getElem?_eq_some_iff.1 hh).1 (fun e => ?_)).trans hh, r⟩
      obtain ⟨es, clock, hx⟩ := h.mp.is_map
      rw [e, hx] at hh
      cases hh
  have lo : Below w2.heap.size w2 w' := h.hs.lo.trans (hb.below (by omega) h.hs.lo.size)
  exact ⟨⟨h.hs.hp.mapped hl h.hS h.mp hb, lo, Nat.le_refl _, lo.size, h.hs.t0⟩, ho, hm, h.hS, h.cb⟩
end

theorem swOb_some (o : Ob) : swOb (some o) = if o.co = 0 then none else some ⟨o.sh, o.se, 0⟩ := rfl
/-- The pages below j were swept. -/
structure Rel (s0 s : Hs) (j : Nat) : Prop where
  hi : ∀ k, j ≤ k → s.P k = s0.P k ∧ ∀ x, s.O k x = s0.O k x
  lo : ∀ k, k < j → (∀ x, s.O k x = swOb (s0.O k x)) ∧ (s0.P k = none → s.P k = none) ∧ ∀ p, s0.P k = some p → (s.P k = some ⟨p.blk, p.c, swS s0 k p.n p.U, swS s0 k p.n p.M⟩ ∨ (s.P k = none ∧ cnt (swS s0 k p.n p.U) p.n = 0))
theorem rel_zero (s : Hs) : Rel s s 0 := ⟨fun _ _ => ⟨rfl, fun _ => rfl⟩, fun k hk => by omega⟩
section
variable {w w' : World} {B : Nat} {b : Hb} {n : Nat} {nf : List Int} {s s0 : Hs} {j : Nat}
theorem rel_none (h0 : HpAt w B b n nf s0) (h : Rel s0 s j) (hp : s0.P j = none) : Rel s0 s (j + 1) := by
  refine ⟨fun k hk => h.hi k (by omega), fun k hk => ?_⟩
  by_cases e : k < j
  · exact h.lo k e
  · have e : k = j := by omega
    subst e
    have hno : ∀ x, s0.O k x = none := fun x => by
      cases e : s0.O k x with
      | none => rfl
      | some o =>
        obtain ⟨q, h1, _⟩ := (h0.use k x).1 (by rw [e]; rfl)
        rw [hp] at h1
        cases h1
    refine ⟨fun x => ?_, fun _ => by rw [(h.hi k (Nat.le_refl _)).1]; exact hp, fun p h2 => by rw [hp] at h2; cases h2⟩
    rw [(h.hi k (Nat.le_refl _)).2 x, hno x]
    rfl
theorem rel_some (h0 : HpAt w B b n nf s0) (h : Rel s0 s j) {p : PSt} (hp : s0.P j = some p) : Rel s0 (s.swept j p) (j + 1) ∧ cnt (whiteB s j) p.n = whP s0 j := by
  have hO := (h.hi j (Nat.le_refl _)).2
  have hw : whiteB s j = whiteB s0 j := by funext x; simp only [whiteB, hO]
  have hS : ∀ t U, swS s j t U = swS s0 j t U := fun t U => by funext x; simp only [swS, hw]
  have hOj : ∀ x, swO s j p.n j x = swOb (s0.O j x) := fun x => by
    unfold swO
    by_cases hx : x < p.n
    · rw [if_pos ⟨rfl, hx⟩, hO]
    · rw [if_neg (by omega), hO]
      cases e : s0.O j x with
      | none => rfl
      | some o =>
        obtain ⟨q, h1, h2, _⟩ := (h0.use j x).1 (by rw [e]; rfl)
        rw [hp] at h1
        cases h1
        omega
  have hOk : ∀ k, k ≠ j → ∀ x, swO s j p.n k x = s.O k x := fun k hk x => by unfold swO; rw [if_neg (by omega)]
  refine ⟨?_, by rw [hw]; simp only [whP, hp]⟩
  have hsO : (s.swept j p).O = swO s j p.n := by
    unfold Hs.swept
    by_cases e : cnt (swS s j p.n p.U) p.n = 0
    · rw [if_pos e]; rfl
    · rw [if_neg e]; rfl
  have hsP : ∀ k, k ≠ j → (s.swept j p).P k = s.P k := fun k hk => by
    unfold Hs.swept
    by_cases e : cnt (swS s j p.n p.U) p.n = 0
    · rw [if_pos e]
      exact (upP_other _ _ hk).trans (upP_other _ _ hk)
    · rw [if_neg e]
      exact upP_other _ _ hk
  have hsJ : (s.swept j p).P j = some ⟨p.blk, p.c, swS s0 j p.n p.U, swS s0 j p.n p.M⟩ ∨ ((s.swept j p).P j = none ∧ cnt (swS s0 j p.n p.U) p.n = 0) := by
    unfold Hs.swept
    by_cases e : cnt (swS s j p.n p.U) p.n = 0
    · rw [if_pos e]
      exact Or.inr ⟨upP_same _ _ _, by rw [← hS]; exact e⟩
    · rw [if_neg e, sw_P, hS, hS]
      exact Or.inl rfl
  refine ⟨fun k hk => ⟨(hsP k (by omega)).trans (h.hi k (by omega)).1, fun x => by rw [hsO, hOk k (by omega)]; exact (h.hi k (by omega)).2 x⟩, fun k hk => ?_⟩
  by_cases e : k < j
  · obtain ⟨h1, h2, h3⟩ := h.lo k e
    rw [hsP k (by omega)]
    exact ⟨(fun x => by rw [hsO, hOk k (by omega)]; exact h1 x), h2, h3⟩
  · have e : k = j := by omega
    subst e
    refine ⟨(fun x => by rw [hsO]; exact hOj x), (fun h2 => by rw [hp] at h2; cases h2), fun q h2 => ?_⟩
    rw [hp] at h2
    cases h2
    exact hsJ
theorem cnt_split {U : Nat → Bool} {k m : Nat} (hU : ∀ x, whiteB s k x = true → U x = true) : ∀ N, N ≤ m → cnt (swS s k m U) N + cnt (whiteB s k) N = cnt U N
  | 0, _ => rfl
  | N + 1, h => by
    have ih := cnt_split (m := m) hU N (by omega)
    show cnt (swS s k m U) N + (if swS s k m U N then 1 else 0) + (cnt (whiteB s k) N + (if whiteB s k N then 1 else 0)) = cnt U N + (if U N then 1 else 0)
    have hN : N < m := by omega
    cases hW : whiteB s k N with
    | false => simp [swS, hW]; omega
    | true => simp [swS, hW, hN, hU N hW]; omega
theorem rel_tot (h0 : HpAt w B b n nf s0) (h : Rel s0 s j) : ∀ m, m ≤ j → tot s.P m + wtot s0 m = tot s0.P m
  | 0, _ => rfl
  | m + 1, hm => by
    have ih := rel_tot h0 h m (by omega)
    obtain ⟨_, h2, h3⟩ := h.lo m (by omega)
    show tot s.P m + cntO (s.P m) + (wtot s0 m + whP s0 m) = tot s0.P m + cntO (s0.P m)
    cases e : s0.P m with
    | none =>
      rw [h2 e]
      simp only [whP, e, cntO]
      omega
    | some p =>
      have hs := cnt_split (s := s0) (k := m) (U := p.U) (m := p.n) (fun x hx => by
        cases hU : p.U x with
        | true => rfl
        | false => rw [whiteB, h0.free_slot e hU] at hx; cases hx) p.n (Nat.le_refl _)
      have e1 : whP s0 m = cnt (whiteB s0 m) p.n := by simp only [whP, e]
      have e2 : cntO (some p) = cnt p.U p.n := rfl
      rcases h3 p e with h4 | ⟨h4, h5⟩
      · rw [h4]
        have e3 : cntO (some ⟨p.blk, p.c, swS s0 m p.n p.U, swS s0 m p.n p.M⟩) = cnt (swS s0 m p.n p.U) p.n := rfl
        omega
      · rw [h4]
        have e3 : cntO none = 0 := rfl
        omega
theorem wtot_le (h0 : HpAt w B b n nf s0) : ∀ m, wtot s0 m ≤ 32 * m
  | 0 => Nat.le_refl _
  | m + 1 => by
    show wtot s0 m + whP s0 m ≤ _
    have ih := wtot_le h0 m
    have : whP s0 m ≤ 32 := by
      unfold whP
      cases e : s0.P m with
      | none => exact Nat.zero_le _
      | some p => exact Nat.le_trans (cnt_le _ _) (h0.ar.num e).n32
    omega
theorem sw_white (h : Rel s0 s 8) (hq : HpAt w' B b 8 nf s) : ∀ k x o, s.O k x = some o → o.co = 0 := by
  intro k x o ho
  by_cases hk : k < 8
  · rw [(h.lo k hk).1 x] at ho
    cases e : s0.O k x with
    | none => rw [e] at ho; cases ho
    | some o2 =>
      rw [e] at ho
      rw [swOb_some] at ho
      by_cases hc : o2.co = 0
      · rw [if_pos hc] at ho; cases ho
      · rw [if_neg hc] at ho
        cases ho
        rfl
  · obtain ⟨q, h1, _⟩ := (hq.use k x).1 (by rw [ho]; rfl)
    rw [hq.ar.out k (by omega)] at h1
    cases h1
/-- What stayed. -/
theorem sw_in (h0 : HpAt w B b 8 nf s0) (h : Rel s0 s 8) (hq : HpAt w' B b 8 nf s) {A T : List Int} (hc : ColB s0 A T) {ad : Int} (had : ad ∈ A) (hT : ad ∈ T) : ∃ k x q o, InS s.P ad k x 0 q ∧ s.O k x = some o ∧ o.co = 0 ∧ ((adr k x q.sz : Nat) : Int) = ad := by
  obtain ⟨k, x, p, hi⟩ := hc.inv.i1 ad had
  obtain ⟨o, ho, hco⟩ := hc.col ad had k x p hi
  rw [if_pos hT] at hco
  have hk : k < 8 := h0.ar.klt hi.hp
  obtain ⟨h1, h2, h3⟩ := h.lo k hk
  have hO : s.O k x = some ⟨o.sh, o.se, 0⟩ := by rw [h1 x, ho, swOb_some, if_neg (by omega)]
  obtain ⟨q, g1, g2, g3⟩ := (hq.use k x).1 (by rw [hO]; rfl)
  have hsz : q.sz = p.sz := by
    rcases h3 p hi.hp with h4 | ⟨h4, _⟩
    · rw [h4] at g1; cases g1; rfl
    · rw [h4] at g1; cases g1
  have he := hi.he
  exact ⟨k, x, q, ⟨o.sh, o.se, 0⟩, ⟨g1, g2, g3, by rw [hsz]; exact hi.hy, by rw [hsz]; exact he⟩, hO, rfl, by rw [hsz, he]; rfl⟩
/-- What went: its words are nobody's. -/
theorem sw_out (h0 : HpAt w B b 8 nf s0) (h : Rel s0 s 8) (hq : HpAt w' B b 8 nf s) {A T : List Int} (hc : ColB s0 A T) {ad : Int} (had : ad ∈ A) (hT : ¬ ad ∈ T) : OutS s.P ad := by
  obtain ⟨k, x, p, hi⟩ := hc.inv.i1 ad had
  obtain ⟨o, ho, hco⟩ := hc.col ad had k x p hi
  rw [if_neg hT] at hco
  intro k' x' y' q hi'
  have hk' : k' < 8 := hq.ar.klt hi'.hp
  obtain ⟨h1, h2, h3⟩ := h.lo k' hk'
  cases e : s0.P k' with
  | none =>
    have := hi'.hp
    rw [h2 e] at this
    cases this
  | some p' =>
    rcases h3 p' e with h4 | ⟨h4, _⟩
    · have g1 := hi'.hp
      rw [h4] at g1
      cases g1
      have e1 := hi.he
      have e2 := hi'.he
      obtain ⟨rfl, rfl, _⟩ := plc_unique h0 hi.hp hi.hs hi.hy e hi'.hs hi'.hy (by
        have e3 : PSt.sz ⟨p'.blk, p'.c, swS s0 k' p'.n p'.U, swS s0 k' p'.n p'.M⟩ = p'.sz := rfl
        rw [e3] at e2
        omega)
      have hO : s.O k x = none := by rw [h1 x, ho, swOb_some, if_pos hco]
      have := (hq.use k x).2 ⟨_, hi'.hp, hi'.hs, hi'.hu⟩
      rw [hO] at this
      cases this
    · have := hi'.hp
      rw [h4] at this
      cases this
end
theorem out_nobeg {P : Nat → Option PSt} {ad : Int} (h : OutS P ad) : NoBeg P ad := fun k x p hi => h k x 0 p hi

end Go.Proofs.YtfkimmbnmcgjiaaDoor
/- HeapSweeps: pages swept one by one; operations on the map of what stays. -/
namespace Go.Proofs.YtfkimmbnmcgjiaaDoor
open Go.RowKit Go.Maps

section
variable {P : Program} {w w' : World} {ops : Array Oper} {rest : List Oper} {o : Oper} {a : Act} {Q : Exit → Act → World → Prop}
theorem wpList_mset (hg : o.guard = none) (m x v : Operand) (t : TypeId) (hop : o.op = Op.mapUpdate t m x v) (mv key val : Value) (hm : a.eval m = mv) (hx : a.eval x = key) (hv : a.eval v = val)
    (hrun : (Instr.mapUpdate t mv key val).run P w = .ok () w') (hK : wpList P ops Q rest (a.put o.dst undef) w') : wpList P ops Q (o :: rest) a w := by
  refine wpList_plain hg fun K' hK' => ?_
  unfold Oper.wp
  simp [execOp, hop, hm, hx, hv, hrun, Result.andThen]
  exact hK' _ _ hK
theorem wpList_mlook (hg : o.guard = none) (m x : Operand) (t : TypeId) (hop : o.op = Op.lookup t m x false) (mv key r : Value) (hm : a.eval m = mv) (hx : a.eval x = key)
    (hrun : (Instr.lookup t mv key false).run P w = .ok r w) (hK : wpList P ops Q rest (a.put o.dst r) w) : wpList P ops Q (o :: rest) a w := by
  refine wpList_plain hg fun K' hK' => ?_
  unfold Oper.wp
  simp [execOp, hop, hm, hx, hrun, Result.andThen]
  exact hK' _ _ hK
theorem wpList_mlen (hg : o.guard = none) (m : Operand) (t : TypeId) (hop : o.op = Op.call { callee := Callee.builtin Builtin.len, args := #[m], argTypes := #[t] }) (mv r : Value) (hm : a.eval m = mv)
    (hrun : ∀ ty, (Builtin.len_ #[t] ty #[mv]).run P w = .ok r w) (hK : wpList P ops Q rest (a.put o.dst r) w) : wpList P ops Q (o :: rest) a w := by
  refine wpList_plain hg fun K' hK' => ?_
  unfold Oper.wp
  simp [execOp, hop, resolve, invoke, builtin, hm, hrun, Result.andThen]
  exact hK' _ _ hK
end

/-- Pages below k are swept. -/
structure SwC (w2 wr : World) (S : Nat) (b : Hb) (nf : List Int) (lv : Value) (sb : Nat) (A T : List Int) (s0 s : Hs) (k : Nat) : Prop where
  hs : HS w2 wr w2.heap.size b 8 nf s
  ow : wr.ownsRow S 3 1 lv A.length (A.map (Value.int .i64))
  mp : MbAt wr sb T
  rel : Rel s0 s k
section
variable {w0 w2 wr w' : World} {S : Nat} {b : Hb} {nf : List Int} {lv : Value} {sb : Nat} {A T : List Int} {s0 s : Hs} {k : Nat}
theorem SwB.sweep (h : SwB w2 wr S b nf lv sb A T T s) : SwC w2 wr S b nf lv sb A T s s 0 := ⟨h.hs, h.ow, h.mp, rel_zero s⟩
theorem SwC.below (h : SwC w2 wr S b nf lv sb A T s0 s k) (hb : Below wr.heap.size wr w') : SwC w2 w' S b nf lv sb A T s0 s k :=
  ⟨h.hs.below hb, (Ty.of_below (K := []) (B := 0) hb).own h.ow (by simp), h.mp.of_block (hb.block _ h.mp.lt), h.rel⟩
theorem SwC.drewN (h : SwC w2 wr S b nf lv sb A T s0 s k) (q : Nat) : SwC w2 (wr.drewN q) S b nf lv sb A T s0 s k := h.below (below_drewN (Below.refl _ _) q)
theorem swc_sweep (h0 : HpAt w0 w2.heap.size b 8 nf s0) (h : SwC w2 wr S b nf lv sb A T s0 s k) (hl : Low b S) (hS : S ≤ sb) :
    Calls Tryd.prog 13 #[.pointer (some ⟨b.bh, 0, none⟩), .int .i64 k] wr fun e w' => ∃ s', e = .returned (.int .i64 (whP s0 k : Nat)) ∧ SwC w2 w' S b nf lv sb A T s0 s' (k + 1) := by
  cases e0 : s0.P k with
  | none =>
    have e : s.P k = none := by rw [(h.rel.hi k (Nat.le_refl _)).1]; exact e0
    refine (sweep_none h.hs.hp (k := (k : Int)) (by rw [atI_nat]; exact e)).mono fun e w' hh => ?_
    have h2 := h.below hh.2
    exact ⟨s, by rw [hh.1]; simp [whP, e0], h2.hs, h2.ow, h2.mp, rel_none h0 h.rel e0⟩
  | some p =>
    have e : s.P k = some p := by rw [(h.rel.hi k (Nat.le_refl _)).1]; exact e0
    obtain ⟨h1, h2⟩ := rel_some h0 h.rel e0
    refine (sweep_core h.hs.hp e).mono fun e w' hh => ?_
    exact ⟨_, by rw [hh.1, h2], h.hs.to hh.2.1 hh.2.2, hh.2.2.list hl h.ow, hh.2.2.mb hl hS h.mp, h1⟩
theorem whP_le (h0 : HpAt w0 w2.heap.size b 8 nf s0) (m : Nat) : whP s0 m ≤ 32 := by
  unfold whP
  cases e : s0.P m with
  | none => exact Nat.zero_le _
  | some p => exact Nat.le_trans (cnt_le _ _) (h0.ar.num e).n32
/-- What is left, and what went. -/
theorem swc_tot (h0 : HpAt w0 w2.heap.size b 8 nf s0) (h : SwC w2 wr S b nf lv sb A T s0 s 8) (hc : ColB s0 A T) : tot s.P 8 = T.length ∧ wtot s0 8 + T.length = A.length := by
  have h1 := rel_tot h0 h.rel 8 (Nat.le_refl _)
  have h2 := hc.wt
  have h3 := hc.inv.tt
  omega
end
end Go.Proofs.YtfkimmbnmcgjiaaDoor

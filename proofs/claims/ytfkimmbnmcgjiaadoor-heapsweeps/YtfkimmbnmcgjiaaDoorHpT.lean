import Derived.Test.YtfkimmbnmcgjiaaDoorHpR
/- What HeapSweeps counts: places, objects, White ones; the map of what stays. -/
namespace Go.Proofs.YtfkimmbnmcgjiaaDoor
open Go.RowKit Go.Maps

theorem cnt_up (M : Nat → Bool) (x : Nat) (hM : M x = false) : ∀ N, x < N → cnt (up M x true) N = cnt M N + 1
  | 0, h => by omega
  | N + 1, h => by
    show cnt (up M x true) N + (if up M x true N then 1 else 0) = cnt M N + (if M N then 1 else 0) + 1
    by_cases e : x = N
    · subst e
      rw [cnt_congr (up M x true) M x (fun i hi => by have : i ≠ x := by omega
                                                      simp [up, this]), hM]
      simp [up]
    · rw [cnt_up M x hM N (by omega)]
      have : N ≠ x := fun h => e h.symm
      simp [up, this]
      omega
/-- How many of page k's slots are used; how many pages' together. -/
def cntO : Option PSt → Nat
  | some p => cnt p.U p.n
  | none => 0
def tot (P : Nat → Option PSt) : Nat → Nat
  | 0 => 0
  | n + 1 => tot P n + cntO (P n)
def whP (s : Hs) (k : Nat) : Nat := match s.P k with | some p => cnt (whiteB s k) p.n | none => 0
def wtot (s : Hs) : Nat → Nat
  | 0 => 0
  | n + 1 => wtot s n + whP s n
theorem tot_out (P : Nat → Option PSt) (k : Nat) (v : Option PSt) : ∀ n, n ≤ k → tot (upP P k v) n = tot P n
  | 0, _ => rfl
  | n + 1, h => by
    show tot (upP P k v) n + cntO (upP P k v n) = tot P n + cntO (P n)
    rw [tot_out P k v n (by omega), upP_other _ _ (by omega)]
theorem tot_up (P : Nat → Option PSt) (k : Nat) (v : Option PSt) : ∀ n, k < n → tot (upP P k v) n + cntO (P k) = tot P n + cntO v
  | 0, h => by omega
  | n + 1, h => by
    show tot (upP P k v) n + cntO (upP P k v n) + cntO (P k) = tot P n + cntO (P n) + cntO v
    by_cases e : k = n
    · subst e
      rw [tot_out P k v k (Nat.le_refl _), upP_same]
      omega
    · have := tot_up P k v n (by omega)
      rw [upP_other _ _ (by omega)]
      omega
theorem tot_none (n : Nat) : tot (fun _ => none) n = 0 := by
  induction n with
  | zero => rfl
  | succ n ih => show tot _ n + 0 = 0; rw [ih]

section
variable {w : World} {B : Nat} {b : Hb} {n : Nat} {nf : List Int} {s : Hs}
/-- A word lies in one slot alone. -/
theorem plc_unique (h : HpAt w B b n nf s) {k x y k' x' y' : Nat} {p p' : PSt} (hp : s.P k = some p) (hx : x < p.n) (hy : y < p.sz) (hp' : s.P k' = some p') (hx' : x' < p'.n) (hy' : y' < p'.sz) (e : adr k x p.sz + y = adr k' x' p'.sz + y') : k = k' ∧ x = x' ∧ y = y' := by
  have h1 := slot_le (h.ar.num hp).m hx
  have h2 := slot_le (h.ar.num hp').m hx'
  unfold adr at e
  have hk : k = k' := by
    generalize x * p.sz = a at *
    generalize x' * p'.sz = a' at *
    omega
  subst hk
  rw [hp] at hp'
  cases hp'
  have e2 : x * p.sz + y = x' * p.sz + y' := by omega
  have d1 := div_slot (s := x) (z := p.sz) (y := y) hy
  have d2 := div_slot (s := x') (z := p.sz) (y := y') hy'
  rw [e2, d2] at d1
  subst d1
  exact ⟨rfl, rfl, by omega⟩
/-- The addresses A are those of all the objects. -/
structure InvA (s : Hs) (A : List Int) : Prop where
  i1 : ∀ ad ∈ A, ∃ k x p, InS s.P ad k x 0 p
  nd : A.Nodup
  tt : tot s.P 8 = A.length
theorem inv_none : InvA Hs.none [] := ⟨fun ad h => (by cases h), List.nodup_nil, tot_none 8⟩
theorem took_ins2 (j m : Nat) (bl : Bool) {c : Int} {k z : Nat} {p : PSt} (hi : Fit s.P c k z p) {ad : Int} {k' x : Nat} {p' : PSt} (h2 : InS s.P ad k' x 0 p') : ∃ q, InS (s.took j m bl k z p).P ad k' x 0 q := by
  by_cases e : k' = k
  · subst e
    have := h2.hp
    rw [hi.hp] at this
    cases this
    exact ⟨⟨p.blk, p.c, up p.U z true, p.M⟩, took_P s j m bl k' z p, h2.hs, by show up p.U z true x = true; unfold up; split; rfl; exact h2.hu, h2.hy, h2.he⟩
  · exact ⟨p', by rw [took_P2 _ _ _ _ _ _ e]; exact h2.hp, h2.hs, h2.hu, h2.hy, h2.he⟩
theorem InvA.took (h : HpAt w B b 8 nf s) {A : List Int} (ha : InvA s A) (j m : Nat) (bl : Bool) {c : Int} {k z : Nat} {p : PSt} (hi : Fit s.P c k z p) : InvA (s.took j m bl k z p) (A ++ [((adr k z p.sz : Nat) : Int)]) := by
  have hz := (h.ar.num hi.hp).s1
  have hk : k < 8 := h.ar.klt hi.hp
  refine ⟨fun ad had => ?_, ?_, ?_⟩
  · rcases List.mem_append.1 had with h1 | h1
    · obtain ⟨k', x, p', h2⟩ := ha.i1 ad h1
      obtain ⟨q, h3⟩ := took_ins2 j m bl hi h2
      exact ⟨k', x, q, h3⟩
    · simp at h1
      subst h1
      exact ⟨k, z, _, took_ins j m bl hi (by omega)⟩
  · rw [List.nodup_append]
    refine ⟨ha.nd, by simp, fun a ha' b' hb' e => ?_⟩
    simp at hb'
    obtain ⟨k', x, p', h2⟩ := ha.i1 a ha'
    have he := h2.he
    rw [e, hb'] at he
    obtain ⟨rfl, rfl, _⟩ := plc_unique h hi.hp hi.hz (y := 0) (by omega) h2.hp h2.hs (y' := 0) h2.hy (by omega)
    have h3 := h2.hp
    rw [hi.hp] at h3
    cases h3
    have := h2.hu
    rw [hi.hu] at this
    cases this
  · have h1 := tot_up s.P k (some ⟨p.blk, p.c, up p.U z true, p.M⟩) 8 hk
    rw [hi.hp] at h1
    have h2 : cntO (some ⟨p.blk, p.c, up p.U z true, p.M⟩) = cnt p.U p.n + 1 := cnt_up p.U z hi.hu p.n hi.hz
    have h3 : cntO (some p) = cnt p.U p.n := rfl
    have h4 := ha.tt
    show tot (upP s.P k (some ⟨p.blk, p.c, up p.U z true, p.M⟩)) 8 = _
    rw [List.length_append]
    simp only [List.length_singleton]
    omega
theorem InvA.fresh {A : List Int} (ha : InvA s A) {k pb : Nat} {c : Int} (hk : k < 8) (hp : s.P k = none) : InvA { s with P := upP s.P k (some ⟨pb, c, f0, f0⟩) } A := by
  refine ⟨fun ad had => ?_, ha.nd, ?_⟩
  · obtain ⟨k', x, p', h2⟩ := ha.i1 ad had
    have e : k' ≠ k := by intro e; have := h2.hp; rw [e, hp] at this; cases this
    exact ⟨k', x, p', (upP_other _ _ e).trans h2.hp, h2.hs, h2.hu, h2.hy, h2.he⟩
  · have h1 := tot_up s.P k (some ⟨pb, c, f0, f0⟩) 8 hk
    rw [hp] at h1
    have h2 : cntO (some ⟨pb, c, f0, f0⟩) = 0 := cnt_none _ _ (fun _ _ => rfl)
    have h3 : cntO none = 0 := rfl
    have h4 := ha.tt
    show tot (upP s.P k (some ⟨pb, c, f0, f0⟩)) 8 = _
    omega
/-- All objects are White: as many White ones as there are. -/
theorem white_all (h : HpAt w B b n nf s) (hw : ∀ k x o, s.O k x = some o → o.co = 0) : ∀ m, wtot s m = tot s.P m
  | 0 => rfl
  | m + 1 => by
    show wtot s m + whP s m = tot s.P m + cntO (s.P m)
    rw [white_all h hw m]
    unfold whP
    cases e : s.P m with
    | none => rfl
    | some p =>
      show tot s.P m + cnt (whiteB s m) p.n = tot s.P m + cnt p.U p.n
      rw [cnt_congr (whiteB s m) p.U p.n (fun x hx => ?_)]
      cases hU : p.U x with
      | false => rw [whiteB, h.free_slot e hU]
      | true =>
        obtain ⟨o, ho⟩ := Option.isSome_iff_exists.1 ((h.use m x).2 ⟨p, e, hx, hU⟩)
        simp [whiteB, ho, hw m x o ho]
theorem wtot_other {s' : Hs} {k : Nat} (hP : s'.P = s.P) (hO : ∀ k', k' ≠ k → ∀ x, s'.O k' x = s.O k' x) : ∀ m, m ≤ k → wtot s' m = wtot s m
  | 0, _ => rfl
  | m + 1, hm => by
    show wtot s' m + whP s' m = wtot s m + whP s m
    have e : whiteB s' m = whiteB s m := by funext x; simp only [whiteB, hO m (by omega) x]
    rw [wtot_other hP hO m (by omega)]
    simp only [whP, hP, e]
/-- One White object turns Grey: one White one less. -/
theorem wtot_shade {k x : Nat} {p : PSt} {o o' : Ob} (hp : s.P k = some p) (hx : x < p.n) (ho : s.O k x = some o) (hc : o.co = 0) (hc' : o'.co ≠ 0) : ∀ m, k < m → wtot { s with O := upO s.O k x (some o') } m + 1 = wtot s m
  | 0, h => by omega
  | m + 1, h => by
    show wtot { s with O := upO s.O k x (some o') } m + whP { s with O := upO s.O k x (some o') } m + 1 = wtot s m + whP s m
    by_cases e : k = m
    · subst e
      rw [wtot_other (s := s) (s' := { s with O := upO s.O k x (some o') }) (k := k) rfl (fun k' hk' y => upO_other _ _ (by omega)) k (Nat.le_refl _)]
      have e1 : whiteB s k = up (whiteB { s with O := upO s.O k x (some o') } k) x true := by
        funext y
        by_cases ey : y = x
        · subst ey; simp [up, whiteB, ho, hc]
        · simp only [up, ey, if_false, whiteB]
          rw [upO_other _ _ (by omega)]
      have e2 : whiteB { s with O := upO s.O k x (some o') } k x = false := by simp [whiteB, upO_same, hc']
      have e3 := cnt_up _ x e2 p.n hx
      rw [← e1] at e3
      simp only [whP, hp]
      omega
    · have h1 := wtot_shade hp hx ho hc hc' m (by omega)
      have e1 : whiteB { s with O := upO s.O k x (some o') } m = whiteB s m := by
        funext y
        simp only [whiteB]
        rw [upO_other _ _ (by omega)]
      have e2 : whP { s with O := upO s.O k x (some o') } m = whP s m := by simp only [whP, e1]
      omega
end

/-! ### the map of what stays -/
theorem Tryd.zeroBool (w : World) : (zeroValue 4).run Tryd.prog w = .ok (.bool false) w := by kernel_rfl
theorem Tryd.underIB : Tryd.prog.underlying 36 = some (.map 3 4) := by kernel_rfl
def MbAt (w : World) (b : Nat) (T : List Int) : Prop :=
  ∃ D, w.ownsMap Tryd.prog 3 heldElem b T.length D ∧ Maps.size D = T.length ∧ ∀ x : Int, Maps.has D (.int .i64 x) = decide (x ∈ T) ∧ D.atKey (.int .i64 x) (.held (.bool false)) = .held (.bool (decide (x ∈ T)))
section
variable {w : World} {b : Nat} {T : List Int}
theorem MbAt.lt (h : MbAt w b T) : b < w.heap.size := by
  obtain ⟨D, h1, _⟩ := h
  exact h1.lt
theorem MbAt.of_block {w' : World} (h : MbAt w b T) (e : w'.heap[b]? = w.heap[b]?) : MbAt w' b T := by
  obtain ⟨D, ⟨es, clock, hb, r⟩, h2⟩ := h
  exact ⟨D, ⟨es, clock, e.trans hb, r⟩, h2⟩
theorem MbAt.is_map (h : MbAt w b T) : ∃ es clock, w.heap[b]? = some (.map es clock) := by
  obtain ⟨D, ⟨es, clock, hb, r⟩, h2⟩ := h
  exact ⟨es, clock, hb⟩
theorem mb_made (w : World) : MbAt (w.alloc (.map #[] 0)) w.heap.size [] :=
  ⟨_, World.ownsMap_made w Tryd.prog 3 heldElem, rfl, fun _ => ⟨rfl, rfl⟩⟩
theorem MbAt.look (h : MbAt w b T) {x : Int} (hx : (Lit.int .i64 x).wf = true) :
    (Instr.lookup 36 (.map (some b)) (.int .i64 x) false).run Tryd.prog w = .ok (.bool (decide (x ∈ T))) w := by
  obtain ⟨D, h1, _, h2⟩ := h
  obtain ⟨h3, h4⟩ := h2 x
  obtain ⟨v', ps', hrun', hv'⟩ := h1.lookup Tryd.lawInt Tryd.underIB (Tryd.zeroBool w) (zd := .held (.bool false)) (zp := []) rfl (keyOf_int_mk Tryd.underlying3 hx)
  rw [h4] at hv'
  simp [heldElem] at hv'
  rw [hrun', hv'.1]
theorem MbAt.len (h : MbAt w b T) (ty : TypeId) : (Builtin.len_ #[36] ty #[.map (some b)]).run Tryd.prog w = .ok (.int .i64 (T.length : Int)) w := by
  obtain ⟨D, h1, h2, _⟩ := h
  rw [h1.len Tryd.underIB ty, h2]
theorem MbAt.store (h : MbAt w b T) {x : Int} (hx : (Lit.int .i64 x).wf = true) (hn : T.length ≤ 1000) :
    ∃ w', (Instr.mapUpdate 36 (.map (some b)) (.int .i64 x) (.bool true)).run Tryd.prog w = .ok () w' ∧ MbAt w' b (if x ∈ T then T else T ++ [x]) ∧ But b w w' := by
  obtain ⟨D, h1, h0, h2⟩ := h
  obtain ⟨w', hrun, hown, ht⟩ := h1.store Tryd.lawInt Tryd.underIB (by unfold maxLen; omega) (val := .bool true) (d := .held (.bool true)) (ps := []) (keyOf_int_mk Tryd.underlying3 hx) rfl
  have hg := ht.grown
  have hsz : Maps.size (D.put (.int .i64 x) (.held (.bool true))) = (if x ∈ T then T else T ++ [x]).length := by
    rw [size_put (h1.tidy Tryd.lawInt), (h2 x).1, h0]
    by_cases e : x ∈ T <;> simp [e]
  have hex : w'.ownsMap Tryd.prog 3 heldElem b (Maps.size (D.put (.int .i64 x) (.held (.bool true)))) (D.put (.int .i64 x) (.held (.bool true))) := by
    obtain ⟨es, clock, hb, F, hs, e⟩ := hown
    refine ⟨es, clock, hb, F, ?_, e⟩
    rw [e]
    simp [Maps.size, length_sorted]
  refine ⟨w', hrun, ⟨_, by rw [← hsz]; exact hex, hsz, fun y => ?_⟩, ⟨hg.os, hg.tape, hg.output, hg.size, fun i hi hne => hg.block i hi (by simpa using hne)⟩⟩
  by_cases e : y = x
  · subst e
    have hm : y ∈ (if y ∈ T then T else T ++ [y]) := by by_cases e : y ∈ T <;> simp [e]
    rw [has_put_same (k := .int .i64 y) h1.isMap (by trivial), atKey_put_same (k := .int .i64 y) h1.isMap (by trivial)]
    simp [hm]
  · have hm : (y ∈ (if x ∈ T then T else T ++ [x])) ↔ y ∈ T := by by_cases e2 : x ∈ T <;> simp [e2, e]
    rw [has_put_other (by simpa using e), atKey_put_other (by simpa using e), (h2 y).1, (h2 y).2]
    simp [hm]
end

/-! ### the Heap beside what a law keeps -/
/-- The Heap's own blocks lie below S. -/
structure Low (b : Hb) (S : Nat) : Prop where
  bh : b.bh < S
  ba : b.ba < S
  bp : b.bp < S
  bw : b.bw < S
  bm : b.bm < S
  vf : ∀ x, b.vf.ownBlock = some x → x < S
section
variable {w : World} {B : Nat} {b : Hb} {n : Nat} {nf : List Int} {s : Hs}
theorem HpAt.low (h : HpAt w B b n nf s) : Low b w.heap.size := ⟨h.hd.lt, h.ar.hd.lt, h.ar.pr.lt, h.ar.wo.lt, h.mp.lt, fun x hx => (h.fs.lt x hx).2⟩
theorem HpAt.stays (h : HpAt w B b n nf s) {S : Nat} (hl : Low b S) {w' : World} (h1 : ∀ i, i < w.heap.size → i < S → w'.heap[i]? = w.heap[i]?) (h2 : ∀ i m f, w.rowIs i 81 m f → w'.heap[i]? = w.heap[i]?) : HpAt w' B b n nf s := by
  have hfs : w'.ownsRow B 3 1 b.vf nf.length (nf.map (Value.int .i64)) := by
    obtain ⟨g1, g2⟩ := h.fs
    refine ⟨g1, ?_⟩
    rcases g2 with g2 | ⟨g3, cap, cur, hv, hg, hh, r2⟩
    · exact Or.inl g2
    · exact Or.inr ⟨g3, cap, cur, hv, hg, (h1 g3 (Array.getElem?_eq_some_iff.1 hh).1 (hl.vf g3 (by rw [hv]; rfl))).trans hh, r2⟩
  have har : ArAt w' B b.ba b.bp b.bw n s.P s.W := ⟨h.ar.hd.of_block (h1 _ h.ar.hd.lt hl.ba), h.ar.pr.of_block (h1 _ h.ar.pr.lt hl.bp), h.ar.wo.of_block (h1 _ h.ar.wo.lt hl.bw), fun k p e => (h.ar.pg k p e).row ((h.ar.pg k p e).hd.of_block (h2 _ _ _ (h.ar.pg k p e).hd)), h.ar.ap, h.ar.out, h.ar.n64, h.ar.b0, h.ar.b1, h.ar.b2, h.ar.b3⟩
  exact ⟨h.hd.of_block (h1 _ h.hd.lt hl.bh), har, hfs, h.mp.of_block (h1 _ h.mp.lt hl.bm), h.fw, h.use, h.fit, h.small, h.few, h.bB, h.mB, h.ser9, h.giv9⟩
theorem HpAt.grown (h : HpAt w B b n nf s) {S : Nat} (hl : Low b S) {o : Obj} {v : Value} {m : Nat} {xs : List Value} {w8 : World} (ho : w.ownsRow S 3 1 v m xs) (hg : (w.alloc o).grownBy w8 v.ownBlock) : HpAt w8 B b n nf s := by
  have key : ∀ i, i < w.heap.size → v.ownBlock ≠ some i → w8.heap[i]? = w.heap[i]? := fun i hi hne => by
    have e1 : w8.heap[i]? = (w.alloc o).heap[i]? := hg.block i (by simp; omega) (fun e => hne e.symm)
    exact e1.trans (((Below.refl _ w).alloc (Nat.le_refl _) o).block i hi)
  refine h.stays hl (fun i hi hS => key i hi (fun e => by have := (ho.lt i e).1; omega)) (fun i m' f r => key i r.lt (fun e => ?_))
  rcases ho.2 with ⟨e2, _⟩ | ⟨g2, cap2, cur2, e2, _, hh2, _⟩
  · rw [e2] at e; simp [Value.ownBlock] at e
  · rw [e2] at e
    simp [Value.ownBlock] at e
    subst e
    obtain ⟨c, hc, _⟩ := r
    rw [hh2] at hc
    cases hc
theorem HpAt.mapped (h : HpAt w B b n nf s) {S sb : Nat} (hl : Low b S) (hS : S ≤ sb) {T : List Int} (hm : MbAt w sb T) {w' : World} (hb : But sb w w') : HpAt w' B b n nf s := by
  refine h.stays hl (fun i hi hi2 => hb.block i hi (by omega)) (fun i m' f r => hb.block i r.lt (fun e => ?_))
  obtain ⟨es, clock, hh⟩ := hm.is_map
  obtain ⟨c, hc, _⟩ := r
  rw [e, hh] at hc
  cases hc
/-- What a call on the Heap leaves of what lies from S on. -/
theorem Hf.mb {w' : World} (hf : Hf B b w w') {S sb : Nat} (hl : Low b S) (hS : S ≤ sb) {T : List Int} (hm : MbAt w sb T) : MbAt w' sb T := by
  refine hm.of_block (hf.block sb hm.lt ?_ (Or.inr fun cs t fz hc => ?_))
  · have := hl.bh; have := hl.bm; have := hl.bp; have := hl.bw
    simp
    omega
  · obtain ⟨es, clock, hh⟩ := hm.is_map
    rw [hh] at hc
    cases hc
theorem Hf.list {w' : World} (hf : Hf B b w w') {S : Nat} (hl : Low b S) {v : Value} {m : Nat} {xs : List Value} (ho : w.ownsRow S 3 1 v m xs) : w'.ownsRow S 3 1 v m xs := by
  refine hf.own ho (fun x hx => ?_) (by decide)
  have := (ho.lt x hx).1
  have := hl.bh; have := hl.bm; have := hl.bp; have := hl.bw
  simp
  omega
end

end Go.Proofs.YtfkimmbnmcgjiaaDoor
/- The walks of the Heap's Greys (where there is none) and Objects (how many there are). -/
namespace Go.Proofs.YtfkimmbnmcgjiaaDoor
open Go.RowKit

theorem pl1_mem {k : Nat} {p : PSt} {ad : Int} (h : ad ∈ pl1 k (some p)) : ∃ x, x < p.n ∧ p.U x = true ∧ ad = ((adr k x p.sz : Nat) : Int) := by
  have h' : ad ∈ (els p.U p.n).map (adI k p.sz) := h
  obtain ⟨y, hy, rfl⟩ := List.mem_map.1 h'
  obtain ⟨m, h1, rfl, h2⟩ := els_mem p.U p.n y hy
  refine ⟨m, h1, h2, ?_⟩
  unfold adI adr
  simp
theorem allL_mem {P : Nat → Option PSt} {ad : Int} : ∀ {n : Nat}, ad ∈ allL P n → ∃ k x p, k < n ∧ P k = some p ∧ x < p.n ∧ p.U x = true ∧ ad = ((adr k x p.sz : Nat) : Int)
  | 0, h => by cases h
  | n + 1, h => by
    have h' : ad ∈ allL P n ++ pl1 n (P n) := h
    rcases List.mem_append.1 h' with h1 | h1
    · obtain ⟨k, x, p, h2, h3⟩ := allL_mem h1
      exact ⟨k, x, p, by omega, h3⟩
    · cases e : P n with
      | none => rw [e] at h1; cases h1
      | some p =>
        rw [e] at h1
        obtain ⟨x, h2, h3, h4⟩ := pl1_mem h1
        exact ⟨n, x, p, by omega, e, h2, h3, h4⟩
theorem allL_tot (P : Nat → Option PSt) : ∀ n, (allL P n).length = tot P n
  | 0 => rfl
  | n + 1 => by
    show (allL P n ++ pl1 n (P n)).length = tot P n + cntO (P n)
    rw [List.length_append, allL_tot P n]
    cases P n with
    | none => rfl
    | some p =>
      show _ + ((els p.U p.n).map _).length = _
      rw [List.length_map, els_len]
      rfl
theorem HpAt.all_ins {w : World} {B : Nat} {b : Hb} {n : Nat} {nf : List Int} {s : Hs} (h : HpAt w B b n nf s) {i : Nat} (hi : i < (allL s.P n).length) : ∃ k x p o, InS s.P ((allL s.P n).getD i 0) k x 0 p ∧ s.O k x = some o ∧ I64 ((allL s.P n).getD i 0) := by
  have hm : (allL s.P n).getD i 0 ∈ allL s.P n := by rw [List.getD, List.getElem?_eq_getElem hi]; exact List.getElem_mem hi
  obtain ⟨k, x, p, _, h1, h2, h3, h4⟩ := allL_mem hm
  have h5 : InS s.P ((allL s.P n).getD i 0) k x 0 p := ⟨h1, h2, h3, (h.ar.num h1).s1, h4⟩
  obtain ⟨o, ho⟩ := h.some_ob h5
  have := ins_small h h5
  exact ⟨k, x, p, o, h5, ho, by constructor <;> omega⟩

section
variable {w : World} {B : Nat} {b : Hb} {n : Nat} {nf : List Int} {s : Hs}
set_option maxRecDepth 100000 in
set_option maxHeartbeats 2000000 in
theorem greys_none (h : HpAt w B b n nf s) (hw : ∀ k x o, s.O k x = some o → o.co ≠ 1) : Calls Tryd.prog 15 #[.pointer (some ⟨b.bh, 0, none⟩)] w fun e w' => e = .returned (.slice none 0 0) ∧ Below w.heap.size w w' := by
  have hc0 := h.c0
  have H : Hid (HpAt w B b n nf s) := h
  have HW : Hid (∀ k x o, s.O k x = some o → o.co ≠ 1) := hw
  have hlm : (allL s.P n).length ≤ 2048 := by
    have := allL_len s.P (fun k p e => (h.ar.num e).n32) n
    have := h.ar.n64
    omega
  clear h hw
  go_enter Tryd.func15, Tryd.ntmps15
  go_wp2_with fail
  refine (aall_any _ H.out.ar).mono ?_
  rintro e w1 ⟨r, rfl, hor, hB1⟩
  obtain ⟨ar, cr, rfl⟩ := own_len hor
  have HO1 : Hid (SrcAt w1 (.slice ar (allL s.P n).length cr) (allL s.P n) ∧ Below w.heap.size w w1) := ⟨src_of_own hor, hB1⟩
  have HI : Hid (∀ i, i < (allL s.P n).length → ∃ k x p o, InS s.P ((allL s.P n).getD i 0) k x 0 p ∧ s.O k x = some o ∧ I64 ((allL s.P n).getD i 0)) := fun i hi => H.out.all_ins hi
  clear hor hB1 hc0
  generalize allL s.P n = R at *
  go_wp2_with fail
  go_loopw [3, 14] (fun lv iv wr => ∃ i : Nat, i ≤ R.length ∧ iv = .int .i64 i ∧ lv = .slice none 0 0 ∧ Hid (Below w1.heap.size w1 wr)) (fun _ iv _ => R.length - (intOf iv).toNat)
  case atStart => exact ⟨0, Nat.zero_le _, rfl, rfl, Below.refl _ _⟩
  case round =>
    obtain ⟨i, hi, rfl, rfl, HR⟩ := hrel
    by_cases hlt : i < R.length
    · rcases HO1.out.1 with ⟨e, _⟩ | ⟨gl, off, cc, e, hgl, hcl0⟩
      · exfalso
        rw [e] at hlt
        simp at hlt
      cases e
      obtain ⟨k, x, p, o, h1, h2, h3⟩ := HI.out i hlt
      obtain ⟨ad, had⟩ : ∃ ad, R.getD i 0 = ad := ⟨_, rfl⟩
      have hcl : wr.cell? ⟨gl, off + i, none⟩ = some (.int .i64 ad) := by
        rw [← had]
        exact (HR.out.cell (p := ⟨gl, off + i, none⟩) hgl).trans (hcl0 i hlt)
      rw [had] at h1 h3
      have HI1 : Hid (InS s.P ad k x 0 p ∧ s.O k x = some o ∧ I64 ad) := ⟨h1, h2, h3⟩
      have hco := HW.out k x o h2
      have HH : Hid (HpAt wr B b n nf s) := H.out.below (HO1.out.2.trans (HR.out.mono HO1.out.2.size))
      clear hcl0 had h1 h2 h3
      go_wp2_with fail
      refine (color_yes HH.out HI1.out.2.2 HI1.out.1 HI1.out.2.1).mono ?_
      rintro e w5 ⟨rfl, hB⟩
      have H5 : Hid (Below w1.heap.size w1 w5) := HR.out.trans (hB.mono HR.out.size)
      clear hB
      generalize o.co = oc at *
      go_wp2_with fail
      go_roundw
      case rel => exact ⟨i + 1, by omega, by go_num, rfl, H5⟩
      case measure => simp [intOf]; omega
    · go_wp2_with fail
      go_ret
      exact ⟨rfl, HO1.out.2.trans (HR.out.mono HO1.out.2.size)⟩

theorem Tryd.infoObject : (Tryd.prog.info? 44).map (fun i => (i.zero, i.size, i.bytes)) = some (some (.agg #[.int .i64 0, .int .i64 0, .int .i64 0, .slice none 0 0, .bool false]), 5, 56) := by kernel_rfl
theorem Tryd.underObjects : Tryd.prog.underlying 37 = some (.slice 44) := by kernel_rfl
theorem new_five (w : World) (a b c d e : Value) (t : TypeId) : ∀ j u, [a, b, c, d, e][j]? = some u → (w.alloc (.cells #[a, b, c, d, e] t)).cell? ((⟨w.heap.size, 0, none⟩ : Addr).add j) = some u := by
  intro j u hj
  match j, hj with
  | 0, hj => simp at hj; subst hj; simp [Addr.add]
  | 1, hj => simp at hj; subst hj; simp [Addr.add]
  | 2, hj => simp at hj; subst hj; simp [Addr.add]
  | 3, hj => simp at hj; subst hj; simp [Addr.add]
  | 4, hj => simp at hj; subst hj; simp [Addr.add]
theorem five_of (a b c : Int) (g : Option Addr) (m k : Nat) (d : Bool) : ∀ u ∈ [Value.int .i64 a, .int .i64 b, .int .i64 c, .slice g m k, .bool d], u.oneCell' = true := by
  intro u hu
  simp at hu
  rcases hu with rfl | rfl | rfl | rfl | rfl <;> rfl
theorem own_len5 {w : World} {base : Nat} {e : TypeId} {v : Value} {n : Nat} {xs : List Value} (h : w.ownsRow base e 5 v n xs) : ∃ a c, v = .slice a n c := by
  rcases h.2 with ⟨rfl, h0⟩ | ⟨g, cap, cur, rfl, _⟩
  · exact ⟨none, 0, by rw [h0]⟩
  · exact ⟨_, _, rfl⟩

set_option maxRecDepth 100000 in
set_option maxHeartbeats 4000000 in
theorem objects_len (h : HpAt w B b n nf s) : Calls Tryd.prog 14 #[.pointer (some ⟨b.bh, 0, none⟩)] w fun e w' => ∃ a c, e = .returned (.slice a (tot s.P n) c) ∧ Below w.heap.size w w' := by
  obtain ⟨i1, hj, hy0, hy1, hy2⟩ := info_parts Tryd.infoObject
  have hc0 := h.c0
  have H : Hid (HpAt w B b n nf s) := h
  have hlm : (allL s.P n).length ≤ 2048 := by
    have := allL_len s.P (fun k p e => (h.ar.num e).n32) n
    have := h.ar.n64
    omega
  have HTT : Hid (tot s.P n = (allL s.P n).length) := (allL_tot s.P n).symm
  clear h
  go_enter Tryd.func14, Tryd.ntmps14
  go_wp2_with fail
  refine (aall_any _ H.out.ar).mono ?_
  rintro e w1 ⟨r, rfl, hor, hB1⟩
  obtain ⟨ar, cr, rfl⟩ := own_len hor
  have HO1 : Hid (SrcAt w1 (.slice ar (allL s.P n).length cr) (allL s.P n) ∧ Below w.heap.size w w1) := ⟨src_of_own hor, hB1⟩
  have HI : Hid (∀ i, i < (allL s.P n).length → ∃ k x p o, InS s.P ((allL s.P n).getD i 0) k x 0 p ∧ s.O k x = some o ∧ I64 ((allL s.P n).getD i 0)) := fun i hi => H.out.all_ins hi
  clear hor hB1 hc0
  generalize allL s.P n = R at *
  go_wp2_with fail
  go_loopw [3, 16] (fun lv iv wr => ∃ (i : Nat) (xs : List Value), i ≤ R.length ∧ iv = .int .i64 i ∧ Hid (wr.ownsRow w1.heap.size 44 5 lv i xs ∧ Below w1.heap.size w1 wr)) (fun _ iv _ => R.length - (intOf iv).toNat)
  case atStart => exact ⟨0, [], Nat.zero_le _, rfl, World.ownsRow_nil _ _ _ _, Below.refl _ _⟩
  case round =>
    obtain ⟨i, xs, hi, rfl, HR⟩ := hrel
    by_cases hlt : i < R.length
    · rcases HO1.out.1 with ⟨e, _⟩ | ⟨gl, off, cc, e, hgl, hcl0⟩
      · exfalso
        rw [e] at hlt
        simp at hlt
      cases e
      obtain ⟨k, x, p, o, h1, h2, h3⟩ := HI.out i hlt
      obtain ⟨ad, had⟩ : ∃ ad, R.getD i 0 = ad := ⟨_, rfl⟩
      have hcl : wr.cell? ⟨gl, off + i, none⟩ = some (.int .i64 ad) := by
        rw [← had]
        exact (HR.out.2.cell (p := ⟨gl, off + i, none⟩) hgl).trans (hcl0 i hlt)
      rw [had] at h1 h3
      have HI1 : Hid (InS s.P ad k x 0 p ∧ s.O k x = some o ∧ I64 ad) := ⟨h1, h2, h3⟩
      have HH : Hid (HpAt wr B b n nf s) := H.out.below (HO1.out.2.trans (HR.out.2.mono HO1.out.2.size))
      obtain ⟨j, f, hj1, hj2, hj3, hj4, hj5, _⟩ := HH.out.sz_fit h2 h1.hp
      have HJ : Hid (o.sh = (j : Int) ∧ j < nf.length ∧ nf.getD j 0 = (f : Int)) := ⟨hj1, hj2, hj3⟩
      obtain ⟨al, cl, rfl⟩ := own_len5 HR.out.1
      clear hcl0 had h1 h2 h3 hj1 hj2 hj3
      go_wp2_with fail
      refine (object_yes HH.out HI1.out.2.2 HI1.out.1 HI1.out.2.1 HJ.out.1 HJ.out.2.1 HJ.out.2.2).mono ?_
      rintro e w5 ⟨g, rfl, _, _, hB⟩
      unfold objV
      have H5 : Hid (w5.ownsRow w1.heap.size 44 5 (.slice al i cl) i xs ∧ Below w1.heap.size w1 w5) := ⟨(Ty.of_below (K := []) (B := 0) hB).own HR.out.1 (by simp), HR.out.2.trans (hB.mono HR.out.2.size)⟩
      clear hB HR HH hcl
      generalize o.sh = osh at *
      generalize o.se = ose at *
      generalize (!decide (o.co = 0)) = omk at *
      have HK : Hid (i + 1 ≤ maxLen ∧ (i + 1) * 56 ≤ 140737488355328 ∧ ∀ o o', w1.heap.size ≤ ((w5.alloc o).alloc o').heap.size) := ⟨by unfold maxLen; omega, by omega, fun o o' => by have := H5.out.2.size; simp; omega⟩
      go_wp2_with (at_builtin; refine wpList_append_lies _ rfl _ _ 37 rfl w1.heap.size 44 i1 (.agg #[.int .i64 0, .int .i64 0, .int .i64 0, .slice none 0 0, .bool false]) 5 56 Tryd.underObjects hj hy0 hy1 hy2 rfl (by decide) _ _ xs rfl ((H5.out.1.alloc _).alloc _) ⟨w5.heap.size + 1, 0, none⟩ 1 1 [.int .i64 ad, .int .i64 osh, .int .i64 ose, .slice (some ⟨g, 0, none⟩) f f, .bool omk] rfl rfl (by simpa using new_five (w5.alloc (.cells #[.int .i64 ad, .int .i64 osh, .int .i64 ose, .slice (some ⟨g, 0, none⟩) f f, .bool omk] 44)) _ _ _ _ _ 44) (five_of _ _ _ _ _ _ _) (by decide) HK.out.1 HK.out.2.1 (HK.out.2.2 _ _) (w5.heap.size + 2) (by simp) ?_)
      intro g' cap w8 ho8 hgrow hat hlt8
      have hs5 := H5.out.2.size
      have H8 : Hid (w8.ownsRow w1.heap.size 44 5 (.slice (some ⟨g', 0, none⟩) (i + 1) cap) (i + 1) (xs ++ [.int .i64 ad, .int .i64 osh, .int .i64 ose, .slice (some ⟨g, 0, none⟩) f f, .bool omk]) ∧ Below w1.heap.size w1 w8) :=
        ⟨ho8, ((H5.out.2.alloc H5.out.2.size _).alloc (by simp; omega) _).grown hgrow (by simp; omega) (fun k hk => (H5.out.1.lt k hk).1)⟩
      clear ho8 hgrow hat hlt8 hs5
      go_wp2_with fail
      go_roundw
      case rel => exact ⟨i + 1, _, by omega, by go_num, H8⟩
      case measure => simp [intOf]; omega
    · have e : i = R.length := by omega
      obtain ⟨al, cl, rfl⟩ := own_len5 HR.out.1
      have HE : Hid (i = tot s.P n) := by rw [HTT.out]; exact e
      clear e
      go_wp2_with fail
      go_ret
      refine ⟨al, cl, ?_, HO1.out.2.trans (HR.out.2.mono HO1.out.2.size)⟩
      rw [← HE.out]
      rfl
end

end Go.Proofs.YtfkimmbnmcgjiaaDoor

/- PilePlays: what stands in memory; an append of a list that is read; the argument of acts. -/
import Derived.Test.YtckljbjnhgnkgaaPiE
import Derived.Test.YtckljbjnhgnkgaaLsC
import Derived.Deep.RegionLaw
import Derived.Laws.OwnMore
namespace Go.Proofs.Ytckljbjnhgnkgaa
open Go.ChangeShapes Go.WideShapes Go.ChangeAt Go.RowKit

theorem grown_refl (w : World) (o : Option Nat) : w.grownBy w o := ⟨rfl, rfl, rfl, Nat.le_refl _, fun _ _ _ => rfl⟩
/-- APPEND OF THE INTS M, wherever they stand, onto a row that is owned. -/
theorem run_append_src {P : Program} (w : World) (t ty : TypeId) (base : Nat) (e : TypeId) (i : TypeInfo) (ht : P.underlying t = some (.slice e)) (hi : P.info? e = some i) (hz : i.zero = some (.int .i64 0))
    (hsize : i.size = 1) (hby : i.bytes = 8) (v : Value) (n : Nat) (xs : List Value) (hown : w.ownsRow base e 1 v n xs) (sv : Value) (M : List Int) (hs : SrcAt w sv M) (h63 : n + M.length ≤ 100000) (hbase : base ≤ w.heap.size) :
    ∃ v' w', (Builtin.append_ #[t, t] ty #[v, sv]).run P w = .ok v' w' ∧ w'.ownsRow base e 1 v' (n + M.length) (xs ++ M.map (Value.int .i64)) ∧ w.grownBy w' v.ownBlock := by
  rcases hs with ⟨rfl, rfl | ⟨ad, c, rfl⟩⟩ | ⟨b, off, c, rfl, _, h3⟩
  · exact ⟨v, w, run_append_owned_none (P := P) w base t ty e i 1 ht hi v n xs hown, by simpa using hown, grown_refl _ _⟩
  · obtain ⟨v', w', h1, h2, h4, _⟩ := run_append_own (P := P) (w := w) base t ty e i (.int .i64 0) 1 8 ht hi hz hsize hby rfl (by decide) v n xs hown ad 0 c [] rfl (fun j u hj => by simp at hj) (fun u hu => by simp at hu) (by unfold maxLen; omega) (by omega) hbase
    exact ⟨v', w', h1, h2, h4⟩
  · obtain ⟨v', w', h1, h2, h4, _⟩ := run_append_own (P := P) (w := w) base t ty e i (.int .i64 0) 1 8 ht hi hz hsize hby rfl (by decide) v n xs hown ⟨b, off, none⟩ M.length c (M.map (Value.int .i64)) (by simp) (ints_cells h3) (ints_one M) (by unfold maxLen; omega) (by omega) hbase
    exact ⟨v', w', h1, h2, h4⟩
theorem step_append_src {P : Program} {w : World} {ops : Array Oper} {o : Oper} {a : Act} {K : Act → World → Prop} {Q : Exit → Act → World → Prop} {E : Prop} (hgd : o.guard = none) (s x : Operand) (t : TypeId)
    (ho : o.op = .call { callee := .builtin .append, args := #[s, x], argTypes := #[t, t] })
    (base : Nat) (e : TypeId) (i : TypeInfo) (ht : P.underlying t = some (.slice e)) (hi : P.info? e = some i) (hz : i.zero = some (.int .i64 0)) (hsize : i.size = 1) (hby : i.bytes = 8)
    (v : Value) (n : Nat) (xs : List Value) (hs : a.eval s = v) (hown : w.ownsRow base e 1 v n xs) (sv : Value) (M : List Int) (hx : a.eval x = sv) (hsv : SrcAt w sv M) (h63 : n + M.length ≤ 100000) (hbase : base ≤ w.heap.size)
    (h : ∀ v' w', w'.ownsRow base e 1 v' (n + M.length) (xs ++ M.map (Value.int .i64)) → w.grownBy w' v.ownBlock → K (a.put o.dst v') w') :
    if Region.wanted o (yielded ops a.tmps) = true then Oper.wp P o a w K Q else E := by
  have hw : Region.wanted o (yielded ops a.tmps) = true := by simp [Region.wanted, hgd]
  rw [if_pos hw]
  obtain ⟨v', w', hr, h2, h3⟩ := run_append_src (P := P) w t o.type base e i ht hi hz hsize hby v n xs hown sv M hsv h63 hbase
  unfold Oper.wp execOp
  simp only [ho, resolve, invoke, builtin, Sem.run_bind, Sem.run_pure, Result.andThen_ok, List.map_toArray, List.map_cons, List.map_nil, hs, hx, hr]
  exact h v' w' h2 h3

theorem SrcC.take {w : World} {a : Option Addr} {m c k : Nat} {M : List Int} (h : SrcC w (.slice a m c) M) (hk : k ≤ M.length) : SrcAt w (.slice a k c) (M.take k) := by
  rcases h with ⟨rfl, h | ⟨ad, c', h⟩⟩ | ⟨b, off, c', h, _, _, h4, h5⟩
  · cases h
    have : k = 0 := by simpa using hk
    subst this
    exact Or.inl ⟨rfl, Or.inl rfl⟩
  · cases h
    have : k = 0 := by simpa using hk
    subst this
    exact Or.inl ⟨rfl, Or.inr ⟨_, _, rfl⟩⟩
  · cases h
    have hl : (M.take k).length = k := by rw [List.length_take]; omega
    refine Or.inr ⟨b, off, c, by rw [hl], h4, fun j hj => ?_⟩
    rw [hl] at hj
    rw [h5 j (by omega)]
    simp [List.getD, hj]

/-- THE ACTS, as they stand in memory: a kind, and a slice of ints. -/
abbrev Act8 := Int × (Option Addr × Nat) × List Int
def Acts8 (w : World) (bl off : Nat) (ops : List Act8) : Prop :=
  ∀ (j : Nat) (o : Act8), ops[j]? = some o → w.cell? ⟨bl, off + j * 2, none⟩ = some (.int .i64 o.1) ∧ w.cell? ⟨bl, off + j * 2 + 1, none⟩ = some (.slice o.2.1.1 o.2.2.length o.2.1.2) ∧ SrcC w (.slice o.2.1.1 o.2.2.length o.2.1.2) o.2.2

theorem Try.cells28 : Try.prog.cellsOf 28 = 2 := by kernel_rfl
theorem Try.cells26 : Try.prog.cellsOf 26 = 1 := by kernel_rfl

set_option maxRecDepth 100000 in
theorem acts_arg {H : Type} {enc : TypeId × Value → H} {W : World} {base : Nat} {v : Value} {d : DataW H} {p : List MemPlace} (h : DataW.Trod enc Try.prog W 0 (fun _ => true) true 22 v d p)
    (hv : Value.okWide Try.prog W .any base 22 v) : ∃ (ops : List Act8) (a : Option Addr) (c : Nat), v = .slice a ops.length c ∧ (ops = [] ∨ ∃ bl off, a = some ⟨bl, off, none⟩ ∧ bl < W.heap.size ∧ Acts8 W bl off ops) := by
  obtain ⟨a0, len, cap, rfl⟩ := okWide_slice Try.underlying22 hv
  obtain ⟨fuel, hf⟩ := h
  rcases Deep.open_slice Try.underlying22 hf with ⟨hcs, _⟩ | ⟨a, len', cap', m, n, D, Pl, hcs, _, hl, hm, hmm, _, hel⟩
  · simp only [Value.cells] at hcs
    simp at hcs
    obtain ⟨rfl, rfl, rfl⟩ := hcs
    exact ⟨[], none, 0, rfl, Or.inl rfl⟩
  · simp only [Value.cells] at hcs
    simp at hcs
    obtain ⟨rfl, rfl, rfl⟩ := hcs
    simp at hmm
    rw [Try.cells28] at hel
    have each : ∀ i, i < len → ∃ o : Act8, W.cell? ((a.add (i * 2)).add 0) = some (.int .i64 o.1) ∧ W.cell? ((a.add (i * 2)).add 1) = some (.slice o.2.1.1 o.2.2.length o.2.1.2) ∧ SrcC W (.slice o.2.1.1 o.2.2.length o.2.1.2) o.2.2 := by
      intro i hi
      obtain ⟨cs', h1, h2⟩ := hel i (by omega)
      obtain ⟨_, hlen', hcell⟩ := World.cells?_some h1
      obtain ⟨y0, y1, n', _, _, g0, g1⟩ := trod_struct2 Try.underlying28 h2
      match cs', hlen' with
      | [c0, c1], _ =>
        have g0' : DataW.trod enc Try.prog W 0 (fun _ => true) true n' 3 [c0] = some y0 := by simpa [Try.cells3] using g0
        have g1' : DataW.trod enc Try.prog W 0 (fun _ => true) true n' 26 [c1] = some y1 := by simpa [Try.cells26] using g1
        obtain ⟨kd, e0, _, _⟩ := DataW.trod_int Try.underlying3 g0'
        obtain ⟨L, v, e1, _, hs⟩ := ints_ofC g1'
        obtain ⟨sa, sc, rfl⟩ := hs.len
        simp at e0 e1
        subst e0 e1
        exact ⟨(kd, (sa, sc), L), by simpa using hcell 0 (by decide), by simpa using hcell 1 (by decide), hs⟩
    obtain ⟨f, hf'⟩ := Deep.choose_lt each
    refine ⟨(List.range len).map f, some a, cap, by simp, ?_⟩
    by_cases h0 : len = 0
    · subst h0
      exact Or.inl (by simp)
    · have hc0 := cell_lt (hf' 0 (by omega)).1
      obtain ⟨ab, ao, sp⟩ := a
      have hsp : sp = none := by simpa [Addr.add] using hc0.2
      subst hsp
      refine Or.inr ⟨ab, ao, rfl, by simpa [Addr.add] using hc0.1, fun j o hj => ?_⟩
      have hjl : j < len := by
        have := (List.getElem?_eq_some_iff.1 hj).1
        simpa using this
      have e : f j = o := by
        simp [hjl] at hj
        exact hj
      subst e
      obtain ⟨k1, k2, k3⟩ := hf' j hjl
      rw [Go.WideShapes.add_plain, Go.WideShapes.add_plain] at k1 k2
      exact ⟨k1, k2, k3⟩

/-- PilePlays' MEMORY: the Pile (L is in it), what it must have (H), the list that was lent (M). -/
structure Py (w wr : World) (b R : Nat) (L H : List Int) (l : Bool) (hv : Value) (g cap : Nat) (M : List Int) : Prop where
  p : ∃ v, PiAt wr w.heap.size b v R L l
  h : wr.ownsRow w.heap.size 3 1 hv H.length (H.map (Value.int .i64))
  m : wr.ownsRow w.heap.size 3 1 (.slice (some ⟨g, 0, none⟩) (M.length + 1) cap) (M.length + 1) ((M ++ [-77]).map (Value.int .i64))
  lo : Below w.heap.size w wr
/-- The same without a list that was lent. -/
structure Pz (w wr : World) (b R : Nat) (L H : List Int) (l : Bool) (hv : Value) : Prop where
  p : ∃ v, PiAt wr w.heap.size b v R L l
  h : wr.ownsRow w.heap.size 3 1 hv H.length (H.map (Value.int .i64))
  lo : Below w.heap.size w wr

section
variable {w wr w' : World} {b R : Nat} {L H : List Int} {l : Bool} {hv : Value} {g cap : Nat} {M : List Int}
theorem Pz.below (h : Pz w wr b R L H l hv) (hB : Below wr.heap.size wr w') : Pz w w' b R L H l hv := by
  obtain ⟨v, hp⟩ := h.p
  exact ⟨⟨v, hp.below hB⟩, (Ty.of_below (K := []) (B := 0) hB).own h.h (by simp), h.lo.trans (hB.mono h.lo.size)⟩
theorem Pz.lent (h : Pz w wr b R L H l hv) (hm : w'.ownsRow wr.heap.size 3 1 (.slice (some ⟨g, 0, none⟩) (M.length + 1) cap) (M.length + 1) ((M ++ [-77]).map (Value.int .i64))) (hB : Below wr.heap.size wr w') : Py w w' b R L H l hv g cap M :=
  ⟨(h.below hB).p, (h.below hB).h, own_base hm h.lo.size, (h.below hB).lo⟩
theorem Py.z (h : Py w wr b R L H l hv g cap M) : Pz w wr b R L H l hv := ⟨h.p, h.h, h.lo⟩
theorem Py.below (h : Py w wr b R L H l hv g cap M) (hB : Below wr.heap.size wr w') : Py w w' b R L H l hv g cap M :=
  ⟨(h.z.below hB).p, (h.z.below hB).h, (Ty.of_below (K := []) (B := 0) hB).own h.m (by simp), (h.z.below hB).lo⟩
theorem Py.drewN (h : Py w wr b R L H l hv g cap M) (q : Nat) : Py w (wr.drewN q) b R L H l hv g cap M := by
  obtain ⟨v, hp⟩ := h.p
  exact ⟨⟨v, hp.drewN q⟩, h.h, h.m, ⟨h.lo.os, h.lo.tape, h.lo.output, h.lo.size, h.lo.block⟩⟩
theorem Pz.drewN (h : Pz w wr b R L H l hv) (q : Nat) : Pz w (wr.drewN q) b R L H l hv := by
  obtain ⟨v, hp⟩ := h.p
  exact ⟨⟨v, hp.drewN q⟩, h.h, ⟨h.lo.os, h.lo.tape, h.lo.output, h.lo.size, h.lo.block⟩⟩
theorem Py.to {v v' : Value} {L' : List Int} {l' : Bool} (h : Py w wr b R L H l hv g cap M) (hp : PiAt wr w.heap.size b v R L l) (hp' : PiAt w' w.heap.size b v' R L' l') (hf : Pf b v.ownBlock wr w') : Py w w' b R L' H l' hv g cap M :=
  ⟨⟨v', hp'⟩, (hp.ty hf).own h.h (by decide), (hp.ty hf).own h.m (by decide), h.lo.trans (hf.below hp.bB hp.own h.lo.size)⟩
/-- The list that was lent, as it is. -/
theorem own_lent (h : wr.ownsRow w.heap.size 3 1 (.slice (some ⟨g, 0, none⟩) (M.length + 1) cap) (M.length + 1) ((M ++ [-77]).map (Value.int .i64))) : SrcC wr (.slice (some ⟨g, 0, none⟩) M.length cap) M := by
  rw [List.map_append] at h
  exact SrcC.of_own (own_prefix (n := M.length) (m := 1) h (by simp))
theorem py_put {K mm : Nat} (h : Py w wr b R L H l hv g cap M) (hm : M.length = mm) (hK : min mm (R - L.length) = K) :
    Calls Try.prog 9 #[.pointer (some ⟨b, 0, none⟩), .slice (some ⟨g, 0, none⟩) mm cap] wr fun e w' => e = .returned (.int .i64 (K : Int)) ∧ Py w w' b R (L ++ M.take K) H (l || decide (K < mm)) hv g cap M := by
  subst hm
  obtain ⟨v, hp⟩ := h.p
  refine (put_any wr hp h.lo.size (fun w' hf => own_lent ((hp.ty hf).own h.m (by decide))) hK).mono ?_
  rintro e w' ⟨rfl, v', gg⟩
  exact ⟨rfl, h.to hp gg.at_ gg.fr⟩
theorem Py.le (h : Py w wr b R L H l hv g cap M) : L.length ≤ R := by
  obtain ⟨v, hp⟩ := h.p
  exact hp.le
theorem py_stays {mm : Nat} {sa : Option Addr} {sc : Nat} (h : Py w wr b R L H l hv g cap M) (hm : M.length = mm) (hle : mm ≤ 40) (hs : SrcC w (.slice sa M.length sc) M) :
    Calls Try.prog 15 #[.slice (some ⟨g, 0, none⟩) mm cap, .slice sa mm sc] wr fun e w' => e = .returned (.bool true) ∧ ∃ q, w' = wr.drewN q := by
  subst hm
  exact stays_any M _ g cap w.heap.size wr (by omega) h.m (hs.below h.lo).src
theorem py_clear (h : Py w wr b R L H l hv g cap M) : Calls Try.prog 12 #[.pointer (some ⟨b, 0, none⟩)] wr fun e w' => e = .returned (.tuple #[]) ∧ Py w w' b R [] H false hv g cap M := by
  obtain ⟨v, hp⟩ := h.p
  refine (clear_any _ hp).mono ?_
  rintro e w' ⟨rfl, gg, hf⟩
  exact ⟨rfl, h.to hp gg hf⟩
theorem py_found (h : Py w wr b R L H l hv g cap M) : Calls Try.prog 11 #[.pointer (some ⟨b, 0, none⟩)] wr fun e w' => e = .returned (.tuple #[]) ∧ Py w w' b R L H false hv g cap M := by
  obtain ⟨v, hp⟩ := h.p
  refine (found_any _ hp).mono ?_
  rintro e w' ⟨rfl, gg, hf⟩
  exact ⟨rfl, h.to hp gg hf⟩
theorem py_take {x : Int} (h : Py w wr b R (L ++ [x]) H l hv g cap M) : Calls Try.prog 10 #[.pointer (some ⟨b, 0, none⟩)] wr fun e w' => e = .returned (.tuple #[.int .i64 x, .bool true]) ∧ Py w w' b R L H l hv g cap M := by
  obtain ⟨v, hp⟩ := h.p
  refine (ptake_some _ hp).mono ?_
  rintro e w' ⟨rfl, v', gg, hf, ho⟩
  exact ⟨rfl, h.to hp gg hf⟩
theorem py_none (h : Py w wr b R [] H l hv g cap M) : Calls Try.prog 10 #[.pointer (some ⟨b, 0, none⟩)] wr fun e w' => e = .returned (.tuple #[.int .i64 0, .bool false]) ∧ w' = wr := by
  obtain ⟨v, hp⟩ := h.p
  exact ptake_none _ hp
theorem py_len (h : Py w wr b R L H l hv g cap M) : Calls Try.prog 13 #[.pointer (some ⟨b, 0, none⟩)] wr fun e w' => e = .returned (.int .i64 (L.length : Int)) ∧ w' = wr := by
  obtain ⟨v, hp⟩ := h.p
  exact plen_any _ hp
theorem py_lost (h : Py w wr b R L H l hv g cap M) : Calls Try.prog 14 #[.pointer (some ⟨b, 0, none⟩)] wr fun e w' => e = .returned (.bool l) ∧ w' = wr := by
  obtain ⟨v, hp⟩ := h.p
  exact plost_any _ hp
/-- What it must have, made anew. -/
theorem Py.have_ {hv' : Value} {H' : List Int} (h : Py w wr b R L H l hv g cap M) (ho : w'.ownsRow wr.heap.size 3 1 hv' H'.length (H'.map (Value.int .i64))) (hB : Below wr.heap.size wr w') : Py w w' b R L H' l hv' g cap M :=
  ⟨(h.below hB).p, own_base ho h.lo.size, (h.below hB).m, (h.below hB).lo⟩
theorem Py.none_ (h : Py w wr b R L H l hv g cap M) : Py w wr b R L [] l (.slice none 0 0) g cap M := ⟨h.p, World.ownsRow_nil _ _ _ _, h.m, h.lo⟩
/-- Less its last one. -/
theorem Py.last {x : Int} (h : Py w wr b R L (H ++ [x]) l hv g cap M) : ∃ hg hc, hv = .slice (some ⟨hg, 0, none⟩) (H.length + 1) hc ∧ H.length + 1 ≤ hc ∧ wr.cell? ⟨hg, H.length, none⟩ = some (.int .i64 x) ∧ Py w wr b R L H l (.slice (some ⟨hg, 0, none⟩) H.length hc) g cap M := by
  have h1 := h.h
  rw [List.length_append] at h1
  have h1' : wr.ownsRow w.heap.size 3 1 hv (H.length + 1) ((H ++ [x]).map (Value.int .i64)) := h1
  obtain ⟨hg, hc, rfl, _⟩ := h1'.form (by omega)
  have hcap := own_cap h1'
  rw [List.map_append] at h1'
  have hp := own_prefix (n := H.length) (m := 1) h1' (by simp)
  have hcl := h1'.cellAt (g := hg) (cap := hc) H.length (by omega)
  refine ⟨hg, hc, rfl, hcap.1, by rw [hcl]; simp, h.p, hp, h.m, h.lo⟩
theorem SrcC.caps {a : Option Addr} {m c : Nat} (h : SrcC wr (.slice a m c) M) : m = M.length ∧ m ≤ c ∧ (a = none → m = 0 ∧ c = 0) := by
  rcases h with ⟨rfl, h | ⟨ad, c', h⟩⟩ | ⟨b, off, c', h, h2, _⟩
  · cases h; exact ⟨rfl, Nat.le_refl _, fun _ => ⟨rfl, rfl⟩⟩
  · cases h; exact ⟨rfl, Nat.zero_le _, fun e => by cases e⟩
  · cases h; exact ⟨rfl, h2, fun e => by cases e⟩
theorem app_one {w7 : World} (h : Py w wr b R L H l hv g cap M) (hg : wr.grownBy w7 none) : Below wr.heap.size wr w7 ∧ Below w.heap.size w w7 := by
  have hB : Below wr.heap.size wr w7 := ⟨hg.os, hg.tape, hg.output, hg.size, fun k hk => hg.block k hk (by simp)⟩
  exact ⟨hB, h.lo.trans (hB.mono h.lo.size)⟩
theorem app_two {v7 v8 : Value} {w7 w8 : World} {N H1 : List Int} {n : Nat} {xs : List Value} (h : Py w wr b R L H l hv g cap M) (hB : Below wr.heap.size wr w7) (ho7 : w7.ownsRow wr.heap.size 3 1 v7 n xs) (hg8 : w7.grownBy w8 v7.ownBlock)
    (ho8 : w8.ownsRow wr.heap.size 3 1 v8 (0 + H1.length + N.length) (([] ++ H1.map (Value.int .i64)) ++ N.map (Value.int .i64))) :
    ∃ ah ch, v8 = .slice ah (H1 ++ N).length ch ∧ Hid (Py w w8 b R L (H1 ++ N) l (.slice ah (H1 ++ N).length ch) g cap M) := by
  have hB8 : Below wr.heap.size wr w8 := hB.grown hg8 hB.size (fun k hk => (ho7.lt k hk).1)
  have ho : w8.ownsRow wr.heap.size 3 1 v8 (H1 ++ N).length ((H1 ++ N).map (Value.int .i64)) := by
    have e : 0 + H1.length + N.length = (H1 ++ N).length := by simp
    rw [e, List.nil_append, ← List.map_append] at ho8
    exact ho8
  obtain ⟨ah, ch, rfl⟩ := own_len ho
  exact ⟨ah, ch, rfl, h.have_ ho hB8⟩
end

end Go.Proofs.Ytckljbjnhgnkgaa

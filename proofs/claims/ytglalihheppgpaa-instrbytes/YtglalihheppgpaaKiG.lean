/- The walk of besombook's putInts. -/
import Derived.Test.YtglalihheppgpaaKiF
namespace Go.Proofs.Ytglalihheppgpaa
open Go.RowKit

/-- The first k lists marked. -/
def mkUp (k : Nat) (I : List (Value × List Ins)) : List (Value × List Ins) := I.mapIdx fun j p => if j < k then (p.1, mks j 0 p.2.length) else p
theorem mkUp_len (k : Nat) (I : List (Value × List Ins)) : (mkUp k I).length = I.length := by simp [mkUp]
theorem mkUp_at (k : Nat) (I : List (Value × List Ins)) (j : Nat) : (mkUp k I)[j]? = (I[j]?).map fun p => if j < k then (p.1, mks j 0 p.2.length) else p := by simp [mkUp]
theorem mkUp_fst (k : Nat) (I : List (Value × List Ins)) : (mkUp k I).map Prod.fst = I.map Prod.fst := by
  apply List.ext_getElem?
  intro j
  rw [List.getElem?_map, List.getElem?_map, mkUp_at]
  cases I[j]? with
  | none => rfl
  | some p => simp; split <;> rfl
theorem mkUp_zero (I : List (Value × List Ins)) : mkUp 0 I = I := by
  apply List.ext_getElem?
  intro j
  rw [mkUp_at]
  cases I[j]? <;> simp

theorem pair_at {I : List (Value × List Ins)} (h : I.Pairwise fun p q => Apt p.1 q.1) {j k : Nat} {p q : Value × List Ins} (hj : I[j]? = some p) (hk : I[k]? = some q) (hne : j < k) : Apt p.1 q.1 := by
  rw [List.pairwise_iff_getElem] at h
  obtain ⟨h1, e1⟩ := List.getElem?_eq_some_iff.1 hj
  obtain ⟨h2, e2⟩ := List.getElem?_eq_some_iff.1 hk
  have := h j k h1 h2 hne
  rw [e1, e2] at this
  exact this
theorem Apt.symm' {a b : Value} (h : Apt a b) : Apt b a := by
  rcases h with h | h
  · cases hb : b.ownBlock with
    | none => exact Or.inl hb
    | some k => exact Or.inr (by rw [hb, h]; simp)
  · exact Or.inr (Ne.symm h)

/-- A Book whose list i is written anew, in its own row. -/
theorem book_set {w w' : World} {B bk i : Nat} {vi vw v : Value} {L L' : List Ins} {I W : List (Value × List Ins)} (h : BookAt w B bk vi vw (mkUp i I) W) (hi : I[i]? = some (v, L)) (hL : L' = mks i 0 L.length)
    (hg : w.grownBy w' v.ownBlock) (hv : OwnInts w' B (v, L')) : BookAt w' B bk vi vw (mkUp (i + 1) I) W ∧ Ty [23] B w w' := by
  have hi' : (mkUp i I)[i]? = some (v, L) := by rw [mkUp_at, hi]; simp
  have hmem : (v, L) ∈ mkUp i I := List.mem_of_getElem? hi'
  have hold := h.ri _ hmem
  have t : Ty [23] B w w' := Ty.of_grown hold hg (Nat.le_refl _)
  have at_ : ∀ k p, (mkUp (i + 1) I)[k]? = some p → (k = i ∧ p = (v, L')) ∨ (k ≠ i ∧ (mkUp i I)[k]? = some p) := by
    intro k p hp
    rw [mkUp_at] at hp
    by_cases e : k = i
    · subst e
      rw [hi] at hp
      simp at hp
      exact Or.inl ⟨rfl, by rw [hL]; exact hp.symm⟩
    · refine Or.inr ⟨e, ?_⟩
      rw [mkUp_at, ← hp]
      congr 1
      funext q
      by_cases h1 : k < i
      · have h2 : k < i + 1 := by omega
        rw [if_pos h1, if_pos h2]
      · have h2 : ¬ k < i + 1 := by omega
        rw [if_neg h1, if_neg h2]
  refine ⟨⟨t.row h.hd (by decide), h.hB, ?_, t.own h.ow (by decide), h.ne, ?_, ?_, ?_, ?_⟩, t⟩
  · have := t.own h.oi (by decide)
    rw [mkUp_len, mkUp_fst] at this
    rw [mkUp_len, mkUp_fst]
    exact this
  · intro p hp
    obtain ⟨k, hk⟩ := List.mem_iff_getElem?.1 hp
    rcases at_ k p hk with ⟨_, rfl⟩ | ⟨hne, hk'⟩
    · exact hv
    · have hap : Apt p.1 v := by
        rcases Nat.lt_or_gt_of_ne hne with hlt | hlt
        · exact pair_at h.di hk' hi' hlt
        · exact (pair_at h.di hi' hk' hlt).symm'
      exact own_kept (h.ri p (List.mem_of_getElem? hk')) hg hap
  · intro p hp
    exact own_kept (h.rc p hp) hg (h.dw _ hmem p hp).symm'
  · rw [List.pairwise_iff_getElem]
    intro a b ha hb hab
    have h1 := at_ a _ (List.getElem?_eq_getElem ha)
    have h2 := at_ b _ (List.getElem?_eq_getElem hb)
    have key : ∀ k p, (k = i ∧ p = (v, L')) ∨ (k ≠ i ∧ (mkUp i I)[k]? = some p) → ∃ q, (mkUp i I)[k]? = some q ∧ q.1 = p.1 := by
      intro k p hkp
      rcases hkp with ⟨rfl, rfl⟩ | ⟨_, hk⟩
      · exact ⟨_, hi', rfl⟩
      · exact ⟨_, hk, rfl⟩
    obtain ⟨qa, ea, fa⟩ := key a _ h1
    obtain ⟨qb, eb, fb⟩ := key b _ h2
    have := pair_at h.di ea eb hab
    rw [fa, fb] at this
    exact this
  · intro p hp q hq
    obtain ⟨k, hk⟩ := List.mem_iff_getElem?.1 hp
    rcases at_ k p hk with ⟨_, rfl⟩ | ⟨_, hk'⟩
    · exact h.dw _ hmem q hq
    · exact h.dw p (List.mem_of_getElem? hk') q hq

theorem grownBy_trans {a b c : World} {row : Option Nat} (h : a.grownBy b row) (g : b.grownBy c row) : a.grownBy c row :=
  ⟨g.os.trans h.os, g.tape.trans h.tape, g.output.trans h.output, Nat.le_trans h.size g.size, fun k hk hr => (g.block k (Nat.lt_of_lt_of_le hk h.size) hr).trans (h.block k hk hr)⟩
theorem grownBy_drewN {a b : World} {row : Option Nat} (h : a.grownBy b row) (q : Nat) : a.grownBy (b.drewN q) row := ⟨h.os, h.tape, h.output, h.size, h.block⟩

theorem set4 (A D : List Value) (n : Nat) (hA : A.length = n) (e0 e1 e2 e3 a b c d : Value) : ((((A ++ (e0 :: e1 :: e2 :: e3 :: D)).set n a).set (n + 1) b).set (n + 2) c).set (n + 3) d = A ++ (a :: b :: c :: d :: D) := by
  subst hA
  rw [List.set_append_right _ _ (Nat.le_refl _), List.set_append_right _ _ (by omega), List.set_append_right _ _ (by omega), List.set_append_right _ _ (by omega)]
  rw [show A.length - A.length = 0 from by omega, show A.length + 1 - A.length = 1 from by omega, show A.length + 2 - A.length = 2 from by omega, show A.length + 3 - A.length = 3 from by omega]
  rfl
theorem mks_set (j q n : Nat) (L : List Ins) (hn : L.length = n) (hq : q < n) (a b c d : Value) (hv : (mk1 j q).cs = [a, b, c, d]) : (((((mks j 0 q ++ L.drop q).flatMap Ins.cs).set (q * 4) a).set (q * 4 + 1) b).set (q * 4 + 2) c).set (q * 4 + 3) d = (mks j 0 (q + 1) ++ L.drop (q + 1)).flatMap Ins.cs := by
  have e1 : L.drop q = L[q] :: L.drop (q + 1) := List.drop_eq_getElem_cons (by omega)
  have e2 : mks j 0 (q + 1) = mks j 0 q ++ [mk1 j q] := by show mks j 0 q ++ [mk1 j (0 + q)] = _; rw [Nat.zero_add]
  have hl : ((mks j 0 q).flatMap Ins.cs).length = q * 4 := by
    have := flI_len (mks j 0 q)
    rwa [mks_len] at this
  have e3 : (mks j 0 q ++ L.drop q).flatMap Ins.cs = (mks j 0 q).flatMap Ins.cs ++ (.int .i64 (L[q]).o :: .int .i64 (L[q]).a :: .int .i64 (L[q]).b :: .int .i64 (L[q]).c :: (L.drop (q + 1)).flatMap Ins.cs) := by
    rw [e1, List.flatMap_append, List.flatMap_cons]; rfl
  have e4 : (mks j 0 (q + 1) ++ L.drop (q + 1)).flatMap Ins.cs = (mks j 0 q).flatMap Ins.cs ++ (a :: b :: c :: d :: (L.drop (q + 1)).flatMap Ins.cs) := by
    rw [e2, List.flatMap_append, List.flatMap_append, List.flatMap_cons, List.flatMap_nil, hv, List.append_assoc]; rfl
  rw [e3, e4]
  exact set4 _ _ _ hl _ _ _ _ _ _ _ _
theorem mks_get (j n q : Nat) (hq : q < n) : (mks j 0 n)[q]? = some (mk1 j q) := by
  have e : n = q + (n - q) := by omega
  rw [e, mks_add, List.getElem?_append_right (by rw [mks_len]; omega), mks_len]
  have e2 : n - q = 1 + (n - q - 1) := by omega
  rw [e2, mks_add]
  simp [mks]

theorem own_cell4 {w : World} {B n : Nat} {e : TypeId} {v : Value} {xs : List Value} (h : w.ownsRow B e 4 v n xs) (hn : 0 < n) : ∃ g cap, v = .slice (some ⟨g, 0, none⟩) n cap ∧ B ≤ g ∧ g < w.heap.size ∧ (∀ j, j < n * 4 → w.cell? ⟨g, j, none⟩ = xs[j]?) ∧ ∀ j, w.frozen? ⟨g, j, none⟩ = false := by
  obtain ⟨g, cap, rfl, h1, h2⟩ := h.form hn
  exact ⟨g, cap, rfl, h1, h2, fun j hj => h.cellAt j hj, fun j => h.frozenAt j⟩

theorem cell_set_ne {w : World} {b o g q : Nat} {u v : Value} (h : w.cell? ⟨b, o, none⟩ = some v) (hne : ¬ b = g) : (w.setCell ⟨g, q, none⟩ u).cell? ⟨b, o, none⟩ = some v :=
  (World.cell?_of_block (Below.heap_setCell _ _ _ _ hne)).trans h
theorem row_own_ne {w : World} {b g sz : Nat} {t e : TypeId} {n m cap B : Nat} {f : Nat → Value} {xs : List Value} (r : w.rowIs b t n f) (h : w.ownsRow B e sz (.slice (some ⟨g, 0, none⟩) m cap) m xs) (ht : t ≠ e) : ¬ b = g := by
  intro e1
  subst e1
  obtain ⟨c, hb, _⟩ := r
  rcases h.2 with ⟨h', _⟩ | ⟨g', cap', cur, h', _, hg, _⟩
  · simp at h'
  · simp at h'
    obtain ⟨rfl, _⟩ := h'
    rw [hb] at hg
    simp at hg
    exact ht hg.2
theorem own_own_ne {w : World} {g g' sz : Nat} {t e : TypeId} {n c m cap B B' : Nat} {xs ys : List Value} (r : w.ownsRow B t 1 (.slice (some ⟨g, 0, none⟩) n c) n xs) (h : w.ownsRow B' e sz (.slice (some ⟨g', 0, none⟩) m cap) m ys) (ht : t ≠ e) : ¬ g = g' := by
  rcases r.2 with ⟨h', _⟩ | ⟨g2, cap', cur, h', _, hg, hn, _, hs, _⟩
  · simp at h'
  · simp at h'
    obtain ⟨rfl, _⟩ := h'
    exact row_own_ne (f := fun i => cur[i]!) (n := cur.size) ⟨cur, hg, rfl, fun i hi => by simp [hi]⟩ h ht

set_option maxHeartbeats 1000000 in
theorem putInstrs_any (w : World) {B bk : Nat} {vi vw : Value} {I W : List (Value × List Ins)} (h : BookAt w B bk vi vw I W) (hIl : I.length ≤ 250) (hL : ∀ p ∈ I, p.2.length ≤ 1000) :
    Calls Try.prog 40 #[.pointer (some ⟨bk, 0, none⟩)] w fun e w' => e = .returned (.tuple #[]) ∧ BookAt w' B bk vi vw (mkUp I.length I) W ∧ Ty [23] B w w' := by
  obtain ⟨ai, ci, evi⟩ := own_lenG h.oi
  subst evi
  have HL : Hid (∀ p ∈ I, p.2.length ≤ 1000) := hL
  have H0 : Hid (BookAt w B bk (.slice ai I.length ci) vw (mkUp 0 I) W) := by rw [mkUp_zero]; exact h
  clear h hL
  go_enter Try.func40, Try.ntmps40
  go_wp2
  go_loopw [2] (fun i wr => ∃ j : Nat, j ≤ I.length ∧ i = .int .i64 j ∧ BookAt wr B bk (.slice ai I.length ci) vw (mkUp j I) W ∧ Ty [23] B w wr) (fun i _ => I.length - (intOf i).toNat)
  case atStart => exact ⟨0, Nat.zero_le _, rfl, H0.out, Ty.refl _ _ _⟩
  case round =>
    obtain ⟨j, hj, rfl, hb, ht⟩ := hrel
    have HB1 : Hid (BookAt wr B bk (.slice ai I.length ci) vw (mkUp j I) W) := hb
    have HT1 : Hid (Ty [23] B w wr) := ht
    have hc0 := HB1.out.c0
    clear hb ht H0
    by_cases hlt : j < I.length
    · have hoi := HB1.out.oi
      rw [mkUp_len, mkUp_fst] at hoi
      obtain ⟨g0, c0, e0, _, hg0, k0, _⟩ := own_cell hoi (by omega)
      simp only [Value.slice.injEq, true_and] at e0
      obtain ⟨rfl, rfl⟩ := e0
      have hp : I[j]? = some I[j] := List.getElem?_eq_getElem hlt
      have hp' : (mkUp j I)[j]? = some I[j] := by rw [mkUp_at, hp]; simp
      have hk := k0 j hlt
      rw [map_fst_at hp] at hk
      have hm : I[j] ∈ I := List.getElem_mem hlt
      have hl0 := HL.out _ hm
      have o0 := HB1.out.ri _ (List.mem_of_getElem? hp')
      generalize I[j] = p0 at *
      obtain ⟨v0, L0⟩ := p0
      obtain ⟨x0, y0, z0⟩ := own_lenG o0
      have z0' : v0 = .slice x0 L0.length y0 := z0
      subst z0'
      have hl : L0.length ≤ 1000 := hl0
      have HP : Hid (I[j]? = some (Value.slice x0 L0.length y0, L0)) := hp
      have HO0 : Hid (OwnInts wr B (Value.slice x0 L0.length y0, L0)) := o0
      have HOI : Hid (wr.ownsRow B 43 1 (.slice (some ⟨g0, 0, none⟩) I.length ci) I.length (I.map Prod.fst)) := hoi
      have HJ : Hid (j ≤ 1000) := by show j ≤ 1000; omega
      have HK : Hid (wr.cell? ⟨g0, j, none⟩ = some (Value.slice x0 L0.length y0)) := hk
      clear k0 hp hp' hm hl0 o0 z0 hoi
      go_wp2_with fail
      refine (mark_zero j L0.length _ HJ.out (by omega)).mono ?_
      rintro e w2 ⟨vm, rfl, hom, hB2⟩
      obtain ⟨am, cm, rfl⟩ := own_lenG hom
      have HA : Hid (Apt (.slice am L0.length cm) (.slice x0 L0.length y0)) := (apt_fresh HO0.out hom (Nat.le_refl _)).symm'
      have HOM : Hid (w2.ownsRow wr.heap.size 23 4 (.slice am L0.length cm) L0.length ((mks j 0 L0.length).flatMap Ins.cs)) := hom
      have HB2 : Hid (Below wr.heap.size wr w2) := hB2
      have HO2 : Hid (OwnInts w2 B (Value.slice x0 L0.length y0, L0)) := HO0.out.below hB2
      have HK2 : Hid (w2.rowIs bk 36 10 (bkCells (.slice (some ⟨g0, 0, none⟩) I.length ci) vw) ∧ w2.ownsRow B 43 1 (.slice (some ⟨g0, 0, none⟩) I.length ci) I.length (I.map Prod.fst)) := ⟨(HB1.out.below hB2).hd, (Ty.of_below (K := []) (B := 0) hB2).own HOI.out (by simp)⟩
      clear hom hB2 hc0 hk
      obtain ⟨wo, hwo⟩ : ∃ wo, wo = wr := ⟨_, rfl⟩
      subst hwo
      go_wp2_with fail
      go_loopw [4] (fun k wk => ∃ q : Nat, q ≤ L0.length ∧ k = .int .i64 q ∧ wk.ownsRow B 23 4 (.slice x0 L0.length y0) L0.length ((mks j 0 q ++ L0.drop q).flatMap Ins.cs) ∧ w2.grownBy wk (Value.slice x0 L0.length y0).ownBlock) (fun k _ => L0.length - (intOf k).toNat)
      case atStart => exact ⟨0, Nat.zero_le _, rfl, HO2.out, World.grownBy.refl _ _⟩
      case round =>
        obtain ⟨q, hq, rfl, hown, hgr⟩ := hrel
        have HOW : Hid (wr.ownsRow B 23 4 (.slice x0 L0.length y0) L0.length ((mks j 0 q ++ L0.drop q).flatMap Ins.cs)) := hown
        have HGR : Hid (w2.grownBy wr (Value.slice x0 L0.length y0).ownBlock) := hgr
        clear hown hgr
        by_cases hlt2 : q < L0.length
        · have r0 := grown_row HK2.out.1 HO2.out HGR.out (by decide)
          have hc0 : wr.cell? ⟨bk, 2, none⟩ = some (.slice (some ⟨g0, 0, none⟩) I.length ci) := r0.cell (i := 2) (by decide)
          obtain ⟨_, _, e1, _, _, k1, _⟩ := own_cell (grown_own HK2.out.2 HO2.out HGR.out (by decide)) (by omega)
          simp only [Value.slice.injEq, Option.some.injEq, Addr.mk.injEq, and_true, true_and] at e1
          obtain ⟨rfl, rfl⟩ := e1
          have hk := k1 j hlt
          rw [map_fst_at HP.out] at hk
          have hk' : wr.cell? ⟨g0, j, none⟩ = some (Value.slice x0 L0.length y0) := hk
          obtain ⟨gm, cm', e2, hgm1, hgm2, k2, _⟩ := own_cell4 (own_kept HOM.out HGR.out HA.out) (by omega)
          simp only [Value.slice.injEq, true_and] at e2
          obtain ⟨rfl, rfl⟩ := e2
          obtain ⟨mv, hmv⟩ : ∃ mv, Hid ((mk1 j q).cs = [.int .i64 mv, .int .i64 0, .int .i64 0, .int .i64 0]) := ⟨_, rfl⟩
          have hkm := fun k (hk : k < 4) => (k2 (q * 4 + k) (by omega)).trans (flI_at _ q _ (mks_get j L0.length q hlt2) k hk)
          rw [hmv.out] at hkm
          have m0 : wr.cell? ⟨gm, q * 4, none⟩ = some (.int .i64 mv) := hkm 0 (by decide)
          have m1 : wr.cell? ⟨gm, q * 4 + 1, none⟩ = some (.int .i64 0) := hkm 1 (by decide)
          have m2 : wr.cell? ⟨gm, q * 4 + 2, none⟩ = some (.int .i64 0) := hkm 2 (by decide)
          have m3 : wr.cell? ⟨gm, q * 4 + 3, none⟩ = some (.int .i64 0) := hkm 3 (by decide)
          obtain ⟨g, cg, e3, hg1, hg2, k3, f3⟩ := own_cell4 HOW.out (by omega)
          simp only [Value.slice.injEq, true_and] at e3
          obtain ⟨rfl, rfl⟩ := e3
          have n1 := row_own_ne r0 HOW.out (by decide)
          have n2 := own_own_ne (grown_own HK2.out.2 HO2.out HGR.out (by decide)) HOW.out (by decide)
          have n3 : ¬ gm = g := by
            rcases HA.out with e | e
            · simp [Value.ownBlock] at e
            · simpa [Value.ownBlock] using e
          have hex : ∀ k, k < 4 → ∃ u, wr.cell? ⟨g, q * 4 + k, none⟩ = some u := fun k hk => by
            rw [k3 (q * 4 + k) (by omega)]
            have hlen2 : q * 4 + k < ((mks j 0 q ++ L0.drop q).flatMap Ins.cs).length := by
              have := flI_len (mks j 0 q ++ L0.drop q)
              unfold flI at this
              rw [this, List.length_append, mks_len, List.length_drop]
              omega
            exact ⟨_, List.getElem?_eq_getElem hlen2⟩
          obtain ⟨u0, hu0⟩ := hex 0 (by decide)
          obtain ⟨u1, hu1⟩ := hex 1 (by decide)
          obtain ⟨u2, hu2⟩ := hex 2 (by decide)
          obtain ⟨u3, hu3⟩ := hex 3 (by decide)
          have hu0' : wr.cell? ⟨g, q * 4, none⟩ = some u0 := hu0
          have hf0 : wr.frozen? ⟨g, q * 4, none⟩ = false := f3 (q * 4)
          have hf1 := f3 (q * 4 + 1)
          have hf2 := f3 (q * 4 + 2)
          have hf3 := f3 (q * 4 + 3)
          have hqI : (q : Int) < (L0.length : Int) := by omega
          have hjI : (j : Int) < (I.length : Int) := by omega
          have s1 := HOW.out.stored (q * 4) (.int .i64 mv)
          have s2 := s1.1.stored (q * 4 + 1) (.int .i64 0)
          have s3 := s2.1.stored (q * 4 + 2) (.int .i64 0)
          have s4 := s3.1.stored (q * 4 + 3) (.int .i64 0)
          have HST : Hid (((((wr.setCell ⟨g, q * 4, none⟩ (.int .i64 mv)).setCell ⟨g, q * 4 + 1, none⟩ (.int .i64 0)).setCell ⟨g, q * 4 + 2, none⟩ (.int .i64 0)).setCell ⟨g, q * 4 + 3, none⟩ (.int .i64 0)).ownsRow B 23 4 (.slice (some ⟨g, 0, none⟩) L0.length y0) L0.length ((mks j 0 (q + 1) ++ L0.drop (q + 1)).flatMap Ins.cs)) := by
            have := s4.1
            rw [mks_set j q L0.length L0 rfl hlt2 _ _ _ _ hmv.out] at this
            exact this
          have HGT : Hid (w2.grownBy ((((wr.setCell ⟨g, q * 4, none⟩ (.int .i64 mv)).setCell ⟨g, q * 4 + 1, none⟩ (.int .i64 0)).setCell ⟨g, q * 4 + 2, none⟩ (.int .i64 0)).setCell ⟨g, q * 4 + 3, none⟩ (.int .i64 0)) (some g)) := grownBy_trans HGR.out (grownBy_trans (grownBy_trans (grownBy_trans s1.2 s2.2) s3.2) s4.2)
          have ks : ∀ {b o : Nat} {v : Value}, wr.cell? ⟨b, o, none⟩ = some v → ¬ b = g → ((((wr.setCell ⟨g, q * 4, none⟩ (.int .i64 mv)).setCell ⟨g, q * 4 + 1, none⟩ (.int .i64 0)).setCell ⟨g, q * 4 + 2, none⟩ (.int .i64 0)).setCell ⟨g, q * 4 + 3, none⟩ (.int .i64 0)).cell? ⟨b, o, none⟩ = some v := fun h n => cell_set_ne (cell_set_ne (cell_set_ne (cell_set_ne h n) n) n) n
          have KS : Hid (((((wr.setCell ⟨g, q * 4, none⟩ (.int .i64 mv)).setCell ⟨g, q * 4 + 1, none⟩ (.int .i64 0)).setCell ⟨g, q * 4 + 2, none⟩ (.int .i64 0)).setCell ⟨g, q * 4 + 3, none⟩ (.int .i64 0)).cell? ⟨bk, 2, none⟩ = some (.slice (some ⟨g0, 0, none⟩) I.length ci) ∧ ((((wr.setCell ⟨g, q * 4, none⟩ (.int .i64 mv)).setCell ⟨g, q * 4 + 1, none⟩ (.int .i64 0)).setCell ⟨g, q * 4 + 2, none⟩ (.int .i64 0)).setCell ⟨g, q * 4 + 3, none⟩ (.int .i64 0)).cell? ⟨g0, j, none⟩ = some (.slice (some ⟨g, 0, none⟩) L0.length y0) ∧ ((((wr.setCell ⟨g, q * 4, none⟩ (.int .i64 mv)).setCell ⟨g, q * 4 + 1, none⟩ (.int .i64 0)).setCell ⟨g, q * 4 + 2, none⟩ (.int .i64 0)).setCell ⟨g, q * 4 + 3, none⟩ (.int .i64 0)).cell? ⟨gm, q * 4, none⟩ = some (.int .i64 mv) ∧ ((((wr.setCell ⟨g, q * 4, none⟩ (.int .i64 mv)).setCell ⟨g, q * 4 + 1, none⟩ (.int .i64 0)).setCell ⟨g, q * 4 + 2, none⟩ (.int .i64 0)).setCell ⟨g, q * 4 + 3, none⟩ (.int .i64 0)).cell? ⟨gm, q * 4 + 1, none⟩ = some (.int .i64 0) ∧ ((((wr.setCell ⟨g, q * 4, none⟩ (.int .i64 mv)).setCell ⟨g, q * 4 + 1, none⟩ (.int .i64 0)).setCell ⟨g, q * 4 + 2, none⟩ (.int .i64 0)).setCell ⟨g, q * 4 + 3, none⟩ (.int .i64 0)).cell? ⟨gm, q * 4 + 2, none⟩ = some (.int .i64 0) ∧ ((((wr.setCell ⟨g, q * 4, none⟩ (.int .i64 mv)).setCell ⟨g, q * 4 + 1, none⟩ (.int .i64 0)).setCell ⟨g, q * 4 + 2, none⟩ (.int .i64 0)).setCell ⟨g, q * 4 + 3, none⟩ (.int .i64 0)).cell? ⟨gm, q * 4 + 3, none⟩ = some (.int .i64 0)) := ⟨ks hc0 n1, ks hk' n2, ks m0 n3, ks m1 n3, ks m2 n3, ks m3 n3⟩
          clear k1 k2 k3 f3 hk hkm r0 HOW HGR HA HOM HK2 HO2 HP HO0 HOI HK HB2 s1 s2 s3 s4 ks hex hu0 hmv
          go_upto_region 7 with (fail)
          go_region_held3 (fun w' => w'.cell? ⟨bk, 2, none⟩ = some (.slice (some ⟨g0, 0, none⟩) I.length ci) ∧ w'.cell? ⟨g0, j, none⟩ = some (.slice (some ⟨g, 0, none⟩) L0.length y0) ∧ w'.cell? ⟨gm, q * 4, none⟩ = some (.int .i64 mv) ∧ w'.cell? ⟨gm, q * 4 + 1, none⟩ = some (.int .i64 0) ∧ w'.cell? ⟨gm, q * 4 + 2, none⟩ = some (.int .i64 0) ∧ w'.cell? ⟨gm, q * 4 + 3, none⟩ = some (.int .i64 0)) (first | exact KS.out | go_keep) (fail)
          all_goals
            go_wp2
            go_roundw
            case rel => exact ⟨q + 1, by omega, by go_num, HST.out, grownBy_drewN HGT.out 1⟩
            case measure => simp [intOf]; omega
        · have e : q = L0.length := by omega
          subst e
          have hfin : OwnInts wr B (Value.slice x0 L0.length y0, mks j 0 L0.length) := by
            have := HOW.out
            rw [List.drop_length, List.append_nil] at this
            show wr.ownsRow B 23 4 (.slice x0 L0.length y0) (mks j 0 L0.length).length _
            rw [mks_len]
            exact this
          obtain ⟨bb, tt⟩ := book_set (HB1.out.below HB2.out) HP.out rfl HGR.out hfin
          have t2 : Ty [23] B wo w2 := Ty.of_below HB2.out
          have TT : Hid (Ty [23] B w wr) := (HT1.out.trans t2).trans tt
          have BB : Hid (BookAt wr B bk (.slice (some ⟨g0, 0, none⟩) I.length ci) vw (mkUp (j + 1) I) W) := bb
          clear hfin bb tt t2 HOW HGR
          go_wp2_with fail
          go_roundw
          case rel => exact ⟨j + 1, by omega, by go_num, BB.out, TT.out⟩
          case measure => simp [intOf]; omega
    · have e : j = I.length := by omega
      subst e
      go_wp2
      go_end0
      exact ⟨rfl, HB1.out, HT1.out⟩

end Go.Proofs.Ytglalihheppgpaa

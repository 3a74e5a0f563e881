/- The walk of besombook's growInts. -/
import Derived.Test.YtglalihheppgpaaKiG
namespace Go.Proofs.Ytglalihheppgpaa
open Go.RowKit

/-- WHERE A SLICE LIES THAT GREW OUT OF v: in v's own row, or in one from H on. -/
def Lies (l v : Value) (H : Nat) : Prop := (∃ g cap n m, v = .slice (some ⟨g, 0, none⟩) n cap ∧ l = .slice (some ⟨g, 0, none⟩) m cap) ∨ ∀ k, l.ownBlock = some k → H ≤ k

theorem lies_self {w : World} {B n H sz : Nat} {e : TypeId} {v : Value} {xs : List Value} (h : w.ownsRow B e sz v n xs) : Lies v v H := by
  rcases h.2 with ⟨rfl, _⟩ | ⟨g, cap, cur, rfl, _⟩
  · exact Or.inr fun k hk => by simp [Value.ownBlock] at hk
  · exact Or.inl ⟨g, cap, n, n, rfl, rfl⟩
theorem lies_next {l v : Value} {H n m cap : Nat} {g : Nat} {w : World} (h : Lies l v H) (hH : H ≤ w.heap.size) (ha : (∃ n0, l = .slice (some ⟨g, 0, none⟩) n0 cap) ∨ w.heap.size ≤ g) : Lies (.slice (some ⟨g, 0, none⟩) (n + m) cap) v H := by
  rcases ha with ⟨n0, rfl⟩ | ha
  · rcases h with ⟨g', cap', n', m', hv, hl⟩ | h
    · simp at hl
      obtain ⟨rfl, _, rfl⟩ := hl
      exact Or.inl ⟨g, cap, n', _, hv, rfl⟩
    · exact Or.inr fun k hk => h k hk
  · exact Or.inr fun k hk => by simp [Value.ownBlock] at hk; omega

/-- A row that lay apart from v ahead of H is as it was when a slice grows that lies so. -/
theorem grow_keep {w0 w w' : World} {B H n m s1 s2 : Nat} {e e' : TypeId} {p l v : Value} {xs ys : List Value} (h0 : w0.ownsRow B e s1 p m ys) (hH : w0.heap.size ≤ H) (hap : Apt p v) (hl : Lies l v H) (h : w.ownsRow B e' s2 p n xs) (hg : w.grownBy w' l.ownBlock) : w'.ownsRow B e' s2 p n xs := by
  refine own_kept h hg ?_
  rcases hl with ⟨g, cap, n', m', rfl, rfl⟩ | hl
  · rcases hap with e1 | e1
    · exact Or.inl e1
    · exact Or.inr e1
  · cases hp : p.ownBlock with
    | none => exact Or.inl hp
    | some k =>
      refine Or.inr ?_
      rw [hp]
      intro e1
      have h1 := (h0.lt k hp).2
      have h2 := hl k e1.symm
      omega

theorem book_grow {w0 w w' : World} {B bk H j t : Nat} {vi vw v l : Value} {L ys : List Ins} {xs : List Value} {n : Nat} {I W : List (Value × List Ins)} (h0 : BookAt w0 B bk vi vw I W) (hH : w0.heap.size ≤ H) (h : BookAt w B bk vi vw I W) (hj : I[j]? = some (v, L))
    (hl : Lies l v H) (ho : w.ownsRow B 23 4 l n xs) (hg : w.grownBy w' l.ownBlock) (hk : w'.ownsRow B 23 4 l (L.length + t) (L.flatMap Ins.cs ++ ys.flatMap Ins.cs)) : BookAt w' B bk vi vw I W := by
  have t1 : Ty [23] B w w' := Ty.of_grown ho hg (Nat.le_refl _)
  have hm : (v, L) ∈ I := List.mem_of_getElem? hj
  refine ⟨t1.row h.hd (by decide), h.hB, t1.own h.oi (by decide), t1.own h.ow (by decide), h.ne, ?_, ?_, h.di, h.dw⟩
  · intro p hp
    obtain ⟨k, hk'⟩ := List.mem_iff_getElem?.1 hp
    by_cases e : k = j
    · subst e
      rw [hj] at hk'
      simp at hk'
      subst hk'
      rcases hl with ⟨g, cap, n', m', rfl, rfl⟩ | hl
      · have hc := own_capG hk
        have hv := h.ri _ hm
        have hn' : n' = L.length := ((own_capG hv).2.2).symm
        have hm' : m' = L.length + t := hc.2.2.symm
        subst hn' hm'
        exact own_prefixG hk (flI_len _)
      · refine own_kept (h.ri _ hm) hg ?_
        show Apt v l
        cases hp' : v.ownBlock with
        | none => exact Or.inl hp'
        | some q =>
          refine Or.inr ?_
          rw [hp']
          intro e1
          have h1 := ((h0.ri _ hm).lt q hp').2
          have h2 := hl q e1.symm
          omega
    · have hap : Apt p.1 v := by
        rcases Nat.lt_or_gt_of_ne e with hlt | hlt
        · exact pair_at h.di hk' hj hlt
        · exact (pair_at h.di hj hk' hlt).symm'
      exact grow_keep (h0.ri p hp) hH hap hl (h.ri p hp) hg
  · exact fun p hp => grow_keep (h0.rc p hp) hH (h.dw _ hm p hp).symm' hl (h.rc p hp) hg

/-- growInts in its midst: j lists have grown, G. -/
structure GrowSt (w wr : World) (B bk : Nat) (vi vw : Value) (I W : List (Value × List Ins)) (j : Nat) (vo : Value) (G : List (Value × List Ins)) : Prop where
  bo : BookAt wr B bk vi vw I W
  out : wr.ownsRow w.heap.size 43 1 vo G.length (G.map Prod.fst)
  len : G.length = j
  ok : ∀ (k : Nat) (p : Value × List Ins), G[k]? = some p → OwnInts wr B p ∧ p.2 = mks k 0 p.2.length ∧ p.2.length ≤ 1000
  apt : ∀ (k : Nat) (p : Value × List Ins) (m : Nat) (q : Value × List Ins), G[k]? = some p → I[m]? = some q → k ≠ m → Apt p.1 q.1
  lo : Below B w wr

theorem GrowSt.below {w wr w' : World} {B bk j : Nat} {vi vw vo : Value} {I W G : List (Value × List Ins)} (g : GrowSt w wr B bk vi vw I W j vo G) (hb : Below wr.heap.size wr w') (hB : B ≤ w.heap.size) : GrowSt w w' B bk vi vw I W j vo G :=
  ⟨g.bo.below hb, (Ty.of_below (K := []) (B := 0) hb).own g.out (by simp), g.len, fun k p hk => ⟨(g.ok k p hk).1.below hb, (g.ok k p hk).2⟩, g.apt, g.lo.trans (hb.mono (Nat.le_trans hB g.lo.size))⟩

theorem grow_step {w wo w1 w2 : World} {B bk j n t : Nat} {vi vw vo v l : Value} {L ys : List Ins} {xs : List Value} {I W G : List (Value × List Ins)} (g0 : GrowSt w wo B bk vi vw I W j vo G) (g : GrowSt w w1 B bk vi vw I W j vo G) (hB : B ≤ w.heap.size) (hj : I[j]? = some (v, L))
    (hl : Lies l v wo.heap.size) (ho : w1.ownsRow B 23 4 l n xs) (hg : w1.grownBy w2 l.ownBlock) (hk : w2.ownsRow B 23 4 l (L.length + t) (L.flatMap Ins.cs ++ ys.flatMap Ins.cs)) : GrowSt w w2 B bk vi vw I W j vo G := by
  have t1 : Ty [23] B w1 w2 := Ty.of_grown ho hg (Nat.le_refl _)
  refine ⟨book_grow g0.bo (Nat.le_refl _) g.bo hj hl ho hg hk, t1.own g.out (by decide), g.len, fun k p hp => ⟨?_, (g.ok k p hp).2⟩, g.apt, g.lo.trans (t1.below (Nat.le_trans hB g.lo.size))⟩
  have hkj : k ≠ j := by
    have := (List.getElem?_eq_some_iff.1 hp).1
    have := g.len
    omega
  exact grow_keep (g0.ok k p hp).1 (Nat.le_refl _) (g.apt k p j _ hp hj hkj) hl (g.ok k p hp).1 hg

theorem grow_out {w wo w1 w2 : World} {B bk j : Nat} {vi vw vo vo' v l : Value} {L Lf : List Ins} {I W G : List (Value × List Ins)} (h0 : BookAt w B bk vi vw I W) (g0 : GrowSt w wo B bk vi vw I W j vo G) (g : GrowSt w w1 B bk vi vw I W j vo G) (hB : B ≤ w.heap.size) (hj : I[j]? = some (v, L))
    (hl : Lies l v wo.heap.size) (ho : OwnInts w1 B (l, Lf)) (hf : Lf = mks j 0 Lf.length) (hfl : Lf.length ≤ 1000) (hg : w1.grownBy w2 vo.ownBlock) (hk : w2.ownsRow w.heap.size 43 1 vo' (G.length + 1) (G.map Prod.fst ++ [l])) : GrowSt w w2 B bk vi vw I W (j + 1) vo' (G ++ [(l, Lf)]) := by
  have t1 : Ty [43] w.heap.size w1 w2 := Ty.of_grown g.out hg (Nat.le_refl _)
  have hm : (v, L) ∈ I := List.mem_of_getElem? hj
  have hsz := g0.lo.size
  refine ⟨⟨t1.row g.bo.hd (by decide), g.bo.hB, own_kept g.bo.oi hg (apt_fresh h0.oi g.out (Nat.le_refl _)), own_kept g.bo.ow hg (apt_fresh h0.ow g.out (Nat.le_refl _)), g.bo.ne, fun p hp => t1.own (g.bo.ri p hp) (by decide), fun p hp => t1.own (g.bo.rc p hp) (by decide), g.bo.di, g.bo.dw⟩, ?_, ?_, ?_, ?_, g.lo.trans ((t1.mono (K' := [43]) (fun _ h => h) hB).below (Nat.le_trans hB g.lo.size))⟩
  · simpa using hk
  · simp [g.len]
  · intro k p hp
    by_cases hlt : k < G.length
    · rw [List.getElem?_append_left hlt] at hp
      exact ⟨t1.own (g.ok k p hp).1 (by decide), (g.ok k p hp).2⟩
    · have hk' : k = G.length := by
        have := (List.getElem?_eq_some_iff.1 hp).1
        simp at this
        omega
      subst hk'
      simp at hp
      subst hp
      exact ⟨t1.own ho (by decide), by rw [g.len]; exact hf, hfl⟩
  · intro k p m q hp hq hne
    by_cases hlt : k < G.length
    · rw [List.getElem?_append_left hlt] at hp
      exact g.apt k p m q hp hq hne
    · have hk' : k = G.length := by
        have := (List.getElem?_eq_some_iff.1 hp).1
        simp at this
        omega
      subst hk'
      simp at hp
      subst hp
      have hne' : j ≠ m := by rw [← g.len]; exact hne
      rcases hl with ⟨gg, cap, n', m', rfl, rfl⟩ | hl
      · have hap : Apt (.slice (some ⟨gg, 0, none⟩) n' cap) q.1 := by
          rcases Nat.lt_or_gt_of_ne hne' with hlt' | hlt'
          · exact pair_at g.bo.di hj hq hlt'
          · exact (pair_at g.bo.di hq hj hlt').symm'
        rcases hap with e1 | e1
        · simp [Value.ownBlock] at e1
        · exact Or.inr e1
      · show Apt l q.1
        cases hl' : l.ownBlock with
        | none => exact Or.inl hl'
        | some b =>
          refine Or.inr ?_
          rw [hl']
          intro e1
          have h1 := hl b hl'
          have h2 := ((g0.bo.ri q (List.mem_of_getElem? hq)).lt b e1.symm).2
          omega

end Go.Proofs.Ytglalihheppgpaa

/- The walk of the Heap's New. -/
import Derived.Test.YtfkimmbnmcgjiaaDoorHpI
import Derived.Test.YtfkimmbnmcgjiaaDoorKpD
namespace Go.Proofs.YtfkimmbnmcgjiaaDoor
open Go.RowKit

def Hs.none : Hs := ⟨fun _ => Option.none, fun _ => 0, fun _ _ => Option.none, 0, 0⟩
/-- How many fields each has. -/
def lens (Ls : List (List Int)) : List Int := Ls.map (fun L => (L.length : Int))
theorem lens_take {Ls : List (List Int)} {k : Nat} (hk : k < Ls.length) : lens (Ls.take (k + 1)) = lens (Ls.take k) ++ [((Ls.getD k []).length : Int)] := by
  unfold lens
  rw [List.take_add_one, List.getD, List.map_append]
  simp [List.getElem?_eq_getElem hk]
theorem one_small {L : List Int} {n : Int} (h : oneN L n = 0) : 1 ≤ L.length ∧ L.length ≤ 16 := by
  unfold oneN at h
  split at h
  · omega
  · omega
theorem first_all {n : Int} : ∀ {Ls : List (List Int)}, firstN n Ls = 0 → ∀ L ∈ Ls, oneN L n = 0
  | [], _, _, h => by cases h
  | L :: r, h, M, hM => by
    rw [firstN] at h
    by_cases e : oneN L n = 0
    · rw [if_pos e] at h
      rcases List.mem_cons.1 hM with rfl | hM
      · exact e
      · exact first_all h M hM
    · rw [if_neg e] at h
      exact absurd h e
theorem lens_small {Ls : List (List Int)} (h : chkN Ls = 0) : (∀ f ∈ lens Ls, 1 ≤ f ∧ f ≤ 16) ∧ Ls.length ≤ 16 := by
  unfold chkN at h
  split at h
  · omega
  · refine ⟨fun f hf => ?_, by omega⟩
    obtain ⟨L, hL, rfl⟩ := List.mem_map.1 hf
    have := one_small (first_all h L hL)
    omega

theorem new_more {w1 w3 : World} {B : Nat} {b : Hb} {n : Nat} {L : List Int} {g cap : Nat} {m : Int} (h : HpAt w1 B b n L Hs.none) (hm : 1 ≤ m ∧ m ≤ 16) (hl : L.length < 100)
    (ho : w3.ownsRow B 3 1 (.slice (some ⟨g, 0, none⟩) (L.length + 1) cap) (L.length + 1) (L.map (Value.int .i64) ++ [.int .i64 m])) (hg : w1.grownBy w3 b.vf.ownBlock) (hat : b.vf.ownBlock = some g ∨ w1.heap.size ≤ g) :
    HpAt (w3.setCell ⟨b.bh, 1, none⟩ (.slice (some ⟨g, 0, none⟩) (L.length + 1) cap)) B { b with vf := .slice (some ⟨g, 0, none⟩) (L.length + 1) cap } n (L ++ [m]) Hs.none := by
  have hk : ∀ {c : Nat} {t : TypeId} {k : Nat} {f : Nat → Value}, w1.rowIs c t k f → c ≠ b.bw ∨ True → (∀ x, b.vf.ownBlock = some x → c ≠ x) → w3.rowIs c t k f := fun r _ hx => r.of_block (hg.block _ r.lt (by
    intro e
    exact hx _ e.symm rfl))
  have own_t : ∀ x, b.vf.ownBlock = some x → ∃ cs fz, w1.heap[x]? = some (Obj.cells cs 3 fz) := by
    intro x hx
    rcases h.fs.2 with ⟨e, _⟩ | ⟨g', cap', cur, e, _, hh, _⟩
    · rw [e] at hx; simp [Value.ownBlock] at hx
    · rw [e] at hx; simp [Value.ownBlock] at hx
      subst hx
      exact ⟨_, _, hh⟩
  have ne_t : ∀ {c : Nat} {t : TypeId} {k : Nat} {f : Nat → Value}, w1.rowIs c t k f → t ≠ 3 → ∀ x, b.vf.ownBlock = some x → c ≠ x := by
    intro c t k f r ht x hx e
    subst e
    obtain ⟨cs, fz, h1⟩ := own_t c hx
    obtain ⟨c2, h2, _⟩ := r
    rw [h1] at h2
    cases h2
    exact ht rfl
  have a := h.ar
  have hd3 := hk h.hd (Or.inr trivial) (ne_t h.hd (by decide))
  have hb : But b.bh w3 (w3.setCell ⟨b.bh, 1, none⟩ (.slice (some ⟨g, 0, none⟩) (L.length + 1) cap)) := (But.refl _ _).setCell 1 _
  have hm3 : MpAt w3 b.bm 0 Hs.none.O := h.mp.of_block (hg.block _ h.mp.lt (by
    intro e
    obtain ⟨cs, fz, h1⟩ := own_t _ e.symm
    obtain ⟨D, ⟨es, clock, he, _⟩, _⟩ := h.mp
    rw [he] at h1
    cases h1))
  have a3 : ArAt w3 B b.ba b.bp b.bw n Hs.none.P Hs.none.W := ⟨hk a.hd (Or.inr trivial) (ne_t a.hd (by decide)), hk a.pr (Or.inr trivial) (ne_t a.pr (by decide)), hk a.wo (Or.inr trivial) (fun x hx e => h.fw x hx e.symm), fun k p e => (by cases e), a.ap, a.out, a.n64, a.b0, a.b1, a.b2, a.b3⟩
  have hg3 : g < w3.heap.size := (ho.lt g rfl).2
  have gb : g ≠ b.bh := by
    intro e
    rcases ho.2 with ⟨e1, _⟩ | ⟨g', cap', cur, e1, _, hh, _⟩
    · cases e1
    · cases e1
      obtain ⟨c2, h2, _⟩ := hd3
      rw [← e, hh] at h2
      cases h2
  refine ⟨?_, ⟨hb.row a3.hd (row_ne a3.hd hd3 (by decide)), hb.row a3.pr (row_ne a3.pr hd3 (by decide)), hb.row a3.wo (row_ne a3.wo hd3 (by decide)), fun k p e => (by cases e), a3.ap, a3.out, a3.n64, a3.b0, a3.b1, a3.b2, a3.b3⟩, ?_, hm3.of_block (hb.block _ hm3.lt (fun e => hm3.no_row hd3 e.symm)), ?_, ?_, ?_, ?_, ?_, h.bB, h.mB, h.ser9, h.giv9⟩
  · refine (hd3.set 1 _).congr fun i _ => ?_
    unfold hpC
    by_cases e : i = 1
    · subst e; rfl
    · rw [if_neg e]; simp [e]
  · have := (Fz.of_but (B := 0) (K := []) hb (X := [b.bh]) (by simp)).own ho (fun x hx => by simp [Value.ownBlock] at hx; subst hx; simpa using gb) (by simp)
    simpa using this
  · intro x hx
    simp [Value.ownBlock] at hx
    subst hx
    rcases hat with e | e
    · exact h.fw g e
    · have := a.wo.lt
      show g ≠ b.bw
      omega
  · intro k x
    constructor
    · intro e; cases e
    · rintro ⟨p, e, _⟩; cases e
  · intro k x o e; cases e
  · intro f hf
    rcases List.mem_append.1 hf with hf | hf
    · exact h.small f hf
    · simp at hf; subst hf; exact hm
  · simp; omega

theorem new_start {w w1 w2 : World} {ba bp bw m : Nat} (ha : ArAt w2 w1.heap.size ba bp bw m (fun _ => none) (fun _ => 0)) (hB1 : Below w.heap.size w w1) (hB2 : Below w1.heap.size w1 w2) :
    HpAt ((w2.alloc (.map #[] 0)).alloc (.cells #[.pointer (some ⟨ba, 0, none⟩), .slice none 0 0, .map (some w2.heap.size), .int .i64 0, .int .i64 0] 57)) w.heap.size ⟨w2.heap.size + 1, ba, bp, bw, w2.heap.size, .slice none 0 0⟩ m [] Hs.none ∧
      Below w.heap.size w ((w2.alloc (.map #[] 0)).alloc (.cells #[.pointer (some ⟨ba, 0, none⟩), .slice none 0 0, .map (some w2.heap.size), .int .i64 0, .int .i64 0] 57)) := by
  have s1 := hB1.size
  have s2 := hB2.size
  have b1 : Below w2.heap.size w2 (w2.alloc (.map #[] 0)) := (Below.refl _ _).alloc (Nat.le_refl _) _
  have b2 : Below (w2.alloc (.map #[] 0)).heap.size (w2.alloc (.map #[] 0)) ((w2.alloc (.map #[] 0)).alloc (.cells #[.pointer (some ⟨ba, 0, none⟩), .slice none 0 0, .map (some w2.heap.size), .int .i64 0, .int .i64 0] 57)) := (Below.refl _ _).alloc (Nat.le_refl _) _
  have hs : (w2.alloc (.map #[] 0)).heap.size = w2.heap.size + 1 := by simp
  have a := (ha.below b1).below b2
  refine ⟨⟨?_, ⟨a.hd, a.pr, a.wo, fun k p e => (by cases e), a.ap, a.out, a.n64, Nat.le_trans s1 a.b0, Nat.le_trans s1 a.b1, Nat.le_trans s1 a.b2, fun k p e => (by cases e)⟩, ⟨by simp, Or.inl ⟨rfl, rfl⟩⟩, (mp_made w2).below b2, ?_, ?_, ?_, ?_, by simp, by show w.heap.size ≤ w2.heap.size + 1; omega, by show w.heap.size ≤ w2.heap.size; omega, by decide, by decide⟩, ?_⟩
  · have := World.rowIs_alloc (w2.alloc (.map #[] 0)) #[.pointer (some ⟨ba, 0, none⟩), .slice none 0 0, .map (some w2.heap.size), .int .i64 0, .int .i64 0] 57 (hpC ba (.slice none 0 0) w2.heap.size 0 0) (fun i hi => by
      have : i = 0 ∨ i = 1 ∨ i = 2 ∨ i = 3 ∨ i = 4 := by simp at hi; omega
      rcases this with rfl | rfl | rfl | rfl | rfl <;> rfl)
    rw [hs] at this
    exact this
  · intro x hx; simp [Value.ownBlock] at hx
  · intro k x
    constructor
    · intro e; cases e
    · rintro ⟨p, e, _⟩; cases e
  · intro k x o e; cases e
  · intro f hf; cases hf
  · exact ((hB1.trans (hB2.mono s1)).alloc (by omega) _).alloc (by rw [hs]; omega) _
theorem new_grown {w1 w3 : World} {B : Nat} {b : Hb} {n : Nat} {L : List Int} {o : Obj} (h : HpAt w1 B b n L Hs.none) (hg : (w1.alloc o).grownBy w3 b.vf.ownBlock) : w3.cell? ⟨b.bh, 1, none⟩ = some b.vf ∧ w3.frozen? ⟨b.bh, 1, none⟩ = false := by
  have r : w3.rowIs b.bh 57 5 (hpC b.ba b.vf b.bm 0 0) := grown_row (h.hd.alloc o) (h.fs.alloc o) hg (by decide)
  exact ⟨r.cell (i := 1) (by decide), r.frozen 1⟩

theorem new_round {w w5 w3 : World} {b : Hb} {n : Nat} {L : List Int} {k g cap mm : Nat} {o : Obj} (h : HpAt w5 w.heap.size b n L Hs.none) (hB : Below w.heap.size w w5) (hk : L.length = k) (hm : 1 ≤ mm ∧ mm ≤ 16) (hl : k < 100)
    (ho : w3.ownsRow w.heap.size 3 1 (.slice (some ⟨g, 0, none⟩) (k + 1) cap) (k + 1) (L.map (Value.int .i64) ++ [.int .i64 (mm : Int)])) (hg : (w5.alloc o).grownBy w3 b.vf.ownBlock) (hat : b.vf.ownBlock = some g ∨ g = w5.heap.size + 1) :
    HpAt (w3.setCell ⟨b.bh, 1, none⟩ (.slice (some ⟨g, 0, none⟩) (k + 1) cap)) w.heap.size { b with vf := .slice (some ⟨g, 0, none⟩) (k + 1) cap } n (L ++ [(mm : Int)]) Hs.none ∧ Below w.heap.size w (w3.setCell ⟨b.bh, 1, none⟩ (.slice (some ⟨g, 0, none⟩) (k + 1) cap)) := by
  subst hk
  refine ⟨new_more (h.below ((Below.refl _ _).alloc (Nat.le_refl _) o)) (by omega) hl ho hg ?_, ?_⟩
  · rcases hat with e | e
    · exact Or.inl e
    · exact Or.inr (by simp; omega)
  · have hs := hB.size
    exact ((hB.alloc hs o).grown hg (by simp; omega) (fun x hx => (h.fs.lt x hx).1)).setCell h.bB _

set_option maxRecDepth 100000 in
set_option maxHeartbeats 2000000 in
theorem hnew_core (pages : Int) (m : Nat) (Ls : List (List Int)) (w : World) {bs off c : Nat} (hp : min (max pages 0) 64 = (m : Int)) (hF : FitA Ls) (hc : chkN Ls = 0) (h : ShAt w bs off Ls) :
    Calls Tryd.prog 8 #[.int .i64 pages, .slice (some ⟨bs, off, none⟩) Ls.length c] w fun e w' => ∃ b : Hb, e = .returned (.tuple #[.pointer (some ⟨b.bh, 0, none⟩), .int .i64 0]) ∧
      HpAt w' w.heap.size b m (lens Ls) Hs.none ∧ Below w.heap.size w w' := by
  obtain ⟨i0, hi, hz0, hz1, hz2⟩ := info_parts Tryd.info3
  have hmm := @run_makeMap Tryd.prog
  have HS : Hid (ShAt w bs off Ls) := h
  have HFA : Hid (FitA Ls) := hF
  have HCH : Hid (chkN Ls = 0) := hc
  have HPG : Hid (min (max pages 0) 64 = (m : Int)) := hp
  have hl16 : Ls.length ≤ 16 := (lens_small hc).2
  clear h hF hc hp
  go_enter Tryd.func8, Tryd.ntmps8
  go_wp2_with fail
  refine (check_any HCH _ _ HFA.out (Or.inr ⟨bs, off, c, rfl, HS.out⟩)).mono ?_
  rintro e w1 ⟨rfl, hB1⟩
  have HB1 : Hid (Below w.heap.size w w1) := hB1
  clear hB1
  go_wp2_with fail
  refine (anew_any pages m _ HPG.out).mono ?_
  rintro e w2 ⟨ba, bp, bw, rfl, ha, hB2⟩
  have HA2 : Hid (ArAt w2 w1.heap.size ba bp bw m (fun _ => none) (fun _ => 0) ∧ Below w1.heap.size w1 w2) := ⟨ha, hB2⟩
  clear ha hB2
  go_wp2_with fail
  have HH0 : Hid (HpAt ((w2.alloc (.map #[] 0)).alloc (.cells #[.pointer (some ⟨ba, 0, none⟩), .slice none 0 0, .map (some w2.heap.size), .int .i64 0, .int .i64 0] 57)) w.heap.size ⟨w2.heap.size + 1, ba, bp, bw, w2.heap.size, .slice none 0 0⟩ m [] Hs.none ∧ Below w.heap.size w ((w2.alloc (.map #[] 0)).alloc (.cells #[.pointer (some ⟨ba, 0, none⟩), .slice none 0 0, .map (some w2.heap.size), .int .i64 0, .int .i64 0] 57))) := new_start HA2.out.1 HB1.out HA2.out.2
  generalize (w2.alloc (.map #[] 0)).alloc (.cells #[.pointer (some ⟨ba, 0, none⟩), .slice none 0 0, .map (some w2.heap.size), .int .i64 0, .int .i64 0] 57) = w0 at *
  generalize w2.heap.size = bm at *
  clear HA2 w2
  go_loopw [22] (fun i wr => ∃ k : Nat, k ≤ Ls.length ∧ i = .int .i64 k ∧ ∃ vf, Hid (HpAt wr w.heap.size ⟨bm + 1, ba, bp, bw, bm, vf⟩ m (lens (Ls.take k)) Hs.none ∧ Below w.heap.size w wr))
    (fun i _ => Ls.length - (intOf i).toNat)
  case atStart => exact ⟨0, Nat.zero_le _, rfl, _, HH0.out⟩
  case round =>
    obtain ⟨k, hk, rfl, vf, HR⟩ := hrel
    have hlen : (lens (Ls.take k)).length = k := by simp [lens]; omega
    by_cases hlt : k < Ls.length
    · obtain ⟨fa, fc, h1, h2⟩ := (HS.out.below HR.out.2).cell k hlt
      clear h2
      have HL : Hid (lens (Ls.take (k + 1)) = lens (Ls.take k) ++ [((Ls.getD k []).length : Int)]) := lens_take hlt
      have HM : Hid (1 ≤ (Ls.getD k []).length ∧ (Ls.getD k []).length ≤ 16) := by
        have := (lens_small HCH.out).1 ((Ls.getD k []).length : Int) (by unfold lens; rw [List.getD, List.getElem?_eq_getElem hlt]; exact List.mem_map.2 ⟨_, List.getElem_mem hlt, rfl⟩)
        show _ ∧ _
        omega
      generalize (Ls.getD k []).length = mm at *
      obtain ⟨ai, ci, hv⟩ := HR.out.1.len
      rw [hlen] at hv
      have hv' : vf = .slice ai k ci := hv
      subst hv'
      generalize hLk : lens (Ls.take k) = Lk at *
      have HLk : Hid (lens (Ls.take k) = Lk) := hLk
      clear hLk hv
      have hbh := HR.out.1.hd.lt
      go_upto_region 8 with (fail)
      have HR2 : Hid (HpAt (wr.alloc (.cells #[.slice fa mm fc] 35)) w.heap.size ⟨bm + 1, ba, bp, bw, bm, .slice ai k ci⟩ m Lk Hs.none ∧ Below w.heap.size w (wr.alloc (.cells #[.slice fa mm fc] 35))) := ⟨HR.out.1.below ((Below.refl _ _).alloc (Nat.le_refl _) _), HR.out.2.alloc HR.out.2.size _⟩
      have hcg : (wr.alloc (.cells #[.slice fa mm fc] 35)).cell? ⟨wr.heap.size, 0, none⟩ = some (.slice fa mm fc) := by simp
      have hgl : wr.heap.size < (wr.alloc (.cells #[.slice fa mm fc] 35)).heap.size := by simp
      generalize wr.alloc (.cells #[.slice fa mm fc] 35) = w5 at *
      generalize wr.heap.size = g5 at *
      clear HR h1 hbh
      have hc1 : w5.cell? ⟨bm + 1, 1, none⟩ = some (.slice ai k ci) := HR2.out.1.c1
      have hf1 : w5.frozen? ⟨bm + 1, 1, none⟩ = false := HR2.out.1.hd.frozen 1
      have hbh : bm + 1 < w5.heap.size := HR2.out.1.hd.lt
      have HO : Hid (w5.ownsRow w.heap.size 3 1 (.slice ai k ci) k (Lk.map (Value.int .i64))) := by
        have := HR2.out.1.fs
        rw [hlen] at this
        exact this
      have HBs : Hid (w.heap.size ≤ w5.heap.size) := HR2.out.2.size
      have HO6 : Hid ((w5.alloc (.cells #[.int .i64 (mm : Int)] 3)).drew.ownsRow w.heap.size 3 1 (.slice ai k ci) k (Lk.map (Value.int .i64))) := HO.out.alloc (.cells #[.int .i64 (mm : Int)] 3)
      have HN6 : Hid (∀ j u, [Value.int .i64 (mm : Int)][j]? = some u → (w5.alloc (.cells #[.int .i64 (mm : Int)] 3)).drew.cell? ((⟨w5.heap.size, 0, none⟩ : Addr).add j) = some u) := new_one w5 (.int .i64 (mm : Int)) 3
      have HK6 : Hid (k + 1 ≤ maxLen ∧ (k + 1) * 8 ≤ 140737488355328 ∧ w.heap.size ≤ (w5.alloc (.cells #[.int .i64 (mm : Int)] 3)).drew.heap.size ∧ (w5.alloc (.cells #[.int .i64 (mm : Int)] 3)).drew.heap.size = w5.heap.size + 1) := ⟨by unfold maxLen; omega, by omega, by have := HBs.out; show _ ≤ (w5.alloc _).heap.size; simp; omega, by show (w5.alloc _).heap.size = _; simp⟩
      go_region_law (first | (refine step_append_lies (w5.alloc (.cells #[.int .i64 (mm : Int)] 3)).drew (by rfl) _ _ 22 (by rfl) w.heap.size 3 i0 (.int .i64 0) 1 8 Tryd.underlying22 hi hz0 hz1 hz2 rfl (by decide) (.slice ai k ci) k (Lk.map (Value.int .i64)) (by rfl) HO6.out ⟨w5.heap.size, 0, none⟩ 1 1 [.int .i64 (mm : Int)] (by rfl) rfl HN6.out (one_of rfl) (by decide) HK6.out.1 HK6.out.2.1 HK6.out.2.2.1 (w5.heap.size + 1) HK6.out.2.2.2 ?_; intro g3 cap3 w3 ho3 hg3 hat3 hlt3; have r3 := new_grown (o := .cells #[.int .i64 (mm : Int)] 3) HR2.out.1 ⟨hg3.os, hg3.tape, hg3.output, hg3.size, hg3.block⟩; have hc3 : w3.cell? ⟨bm + 1, 1, none⟩ = some (.slice ai k ci) := r3.1; have hf3 : w3.frozen? ⟨bm + 1, 1, none⟩ = false := r3.2))
      all_goals
        have HN := new_round HR2.out.1 HR2.out.2 hlen HM.out (by omega) ho3 ⟨hg3.os, hg3.tape, hg3.output, hg3.size, hg3.block⟩ hat3
        have HN' : Hid (HpAt (w3.setCell ⟨bm + 1, 1, none⟩ (.slice (some ⟨g3, 0, none⟩) (k + 1) cap3)) w.heap.size ⟨bm + 1, ba, bp, bw, bm, .slice (some ⟨g3, 0, none⟩) (k + 1) cap3⟩ m (Lk ++ [(mm : Int)]) Hs.none ∧ Below w.heap.size w (w3.setCell ⟨bm + 1, 1, none⟩ (.slice (some ⟨g3, 0, none⟩) (k + 1) cap3))) := HN
        clear HN ho3 hg3 hat3 r3 hc3 hf3 HO6 HN6 HK6 HR2 hc1 hf1 HO
        generalize w3.setCell ⟨bm + 1, 1, none⟩ (.slice (some ⟨g3, 0, none⟩) (k + 1) cap3) = w9 at *
        go_wp2_with fail
        go_roundw
        case rel => exact ⟨k + 1, by omega, by go_num, _, by rw [HL.out]; exact HN'⟩
        case measure => simp [intOf]; omega
    · go_wp2_with fail
      go_ret2
      have e : k = Ls.length := by omega
      subst e
      have h1 := HR.out
      rw [List.take_length] at h1
      exact ⟨_, rfl, h1⟩

set_option maxHeartbeats 1000000 in
theorem hnew_none (pages : Int) (m : Nat) (a : Option Addr) (c : Nat) (w : World) (hp : min (max pages 0) 64 = (m : Int)) :
    Calls Tryd.prog 8 #[.int .i64 pages, .slice a 0 c] w fun e w' => ∃ b : Hb, e = .returned (.tuple #[.pointer (some ⟨b.bh, 0, none⟩), .int .i64 0]) ∧
      HpAt w' w.heap.size b m [] Hs.none ∧ Below w.heap.size w w' := by
  have hmm := @run_makeMap Tryd.prog
  have HPG : Hid (min (max pages 0) 64 = (m : Int)) := hp
  clear hp
  go_enter Tryd.func8, Tryd.ntmps8
  go_wp2_with fail
  refine (check_none a c _).mono ?_
  rintro e w1 ⟨rfl, hB1⟩
  have HB1 : Hid (Below w.heap.size w w1) := hB1
  clear hB1
  go_wp2_with fail
  refine (anew_any pages m _ HPG.out).mono ?_
  rintro e w2 ⟨ba, bp, bw, rfl, ha, hB2⟩
  have HA2 : Hid (ArAt w2 w1.heap.size ba bp bw m (fun _ => none) (fun _ => 0) ∧ Below w1.heap.size w1 w2) := ⟨ha, hB2⟩
  clear ha hB2
  go_wp2_with fail
  have HH0 := new_start HA2.out.1 HB1.out HA2.out.2
  go_loop [22] (fun i => i = .int .i64 0) (fun _ => 0)
  case atStart => rfl
  case round =>
    obtain rfl := hrel
    go_wp2_with fail
    go_ret2
    exact ⟨_, rfl, HH0⟩
theorem hnew_any (pages : Int) (m : Nat) (Ls : List (List Int)) (v : Value) (w : World) (hp : min (max pages 0) 64 = (m : Int)) (hF : FitA Ls) (hc : chkN Ls = 0) (h : ShV w v Ls) :
    Calls Tryd.prog 8 #[.int .i64 pages, v] w fun e w' => ∃ b : Hb, e = .returned (.tuple #[.pointer (some ⟨b.bh, 0, none⟩), .int .i64 0]) ∧
      HpAt w' w.heap.size b m (lens Ls) Hs.none ∧ Below w.heap.size w w' := by
  rcases h with ⟨rfl, a, c, rfl⟩ | ⟨bs, off, c, rfl, h⟩
  · exact hnew_none pages m a c w hp
  · exact hnew_core pages m Ls w hp hF hc h

end Go.Proofs.YtfkimmbnmcgjiaaDoor

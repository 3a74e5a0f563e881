/- The walk of All. -/
import Derived.Test.YtfkimmbnmcgjiaaDoorArE
import Derived.Test.YtfkimmbnmcgjiaaDoorKpD
namespace Go.Proofs.YtfkimmbnmcgjiaaDoor
open Go.RowKit

/-- Where the used slots of a page begin; of all pages below j. -/
def adI (k z : Nat) (s : Int) : Int := 1048576 + 32 * (k : Int) + s * (z : Int)
def pl1 (k : Nat) : Option PSt → List Int
  | none => []
  | some p => (els p.U p.n).map (adI k p.sz)
def allL (P : Nat → Option PSt) : Nat → List Int
  | 0 => []
  | j + 1 => allL P j ++ pl1 j (P j)
theorem els_mem (U : Nat → Bool) : ∀ (n : Nat) (x : Int), x ∈ els U n → ∃ m : Nat, m < n ∧ x = (m : Int) ∧ U m = true
  | 0, x, h => by simp [els] at h
  | n + 1, x, h => by
    rcases List.mem_append.1 h with h | h
    · obtain ⟨m, h1, h2⟩ := els_mem U n x h
      exact ⟨m, by omega, h2⟩
    · cases hU : U n
      · rw [hU] at h; simp at h
      · rw [hU] at h; simp at h; exact ⟨n, by omega, h, hU⟩
theorem pl1_len (k : Nat) (o : Option PSt) (h : ∀ p, o = some p → p.n ≤ 32) : (pl1 k o).length ≤ 32 := by
  cases o with
  | none => simp [pl1]
  | some p =>
    have := h p rfl
    have h2 := cnt_le p.U p.n
    simp [pl1, els_len]
    omega
theorem allL_len (P : Nat → Option PSt) (h : ∀ k p, P k = some p → p.n ≤ 32) : ∀ j, (allL P j).length ≤ 32 * j
  | 0 => by simp [allL]
  | j + 1 => by
    have h1 := allL_len P h j
    have h2 := pl1_len j (P j) (h j)
    simp [allL]
    omega
theorem take_next {L : List Int} {i : Nat} (h : i < L.length) (f : Int → Int) : (L.take (i + 1)).map f = (L.take i).map f ++ [f (L.getD i 0)] := by
  rw [take_snocD L i h, List.map_append]; rfl

/-- In the midst of All: the list of what was found, what was there, the list of one page's slots. -/
structure AlSt (w wr : World) (B ba bp bw n : Nat) (P : Nat → Option PSt) (W : Nat → Int) (l : Value) (L : List Int) : Prop where
  ar : ArAt wr B ba bp bw n P W
  ow : wr.ownsRow w.heap.size 3 1 l L.length (L.map (Value.int .i64))
  lo : Below w.heap.size w wr

theorem al_next {w wr w8 : World} {B ba bp bw n : Nat} {P : Nat → Option PSt} {W : Nat → Int} {l : Value} {L : List Int} (h : AlSt w wr B ba bp bw n P W l L) (H : ArAt w B ba bp bw n P W) {o : Obj} {g' cap : Nat} {a0 : Int}
    (ho8 : w8.ownsRow w.heap.size 3 1 (.slice (some ⟨g', 0, none⟩) (L.length + 1) cap) (L.length + 1) (L.map (Value.int .i64) ++ [.int .i64 a0])) (hg : (wr.alloc o).grownBy w8 l.ownBlock) :
    AlSt w w8 B ba bp bw n P W (.slice (some ⟨g', 0, none⟩) (L.length + 1) cap) (L ++ [a0]) := by
  have hs := h.lo.size
  have lo : Below w.heap.size w w8 := (h.lo.alloc h.lo.size o).grown hg (by simp; omega) (fun k hk => (h.ow.lt k hk).1)
  exact ⟨H.below lo, by simpa using ho8, lo⟩
theorem al_cells {wr w8 : World} {l : Value} {o : Obj} {g : Nat} (hg : (wr.alloc o).grownBy w8 l.ownBlock) (h1 : g < wr.heap.size) (h2 : l.ownBlock ≠ some g) : g < w8.heap.size ∧ ∀ i, w8.cell? ⟨g, i, none⟩ = wr.cell? ⟨g, i, none⟩ := by
  have hs := hg.size
  have e1 : w8.heap[g]? = (wr.alloc o).heap[g]? := hg.block g (by simp; omega) (fun e => h2 e.symm)
  have e2 : (wr.alloc o).heap[g]? = wr.heap[g]? := ((Below.refl _ wr).alloc (Nat.le_refl _) o).block g h1
  refine ⟨by simp at hs; omega, fun i => ?_⟩
  simp only [World.cell?, e1, e2]
theorem al_block {al : Option Addr} {S m0 m cl cap g g' : Nat} (h1 : g < S) (h2 : (Value.slice al m0 cl).ownBlock ≠ some g) (hat : al = some ⟨g', 0, none⟩ ∧ cl = cap ∨ S + 1 ≤ g') : (Value.slice (some ⟨g', 0, none⟩) m cap).ownBlock ≠ some g := by
  rcases hat with ⟨rfl, _⟩ | h
  · simpa [Value.ownBlock] using h2
  · simp [Value.ownBlock]
    omega

set_option maxHeartbeats 400000 in
theorem aall_nil (w : World) :
    Calls Tryd.prog 35 #[.pointer none] w fun e w' => e = .returned (.slice none 0 0) ∧ w' = w := by
  go_enter Tryd.func35, Tryd.ntmps35
  go_wp2
  go_ret
  exact ⟨rfl, rfl⟩

set_option maxRecDepth 100000 in
set_option maxHeartbeats 2000000 in
theorem aall_any (w : World) {B ba bp bw n : Nat} {P : Nat → Option PSt} {W : Nat → Int} (h : ArAt w B ba bp bw n P W) :
    Calls Tryd.prog 35 #[.pointer (some ⟨ba, 0, none⟩)] w fun e w' => ∃ r, e = .returned r ∧
      w'.ownsRow w.heap.size 3 1 r (allL P n).length ((allL P n).map (Value.int .i64)) ∧ Below w.heap.size w w' := by
  obtain ⟨i0, hi, hz0, hz1, hz2⟩ := info_parts Tryd.info3
  have HL : Hid (∀ j, (allL P j).length ≤ 32 * j) := allL_len P (fun k p e => (h.num e).n32)
  have H : Hid (ArAt w B ba bp bw n P W) := h
  have hN := h.n64
  have h0 := h.c0
  clear h
  go_enter Tryd.func35, Tryd.ntmps35
  go_wp2_with fail
  go_loopw [3, 15] (fun l i wr => ∃ j : Nat, j ≤ n ∧ i = .int .i64 j ∧ AlSt w wr B ba bp bw n P W l (allL P j)) (fun _ i _ => n - (intOf i).toNat)
  case atStart => exact ⟨0, Nat.zero_le _, rfl, H.out, World.ownsRow_nil _ _ _ _, Below.refl _ _⟩
  case round =>
    obtain ⟨j, hj, rfl, hst⟩ := hrel
    obtain ⟨l0, hl0⟩ : ∃ l0, l0 = u3 := ⟨_, rfl⟩
    subst hl0
    have HS : Hid (AlSt w wr B ba bp bw n P W l0 (allL P j)) := hst
    clear hst
    by_cases hlt : j < n
    · have h1 := HS.out.ar.cp hlt
      obtain ⟨w1, hw1⟩ : ∃ w1, w1 = wr := ⟨_, rfl⟩
      subst hw1
      cases hp : P j with
      | none => as_aux_lemma =>
        have HE : Hid (allL P (j + 1) = allL P j) := by show allL P j ++ pl1 j (P j) = _; rw [hp]; simp [pl1]
        rw [hp] at h1
        change w1.cell? ⟨bp, j, none⟩ = some (.pointer none) at h1
        clear hp
        go_wp2_with fail
        refine (all_nil _).mono ?_
        rintro e w' ⟨rfl, rfl⟩
        go_wp2_with fail
        go_loopw [3, 23] (fun l i wr => l = l0 ∧ i = .int .i64 0 ∧ wr = w') (fun _ _ _ => 0)
        case atStart => exact ⟨rfl, rfl, rfl⟩
        case round =>
          obtain ⟨rfl, rfl, rfl⟩ := hrel
          go_wp2_with fail
          go_roundw
          case rel => exact ⟨j + 1, by omega, by go_num, by rw [HE.out]; exact HS.out⟩
          case measure => simp [intOf]; omega
      | some p => as_aux_lemma =>
        have HP : Hid (P j = some p) := hp
        have HE : Hid (allL P (j + 1) = allL P j ++ (els p.U p.n).map (adI j p.sz)) := by show allL P j ++ pl1 j (P j) = _; rw [hp]; rfl
        have HLj : Hid ((allL P j).length ≤ 2048 ∧ cnt p.U p.n ≤ 32) := ⟨by have := HL.out j; omega, by have := cnt_le p.U p.n; have := (H.out.num hp).n32; omega⟩
        rw [hp] at h1
        change w1.cell? ⟨bp, j, none⟩ = some (.pointer (some ⟨p.blk, 0, none⟩)) at h1
        clear hp HL
        go_wp2_with fail
        refine (all_any _ (HS.out.ar.pg j p HP.out)).mono ?_
        rintro e w2 ⟨r, rfl, ho, hB⟩
        have hsrc : SrcAt w2 r (els p.U p.n) := src_of_own (by rw [els_len]; exact ho)
        have hrb : ∀ g, r.ownBlock = some g → w1.heap.size ≤ g ∧ g < w2.heap.size := fun g hg => ⟨(ho.lt g hg).1, (ho.lt g hg).2⟩
        have hub : ∀ g, l0.ownBlock = some g → g < w1.heap.size := fun g hg => (HS.out.ow.lt g hg).2
        obtain ⟨a, cc, rfl⟩ := own_len ho
        have H2 : Hid (AlSt w w2 B ba bp bw n P W l0 (allL P j)) := ⟨HS.out.ar.below hB, (Ty.of_below (K := []) (B := 0) hB).own HS.out.ow (by simp), HS.out.lo.trans (hB.mono HS.out.lo.size)⟩
        have HC : Hid (∀ i, i < cnt p.U p.n → ∃ g, a = some ⟨g, 0, none⟩ ∧ g < w2.heap.size ∧ l0.ownBlock ≠ some g ∧ ∀ i', i' < cnt p.U p.n → w2.cell? ⟨g, i', none⟩ = some (.int .i64 ((els p.U p.n).getD i' 0))) := by
          intro i hi'
          obtain ⟨g, cap, e, _, _⟩ := ho.form (by omega)
          simp only [Value.slice.injEq, true_and] at e
          obtain ⟨rfl, rfl⟩ := e
          have hg := hrb g (by simp [Value.ownBlock])
          refine ⟨g, rfl, hg.2, fun e2 => by have := hub g e2; omega, fun i' hi2 => ?_⟩
          have := ho.cells (g := g) rfl i' (.int .i64 ((els p.U p.n).getD i' 0)) (by
            have hl : i' < (els p.U p.n).length := by rw [els_len]; exact hi2
            simp [hl])
          rw [Go.WideShapes.add_plain] at this
          simpa using this
        have hcb := HLj.out.2
        have HLE : Hid ((els p.U p.n).length = cnt p.U p.n) := els_len _ _
        clear ho hB hsrc hrb hub h1 h0 HS
        generalize cnt p.U p.n = cn at *
        go_wp2_with fail
        go_loopw [3, 23] (fun l i wr => ∃ t : Nat, t ≤ cn ∧ i = .int .i64 t ∧ AlSt w wr B ba bp bw n P W l (allL P j ++ ((els p.U p.n).take t).map (adI j p.sz)) ∧ (∀ i, i < cn → ∃ g, a = some ⟨g, 0, none⟩ ∧ g < wr.heap.size ∧ l.ownBlock ≠ some g ∧ ∀ i', i' < cn → wr.cell? ⟨g, i', none⟩ = some (.int .i64 ((els p.U p.n).getD i' 0)))) (fun _ i _ => cn - (intOf i).toNat)
        case atStart => exact ⟨0, Nat.zero_le _, rfl, by simpa using H2.out, HC.out⟩
        case round =>
          obtain ⟨t, ht, rfl, hst, hcs⟩ := hrel
          by_cases hlt2 : t < cn
          · obtain ⟨g, rfl, hg1, hg2, hg3⟩ := hcs t hlt2
            have hx : wr.cell? ⟨g, t, none⟩ = some (.int .i64 ((els p.U p.n).getD t 0)) := hg3 t hlt2
            have HG3 : Hid (∀ i', i' < cn → wr.cell? ⟨g, i', none⟩ = some (.int .i64 ((els p.U p.n).getD i' 0))) := hg3
            obtain ⟨s, hs1, hs2, hs3⟩ := els_mem p.U p.n ((els p.U p.n).getD t 0) (by
              have hl : t < (els p.U p.n).length := by rw [HLE.out]; exact hlt2
              rw [List.getD_eq_getElem?_getD, List.getElem?_eq_getElem hl]; exact List.getElem_mem _)
            rw [hs2] at hx
            have HTK : Hid (((els p.U p.n).take (t + 1)).map (adI j p.sz) = ((els p.U p.n).take t).map (adI j p.sz) ++ [((adr j s p.sz : Nat) : Int)]) := by
              show _ = _
              rw [take_next (by rw [HLE.out]; exact hlt2), hs2]
              unfold adI adr
              simp
            have HSt : Hid (AlSt w wr B ba bp bw n P W u3 (allL P j ++ ((els p.U p.n).take t).map (adI j p.sz))) := hst
            have HG1 : Hid (g < wr.heap.size ∧ u3.ownBlock ≠ some g) := ⟨hg1, hg2⟩
            have HS1 : Hid (s < p.n) := hs1
            obtain ⟨L, hL⟩ : ∃ L, L = allL P j ++ ((els p.U p.n).take t).map (adI j p.sz) := ⟨_, rfl⟩
            have hLl : L.length ≤ 2080 := by
              have := HLj.out.1
              rw [hL]; simp; omega
            have HTL : Hid (allL P j ++ ((els p.U p.n).take (t + 1)).map (adI j p.sz) = L ++ [((adr j s p.sz : Nat) : Int)]) := by
              show _ = _
              rw [HTK.out, hL, List.append_assoc]
            have HSL : Hid (AlSt w wr B ba bp bw n P W u3 L) := by rw [hL]; exact HSt.out
            have HH8 : Hid (L.length + 1 ≤ maxLen ∧ (L.length + 1) * 8 ≤ 140737488355328 ∧ ∀ o, w.heap.size ≤ (wr.alloc o).heap.size) := ⟨by unfold maxLen; omega, by omega, fun o => by have := HSL.out.lo.size; simp; omega⟩
            clear hst hcs hg3 hg1 hg2 hs2 HTK HSt hL hs1 hs3
            obtain ⟨al, cl', rfl⟩ := own_len HSL.out.ow
            go_wp2_with fail
            refine (base_some j s _ HSL.out.ar HP.out HS1.out).mono ?_
            rintro e w' ⟨rfl, rfl⟩
            generalize adr j s p.sz = a0 at *
            go_wp2_with (at_builtin; refine wpList_append_keep _ rfl _ _ 22 rfl w.heap.size 3 i0 (.int .i64 0) 8 Tryd.underlying22 hi hz0 hz1 hz2 rfl _ _ _ rfl (HSL.out.ow.alloc _) ⟨w'.heap.size, 0, none⟩ 1 1 [.int .i64 (a0 : Int)] rfl rfl (new_one w' _ _) (one_of rfl) (by decide) HH8.out.1 HH8.out.2.1 (HH8.out.2.2 _) ?_)
            intro g' cap w8 ho8 hold hgrow hat
            have HN : Hid (AlSt w w8 B ba bp bw n P W (.slice (some ⟨g', 0, none⟩) (L.length + 1) cap) (L ++ [(a0 : Int)])) := al_next HSL.out H.out ho8 hgrow
            have HN2 : Hid (g < w8.heap.size ∧ ∀ i, w8.cell? ⟨g, i, none⟩ = w'.cell? ⟨g, i, none⟩) := al_cells hgrow HG1.out.1 HG1.out.2
            have HN3 : Hid ((Value.slice (some ⟨g', 0, none⟩) (L.length + 1) cap).ownBlock ≠ some g) := al_block HG1.out.1 HG1.out.2 hat
            clear ho8 hold hgrow hat hx HG1 HSL
            go_wp2_with fail
            go_roundw
            case rel => exact ⟨t + 1, by omega, by go_num, by rw [HTL.out]; exact HN.out, fun i _ => ⟨g, rfl, HN2.out.1, HN3.out, fun i' hi' => (HN2.out.2 i').trans (HG3.out i' hi')⟩⟩
            case measure => simp [intOf]; omega
          · have e : t = cn := by omega
            subst e
            have HTF : Hid (allL P (j + 1) = allL P j ++ ((els p.U p.n).take t).map (adI j p.sz)) := by
              show _ = _
              rw [HE.out, List.take_of_length_le (by rw [HLE.out]; exact Nat.le_refl _)]
            have HSt : Hid (AlSt w wr B ba bp bw n P W u3 (allL P j ++ ((els p.U p.n).take t).map (adI j p.sz))) := hst
            clear hst hcs
            go_wp2_with fail
            go_roundw
            case rel => exact ⟨j + 1, by omega, by go_num, by rw [HTF.out]; exact HSt.out⟩
            case measure => simp [intOf]; omega
    · as_aux_lemma =>
      have e : j = n := by omega
      subst e
      go_wp2_with fail
      go_ret
      exact ⟨_, rfl, HS.out.ow, HS.out.lo⟩

end Go.Proofs.YtfkimmbnmcgjiaaDoor

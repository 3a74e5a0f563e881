/- Shapes that may be: the walk of the law's own Shapes. -/
import Derived.Test.YtfkimmbnmcgjiaaDoorHpO
namespace Go.Proofs.YtfkimmbnmcgjiaaDoor
open Go.RowKit

theorem own_grown {w w' : World} {base base' : Nat} {e e' : TypeId} {v v' : Value} {n n' : Nat} {xs xs' : List Value} (h : w.ownsRow base e 1 v n xs) (o : w.ownsRow base' e' 1 v' n' xs') (hne : e ≠ e') (hg : w.grownBy w' v'.ownBlock) : w'.ownsRow base e 1 v n xs := by
  refine ⟨h.1, ?_⟩
  rcases h.2 with h2 | ⟨g, cap, cur, hv, hg', hh, r⟩
  · exact Or.inl h2
  · refine Or.inr ⟨g, cap, cur, hv, hg', (hg.block g (Array.getElem?_eq_some_iff.1 hh).1 (fun e1 => ?_)).trans hh, r⟩
    rcases o.2 with ⟨e2, _⟩ | ⟨g2, cap2, cur2, e2, _, hh2, _⟩
    · rw [e2] at e1; simp [Value.ownBlock] at e1
    · rw [e2] at e1
      simp [Value.ownBlock] at e1
      subst e1
      rw [hh] at hh2
      cases hh2
      exact hne rfl

/-- A list of shapes as it grows. -/
structure ShO (w wr : World) (v : Value) (Ls : List (List Int)) : Prop where
  ow : ∃ vs : List Value, wr.ownsRow w.heap.size 35 1 v Ls.length vs ∧ ∀ j, j < Ls.length → ∃ a c, vs[j]? = some (.slice a (Ls.getD j []).length c) ∧ wr.ownsRow w.heap.size 3 1 (.slice a (Ls.getD j []).length c) (Ls.getD j []).length ((Ls.getD j []).map (Value.int .i64))
  lo : Below w.heap.size w wr
theorem ShO.below {w wr w' : World} {v : Value} {Ls : List (List Int)} (h : ShO w wr v Ls) (hb : Below wr.heap.size wr w') : ShO w w' v Ls := by
  obtain ⟨⟨vs, h1, h2⟩, h3⟩ := h
  refine ⟨⟨vs, (Ty.of_below (K := []) (B := 0) hb).own h1 (by simp), fun j hj => ?_⟩, h3.trans (hb.mono h3.size)⟩
  obtain ⟨a, c, e, h4⟩ := h2 j hj
  exact ⟨a, c, e, (Ty.of_below (K := []) (B := 0) hb).own h4 (by simp)⟩
theorem ShO.shv {w wr : World} {v : Value} {Ls : List (List Int)} (h : ShO w wr v Ls) : ShV wr v Ls := by
  obtain ⟨⟨vs, h1, h2⟩, h3⟩ := h
  rcases h1.2 with ⟨rfl, h0⟩ | ⟨g, cap, cur, rfl, _, hg, _⟩
  · refine Or.inl ⟨List.eq_nil_of_length_eq_zero h0, ?_⟩
    exact ⟨none, 0, rfl⟩
  · refine Or.inr ⟨g, 0, cap, rfl, (Array.getElem?_eq_some_iff.1 hg).1, fun j hj => ?_⟩
    obtain ⟨a, c, e, h4⟩ := h2 j hj
    refine ⟨a, c, ?_, src_of_own h4⟩
    have hc := h1.cells (g := g) rfl j _ e
    rw [Go.WideShapes.add_plain] at hc
    exact hc
theorem ShO.next {w wr w8 : World} {v : Value} {Ls : List (List Int)} {vs : List Value} (h1 : wr.ownsRow w.heap.size 35 1 v Ls.length vs)
    (h2 : ∀ j, j < Ls.length → ∃ a c, vs[j]? = some (.slice a (Ls.getD j []).length c) ∧ wr.ownsRow w.heap.size 3 1 (.slice a (Ls.getD j []).length c) (Ls.getD j []).length ((Ls.getD j []).map (Value.int .i64)))
    (h3 : Below w.heap.size w wr) {F : List Int} {a : Option Addr} {c g' cap : Nat} {o : Obj} (hF : wr.ownsRow w.heap.size 3 1 (.slice a F.length c) F.length (F.map (Value.int .i64)))
    (ho8 : w8.ownsRow w.heap.size 35 1 (.slice (some ⟨g', 0, none⟩) (Ls.length + 1) cap) (Ls.length + 1) (vs ++ [.slice a F.length c])) (hg : (wr.alloc o).grownBy w8 v.ownBlock) :
    ShO w w8 (.slice (some ⟨g', 0, none⟩) (Ls.length + 1) cap) (Ls ++ [F]) := by
  have hb : Below wr.heap.size wr (wr.alloc o) := (Below.refl _ _).alloc (Nat.le_refl _) o
  have t := Ty.of_below (K := []) (B := 0) hb
  have hs := h3.size
  have k1 := t.own h1 (by simp)
  have hvl : vs.length = Ls.length := by have := h1.1; omega
  refine ⟨⟨vs ++ [.slice a F.length c], by simpa using ho8, fun j hj => ?_⟩, (h3.alloc h3.size o).grown hg (by simp; omega) (fun k hk => (h1.lt k hk).1)⟩
  by_cases hj' : j < Ls.length
  · obtain ⟨a2, c2, e, h4⟩ := h2 j hj'
    have e1 : (Ls ++ [F]).getD j [] = Ls.getD j [] := by simp [List.getD, List.getElem?_append_left hj']
    rw [e1]
    exact ⟨a2, c2, by rw [List.getElem?_append_left (by omega)]; exact e, own_grown (t.own h4 (by simp)) k1 (by decide) hg⟩
  · have hj2 : j = Ls.length := by simp at hj; omega
    subst hj2
    have e1 : (Ls ++ [F]).getD Ls.length [] = F := by simp [List.getD]
    rw [e1]
    exact ⟨a, c, by rw [List.getElem?_append_right (by omega), hvl]; simp, own_grown (t.own hF (by simp)) k1 (by decide) hg⟩

/-- A field that may be, where there are n shapes. -/
def GoodF (n : Nat) (F : List Int) : Prop := ∀ x ∈ F, x = 1 ∨ (16 ≤ x ∧ x < 16 + (n : Int))
def GoodL (n : Nat) (Ls : List (List Int)) : Prop := ∀ F ∈ Ls, GoodF n F ∧ 1 ≤ F.length ∧ F.length ≤ 16
theorem GoodF.app {n : Nat} {F : List Int} (h : GoodF n F) {x : Int} (hx : x = 1 ∨ (16 ≤ x ∧ x < 16 + (n : Int))) : GoodF n (F ++ [x]) := by
  intro y hy
  rcases List.mem_append.1 hy with h1 | h1
  · exact h y h1
  · simp at h1; rw [h1]; exact hx
theorem GoodL.app {n : Nat} {Ls : List (List Int)} (h : GoodL n Ls) {F : List Int} (hF : GoodF n F ∧ 1 ≤ F.length ∧ F.length ≤ 16) : GoodL n (Ls ++ [F]) := by
  intro y hy
  rcases List.mem_append.1 hy with h1 | h1
  · exact h y h1
  · simp at h1; rw [h1]; exact hF
theorem GoodL.fit {n : Nat} {Ls : List (List Int)} (h : GoodL n Ls) (hn : n ≤ 16) : FitA Ls := by
  intro F hF x hx
  have := (h F hF).1 x hx
  exact WalkArith.wf_i64 (by omega)
theorem GoodL.chk {Ls : List (List Int)} (h : GoodL Ls.length Ls) (hn : Ls.length ≤ 16) : chkN Ls = 0 := by
  unfold chkN
  rw [if_neg (by omega)]
  refine first_none fun j hj => ?_
  have hm : Ls.getD j [] ∈ Ls := by rw [List.getD, List.getElem?_eq_getElem hj]; exact List.getElem_mem hj
  obtain ⟨h1, h2, h3⟩ := h _ hm
  unfold oneN
  rw [if_neg (by omega), if_neg]
  have : (Ls.getD j []).countP (fun x => fldB x Ls.length) = (Ls.getD j []).length := by
    rw [List.countP_eq_length]
    intro x hx
    have := h1 x hx
    simp [fldB]
    omega
  omega

theorem rem_twice (n c : Int) (hc : 1 ≤ c) (hc2 : c ≤ 1000) : ∃ (r : Int) (m : Nat), n.tmod c = r ∧ -1000 ≤ r ∧ r ≤ 1000 ∧ 0 ≤ r + c ∧ (r + c).tmod c = (m : Int) ∧ (r + c) % c = (m : Int) ∧ (m : Int) < c := by
  have h1 := Int.tmod_lt_of_pos n (show 0 < c by omega)
  have h2 := Int.lt_tmod_of_pos n (show 0 < c by omega)
  have h3 : (n.tmod c + c).tmod c = (n.tmod c + c) % c := Int.tmod_eq_emod_of_nonneg (by omega)
  have h4 := Int.emod_nonneg (n.tmod c + c) (show c ≠ 0 by omega)
  have h5 := Int.emod_lt_of_pos (n.tmod c + c) (show 0 < c by omega)
  exact ⟨n.tmod c, ((n.tmod c + c) % c).toNat, rfl, by omega, by omega, by omega, by rw [h3]; omega, by omega, by omega⟩

theorem Tryd.infoShape : (Tryd.prog.info? 35).map (fun i => (i.zero, i.size, i.bytes)) = some (some (.agg #[.slice none 0 0]), 1, 24) := by kernel_rfl
theorem Tryd.underShapes : Tryd.prog.underlying 24 = some (.slice 35) := by kernel_rfl

set_option maxRecDepth 100000 in
set_option maxHeartbeats 4000000 in
theorem shapes_any (L : List Int) (a : Option Addr) (c : Nat) (w : World) (hl : L.length ≤ 1000) (hL : SrcAt w (.slice a L.length c) L) :
    Calls Tryd.prog 7 #[.slice a L.length c] w fun e w' => ∃ (v : Value) (Ls : List (List Int)), e = .returned v ∧ Ls.length = min L.length 8 ∧ GoodL Ls.length Ls ∧ ShV w' v Ls ∧ Below w.heap.size w w' := by
  obtain ⟨i0, hi, hz0, hz1, hz2⟩ := info_parts Tryd.info3
  obtain ⟨i1, hj, hy0, hy1, hy2⟩ := info_parts Tryd.infoShape
  obtain ⟨N, hN⟩ : ∃ N, N = min L.length 8 := ⟨_, rfl⟩
  have HL : Hid (SrcAt w (.slice a L.length c) L) := hL
  have HN : Hid (N = min L.length 8) := hN
  have hN8 : N ≤ 8 := by omega
  clear hL hN
  go_enter Tryd.func7, Tryd.ntmps7
  go_wp2_with fail
  go_loopw [3, 4] (fun ov iv wr => ∃ (i : Nat) (Ls : List (List Int)), i ≤ N ∧ iv = .int .i64 i ∧ Hid (Ls.length = i) ∧ Hid (GoodL N Ls) ∧ Hid (ShO w wr ov Ls)) (fun _ iv _ => N - (intOf iv).toNat)
  case atStart => exact ⟨0, [], Nat.zero_le _, rfl, rfl, (fun F hF => by simp at hF), ⟨⟨[], World.ownsRow_nil _ _ _ _, fun j hj => by simp at hj⟩, Below.refl _ _⟩⟩
  case round =>
    obtain ⟨i, Ls, hiN, rfl, HI, HG, HO⟩ := hrel
    by_cases hlt : i < N
    · have hi1 : (i : Int) < (L.length : Int) := by have := HN.out; omega
      have hi8 : (i : Int) < 8 := by omega
      rcases HL.out with ⟨e, _⟩ | ⟨gl, off, cc, e, hgl, hcl0⟩
      · exfalso
        rw [e] at hi1
        simp at hi1
        omega
      cases e
      obtain ⟨x, hx⟩ : ∃ x, L.getD i 0 = x := ⟨_, rfl⟩
      have HX : Hid (∀ w', Below w.heap.size w w' → w'.cell? ⟨gl, off + i, none⟩ = some (.int .i64 x)) := fun w' hb => by
        rw [← hx]
        exact (hb.cell (p := ⟨gl, off + i, none⟩) hgl).trans (hcl0 i (by omega))
      obtain ⟨r, m, hr1, hr2, hr3, hr4, hr5, hr6, hr7⟩ := rem_twice x 16 (by omega) (by omega)
      obtain ⟨w5, h5⟩ : ∃ w5, w5 = wr := ⟨_, rfl⟩
      subst h5
      clear hcl0 hx
      go_wp2_with fail
      go_loopw [5, 6] (fun lv kv wr => ∃ (k : Nat) (F : List Int), k ≤ m + 1 ∧ kv = .int .i64 k ∧ Hid (F.length = k) ∧ Hid (GoodF N F) ∧ Hid (wr.ownsRow w5.heap.size 3 1 lv F.length (F.map (Value.int .i64)) ∧ Below w5.heap.size w5 wr)) (fun _ kv _ => m + 1 - (intOf kv).toNat)
      case atStart => exact ⟨0, [], by omega, rfl, rfl, (fun x hx => by simp at hx), ⟨World.ownsRow_nil _ _ _ _, Below.refl _ _⟩⟩
      case round =>
        obtain ⟨k, F, hk, rfl, HF1, HF2, HF3⟩ := hrel
        have e := HF1.out
        subst e
        clear HF1
        have hcl := HX.out wr (HO.out.lo.trans (HF3.out.2.mono HO.out.lo.size))
        obtain ⟨al, cl, rfl⟩ := own_len HF3.out.1
        by_cases hlt2 : F.length ≤ m
        · obtain ⟨sm, hsm⟩ : ∃ sm, wrap64 (x + (F.length : Int)) = sm := ⟨_, rfl⟩
          have HH8 : Hid (F.length + 1 ≤ maxLen ∧ (F.length + 1) * 8 ≤ 140737488355328 ∧ ∀ o, w5.heap.size ≤ (wr.alloc o).heap.size) := ⟨by unfold maxLen; omega, by omega, fun o => by have := HF3.out.2.size; simp; omega⟩
          by_cases hpar : sm.tmod 2 = 0
          · by_cases h8 : 8 < (L.length : Int)
            · have eN : N = 8 := by have := HN.out; omega
              obtain ⟨tt, ht1, ht2⟩ : ∃ tt : Nat, ((F.length : Int) * 7 + (i : Int)) % 8 = (tt : Int) ∧ tt < 8 := ⟨(((F.length : Int) * 7 + (i : Int)) % 8).toNat, by omega, by omega⟩
              go_wp2_with (at_builtin; refine wpList_append_keep _ rfl _ _ 22 rfl w5.heap.size 3 i0 (.int .i64 0) 8 Tryd.underlying22 hi hz0 hz1 hz2 rfl _ _ _ rfl (HF3.out.1.alloc _) ⟨wr.heap.size, 0, none⟩ 1 1 [.int .i64 (16 + (tt : Int))] rfl rfl (new_one wr _ _) (one_of rfl) (by decide) HH8.out.1 HH8.out.2.1 (HH8.out.2.2 _) ?_)
              intro g' cap w8 ho8 hold hgrow hat
              have HN8 : Hid (w8.ownsRow w5.heap.size 3 1 (.slice (some ⟨g', 0, none⟩) (F.length + 1) cap) (F ++ [16 + (tt : Int)]).length ((F ++ [16 + (tt : Int)]).map (Value.int .i64)) ∧ Below w5.heap.size w5 w8) :=
                ⟨by simpa using ho8, (HF3.out.2.alloc HF3.out.2.size _).grown hgrow (by have := HF3.out.2.size; simp; omega) (fun k hk => (HF3.out.1.lt k hk).1)⟩
              clear ho8 hold hgrow hat
              go_wp2_with fail
              go_roundw
              case rel => exact ⟨F.length + 1, F ++ [16 + (tt : Int)], by omega, by go_num, (by simp : (F ++ [16 + (tt : Int)]).length = F.length + 1), HF2.out.app (by omega), HN8⟩
              case measure => simp [intOf]; omega
            · have eN : N = L.length := by have := HN.out; omega
              obtain ⟨tt, ht1, ht2⟩ : ∃ tt : Nat, ((F.length : Int) * 7 + (i : Int)) % (L.length : Int) = (tt : Int) ∧ tt < L.length := by
                have h1 := Int.emod_nonneg ((F.length : Int) * 7 + (i : Int)) (show (L.length : Int) ≠ 0 by omega)
                have h2 := Int.emod_lt_of_pos ((F.length : Int) * 7 + (i : Int)) (show 0 < (L.length : Int) by omega)
                exact ⟨(((F.length : Int) * 7 + (i : Int)) % (L.length : Int)).toNat, by omega, by omega⟩
              have ht3 : ((F.length : Int) * 7 + (i : Int)).tmod (L.length : Int) = (tt : Int) := by
                rw [Int.tmod_eq_emod_of_nonneg (by omega)]
                exact ht1
              go_wp2_with (at_builtin; refine wpList_append_keep _ rfl _ _ 22 rfl w5.heap.size 3 i0 (.int .i64 0) 8 Tryd.underlying22 hi hz0 hz1 hz2 rfl _ _ _ rfl (HF3.out.1.alloc _) ⟨wr.heap.size, 0, none⟩ 1 1 [.int .i64 (16 + (tt : Int))] rfl rfl (new_one wr _ _) (one_of rfl) (by decide) HH8.out.1 HH8.out.2.1 (HH8.out.2.2 _) ?_)
              intro g' cap w8 ho8 hold hgrow hat
              have HN8 : Hid (w8.ownsRow w5.heap.size 3 1 (.slice (some ⟨g', 0, none⟩) (F.length + 1) cap) (F ++ [16 + (tt : Int)]).length ((F ++ [16 + (tt : Int)]).map (Value.int .i64)) ∧ Below w5.heap.size w5 w8) :=
                ⟨by simpa using ho8, (HF3.out.2.alloc HF3.out.2.size _).grown hgrow (by have := HF3.out.2.size; simp; omega) (fun k hk => (HF3.out.1.lt k hk).1)⟩
              clear ho8 hold hgrow hat
              go_wp2_with fail
              go_roundw
              case rel => exact ⟨F.length + 1, F ++ [16 + (tt : Int)], by omega, by go_num, (by simp : (F ++ [16 + (tt : Int)]).length = F.length + 1), HF2.out.app (by omega), HN8⟩
              case measure => simp [intOf]; omega
          · go_wp2_with (at_builtin; refine wpList_append_keep _ rfl _ _ 22 rfl w5.heap.size 3 i0 (.int .i64 0) 8 Tryd.underlying22 hi hz0 hz1 hz2 rfl _ _ _ rfl (HF3.out.1.alloc _) ⟨wr.heap.size, 0, none⟩ 1 1 [.int .i64 1] rfl rfl (new_one wr _ _) (one_of rfl) (by decide) HH8.out.1 HH8.out.2.1 (HH8.out.2.2 _) ?_)
            intro g' cap w8 ho8 hold hgrow hat
            have HN8 : Hid (w8.ownsRow w5.heap.size 3 1 (.slice (some ⟨g', 0, none⟩) (F.length + 1) cap) (F ++ [1]).length ((F ++ [1]).map (Value.int .i64)) ∧ Below w5.heap.size w5 w8) :=
              ⟨by simpa using ho8, (HF3.out.2.alloc HF3.out.2.size _).grown hgrow (by have := HF3.out.2.size; simp; omega) (fun k hk => (HF3.out.1.lt k hk).1)⟩
            clear ho8 hold hgrow hat
            go_wp2_with fail
            go_roundw
            case rel => exact ⟨F.length + 1, F ++ [1], by omega, by go_num, (by simp : (F ++ [(1 : Int)]).length = F.length + 1), HF2.out.app (Or.inl rfl), HN8⟩
            case measure => simp [intOf]; omega
        · have HO2 : Hid (ShO w wr u3 Ls) := HO.out.below HF3.out.2
          have hlm : Ls.length ≤ 8 := by have := HI.out; omega
          have HFo : Hid (wr.ownsRow w.heap.size 3 1 (.slice al F.length cl) F.length (F.map (Value.int .i64))) := own_base HF3.out.1 HO.out.lo.size
          obtain ⟨vs, hv1, hv2⟩ := HO2.out.ow
          have HV : Hid (wr.ownsRow w.heap.size 35 1 u3 Ls.length vs) := hv1
          have HV2 : Hid (∀ j, j < Ls.length → ∃ a c, vs[j]? = some (.slice a (Ls.getD j []).length c) ∧ wr.ownsRow w.heap.size 3 1 (.slice a (Ls.getD j []).length c) (Ls.getD j []).length ((Ls.getD j []).map (Value.int .i64))) := hv2
          obtain ⟨ao, co, rfl⟩ := own_len hv1
          have HH8 : Hid (Ls.length + 1 ≤ maxLen ∧ (Ls.length + 1) * 24 ≤ 140737488355328 ∧ ∀ o, w.heap.size ≤ (wr.alloc o).heap.size) := ⟨by unfold maxLen; omega, by omega, fun o => by have := HO2.out.lo.size; simp; omega⟩
          clear hv1 hv2
          go_wp2_with (at_builtin; refine wpList_append_keep _ rfl _ _ 24 rfl w.heap.size 35 i1 (.agg #[.slice none 0 0]) 24 Tryd.underShapes hj hy0 hy1 hy2 rfl _ _ _ rfl (HV.out.alloc _) ⟨wr.heap.size, 0, none⟩ 1 1 [.slice al F.length cl] rfl rfl (new_one wr _ _) (one_of rfl) (by decide) HH8.out.1 HH8.out.2.1 (HH8.out.2.2 _) ?_)
          intro g' cap w8 ho8 hold hgrow hat
          have HN8 : Hid (ShO w w8 (.slice (some ⟨g', 0, none⟩) (Ls.length + 1) cap) (Ls ++ [F])) := ShO.next HV.out HV2.out HO2.out.lo HFo.out ho8 hgrow
          clear ho8 hold hgrow hat
          go_wp2_with fail
          go_roundw
          case rel => exact ⟨i + 1, Ls ++ [F], by omega, by go_num, (by have := HI.out; simp; omega : (Ls ++ [F]).length = i + 1), HG.out.app ⟨HF2.out, by omega, by omega⟩, HN8⟩
          case measure => simp [intOf]; omega
    · have e : i = N := by omega
      have HE : Hid (Ls.length = min L.length 8 ∧ GoodL Ls.length Ls) := ⟨by have := HI.out; have := HN.out; omega, by have := HI.out; rw [this, e]; exact HG.out⟩
      by_cases hi1 : (i : Int) < (L.length : Int)
      · have hi8 : ¬ (i : Int) < 8 := by have := HN.out; omega
        go_wp2_with fail
        go_ret
        exact ⟨_, rfl, Ls, HE.out.1, HE.out.2, HO.out.shv, HO.out.lo⟩
      · go_wp2_with fail
        go_ret
        exact ⟨_, rfl, Ls, HE.out.1, HE.out.2, HO.out.shv, HO.out.lo⟩

end Go.Proofs.YtfkimmbnmcgjiaaDoor

/- The walks of come where kinds are there, entering, at, Reached, Kinds. The walk of the Maps' site. -/
import Derived.Test.YtmjappcjfjajmaaFlL
import Derived.Laws.CopyOwn
namespace Go.Proofs.Ytmjappcjfjajmaa
open Go.RowKit Go.Maps

theorem joinL_any (L M : List Int) (v v' : Value) (w : World) (hlen : L.length ≤ 3000) (hlen' : M.length ≤ 3000) (h : SrcAt w v L) (h' : SrcAt w v' M) :
    Calls Try.prog 14 #[v, v'] w fun e w' => ∃ g, e = .returned (.slice (some ⟨g, 0, none⟩) (joinK L M).length (joinK L M).length) ∧ w.heap.size ≤ g ∧ LsV w' (.slice (some ⟨g, 0, none⟩) (joinK L M).length (joinK L M).length) (joinK L M) ∧ Below w.heap.size w w' := by
  obtain ⟨a, c, rfl⟩ := h.len
  obtain ⟨a', c', rfl⟩ := h'.len
  refine (join_core L M _ rfl hlen hlen' a a' c c' w h h').mono ?_
  rintro e w' ⟨g, rfl, h1, h2, h3⟩
  have e1 : min L.length M.length = (joinK L M).length := (joinK_len L M).symm
  rw [e1] at h2 ⊢
  exact ⟨g, rfl, h1, ⟨src_row rfl h2, _, _, rfl, Nat.le_refl _, intRow_row h2⟩, h3⟩

set_option maxRecDepth 100000 in
set_option maxHeartbeats 4000000 in
theorem come_had {w : World} {mo mb n : Nat} {G : Gs} {k s : Int} (h : MmAt w mo mb n G) (hk : I64 k) (hs : I64 s) {l : List Int} (hg : G k s = some l) {v : Value} {K : List Int} (hv : LsV w v K) (hn : n ≤ 3000000) (hl : l.length ≤ 3000) (hK : K.length ≤ 3000) (hlK : l.length = K.length) :
    Calls Try.prog 53 #[.pointer (some ⟨mo, 0, none⟩), .agg #[.int .i64 k, .int .i64 s], v] w fun e w' => ∃ b, e = .returned (.bool b) ∧ But mb w w' ∧ ((b = false ∧ joinK l K = l ∧ MmAt w' mo mb n G) ∨ (b = true ∧ ¬ joinK l K = l ∧ MmAt w' mo mb n (upG G k s (joinK l K)))) := by
  have HO : Hid (OnC w (w.alloc (.cells #[.int .i64 k, .int .i64 s] 34)) k s mo mb n G) := onC_start h k s
  have HV : Hid (LsV (w.alloc (.cells #[.int .i64 k, .int .i64 s] 34)) v K) := hv.below ((Below.refl _ _).alloc (Nat.le_refl _) _)
  have HB : Hid (But mb w (w.alloc (.cells #[.int .i64 k, .int .i64 s] 34))) := ⟨rfl, rfl, rfl, by simp, fun i hi _ => ((Below.refl _ _).alloc (Nat.le_refl _) _).block i hi⟩
  have HG : Hid (G k s = some l ∧ I64 k ∧ I64 s) := ⟨hg, hk, hs⟩
  have HLN : Hid (l.length ≤ 3000 ∧ K.length ≤ 3000 ∧ l.length = K.length ∧ n ≤ 3000000) := ⟨hl, hK, hlK, hn⟩
  have hlm := h.lt
  obtain ⟨av, cv, rfl, _⟩ := hv.2
  clear h hk hs hg hv hl hK hlK hn
  go_enter Try.func53, Try.ntmps53
  go_upto_region 1 with (fail)
  generalize w.alloc (.cells #[.int .i64 k, .int .i64 s] 34) = w1 at *
  generalize hqe : w.heap.size = q at *
  have HO1 : Hid (OnC w w1.drew k s mo mb n G) := HO.out.below (Below.refl _ _).drew
  have HC1 : Hid (w1.cell? ⟨q, 0, none⟩ = some (.int .i64 k) ∧ w1.cell? ⟨q, 1, none⟩ = some (.int .i64 s) ∧ w1.cell? ⟨mo, 0, none⟩ = some (.map (some mb))) := by have := HO.out.c; rw [hqe] at this; exact this
  obtain ⟨vl, hvl, hlook, _⟩ := HO1.out.mm.look_some HG.out.2.1 HG.out.2.2 HG.out.1
  obtain ⟨al, cl, rfl, _⟩ := hvl.2
  unfold plV at hlook
  have HVl : Hid (LsV w1.drew (.slice al l.length cl) l) := hvl
  have HL1 : Hid ((Instr.lookup 74 (.map (some mb)) (.agg #[.int .i64 k, .int .i64 s]) true).run Try.prog w1.drew = .ok (.tuple #[.slice al l.length cl, .bool true]) w1.drew) := hlook
  clear hlook hvl
  go_region_held3 (fun w' => w'.cell? ⟨q, 0, none⟩ = some (.int .i64 k) ∧ w'.cell? ⟨q, 1, none⟩ = some (.int .i64 s) ∧ w'.cell? ⟨mo, 0, none⟩ = some (.map (some mb)) ∧ (Instr.lookup 74 (.map (some mb)) (.agg #[.int .i64 k, .int .i64 s]) true).run Try.prog w' = .ok (.tuple #[.slice al l.length cl, .bool true]) w')
    (first | exact ⟨HC1.out.1, HC1.out.2.1, HC1.out.2.2, HL1.out⟩) (fail)
  have HV2 : Hid (LsV w1.drew (.slice av K.length cv) K) := HV.out.below (Below.refl _ _).drew
  have HB2 : Hid (But mb w w1.drew) := HB.out.drew
  clear HL1 HC1 HV HB HO
  generalize w1.drew = w2 at *
  go_wp2_with fail
  refine (joinL_any l K _ _ _ HLN.out.1 HLN.out.2.1 HVl.out.1 HV2.out.1).mono ?_
  rintro e w3 ⟨g, rfl, hgb, hsj, hb⟩
  have HO3 : Hid (OnC w w3 k s mo mb n G) := HO1.out.below hb
  have HVl3 : Hid (SrcAt w3 (.slice al l.length cl) l) := (LsV.below HVl.out hb).1
  have HJ3 : Hid (LsV w3 (.slice (some ⟨g, 0, none⟩) (joinK l K).length (joinK l K).length) (joinK l K)) := hsj
  have HB3 : Hid (But mb w w3) := HB2.out.trans ⟨hb.os, hb.tape, hb.output, hb.size, fun i hi _ => hb.block i hi⟩
  have HLJ : Hid ((joinK l K).length ≤ 3000) := by unfold Hid; rw [joinK_len]; have := HLN.out; omega
  clear hb hsj hgb HO1 HVl HV2 HB2
  obtain ⟨b, hbd⟩ : ∃ b, Hid (decide (joinK l K = l) = b) := ⟨_, rfl⟩
  obtain ⟨J, hJ⟩ : ∃ J, joinK l K = J := ⟨_, rfl⟩
  rw [hJ] at HJ3 HLJ hbd
  have HJE : Hid (joinK l K = J) := hJ
  rw [hJ]
  clear hJ
  go_wp2_with fail
  refine (equal_any (L := J) (M := l) hbd _ _ _ (by have := HLJ.out; unfold maxLen; omega) HJ3.out.1 HVl3.out).mono ?_
  rintro e w4 ⟨rfl, z, rfl⟩
  have HB4 : Hid (But mb w (w3.drewN z)) := HB3.out.drewN z
  have HO4 : Hid (OnC w (w3.drewN z) k s mo mb n G) := HO3.out.below (below_drewN (Below.refl _ _) z)
  have HJ4 : Hid (LsV (w3.drewN z) (.slice (some ⟨g, 0, none⟩) J.length J.length) J) := HJ3.out.below (below_drewN (Below.refl _ _) z)
  clear HB3 HO3 HJ3 HVl3
  generalize w3.drewN z = w4 at *
  cases b with
  | true =>
    have HD : Hid (J = l) := (show J = l from of_decide_eq_true hbd.out)
    go_wp2_with fail
    go_ret
    exact ⟨_, rfl, HB4.out, Or.inl ⟨rfl, HJE.out.trans HD.out, HO4.out.mm⟩⟩
  | false =>
    have HD : Hid (¬ J = l) := (show ¬ J = l from of_decide_eq_false hbd.out)
    go_upto_region 8 with (fail)
    have HC2 : Hid (w4.cell? ⟨q, 0, none⟩ = some (.int .i64 k) ∧ w4.cell? ⟨q, 1, none⟩ = some (.int .i64 s) ∧ w4.cell? ⟨mo, 0, none⟩ = some (.map (some mb))) := by have := HO4.out.c; rw [hqe] at this; exact this
    have HM3 : Hid (MmAt w4.drew mo mb n G) := HO4.out.mm.below (Below.refl _ _).drew
    obtain ⟨w5, hrun, hm5, hb5⟩ := HM3.out.store HG.out.2.1 HG.out.2.2 (HJ4.out.below (Below.refl _ _).drew) HLN.out.2.2.2
    rw [HG.out.1] at hm5
    have HM5 : Hid (MmAt w5 mo mb n (upG G k s J) ∧ But mb w4.drew w5) := ⟨hm5, hb5⟩
    have HC5 : Hid (w5.cell? ⟨q, 0, none⟩ = some (.int .i64 k) ∧ w5.cell? ⟨q, 1, none⟩ = some (.int .i64 s) ∧ w5.cell? ⟨mo, 0, none⟩ = some (.map (some mb))) := by
      have hr : w5.rowIs w.heap.size 34 2 (plC k s) := (HO4.out.below (Below.refl _ _).drew).rq.of_block (hb5.block _ (HO4.out.below (Below.refl _ _).drew).rq.lt (by rw [hqe]; have := hlm.2; omega))
      rw [hqe] at hr
      exact ⟨hr.cell (i := 0) (by decide), hr.cell (i := 1) (by decide), hm5.box⟩
    have HB5 : Hid (But mb w w5) := HB4.out.drew.trans hb5
    unfold plV at hrun
    clear hm5 hb5 HM3 HO4 hqe hlm HJ4 HB4
    go_region_held3 (fun w' => w'.cell? ⟨q, 0, none⟩ = some (.int .i64 k) ∧ w'.cell? ⟨q, 1, none⟩ = some (.int .i64 s) ∧ w'.cell? ⟨mo, 0, none⟩ = some (.map (some mb)))
      (first | exact HC2.out | exact HC5.out) (fail)
    all_goals
      clear hrun
      go_wp2_with fail
      go_ret
      exact ⟨_, rfl, HB5.out, Or.inr ⟨rfl, by rw [HJE.out]; exact HD.out, by rw [HJE.out]; exact HM5.out.1⟩⟩

/-- copy, as a run: what is copied is laid over the row from its begin on. -/
theorem copy_run {w w0 : World} {B g n m dCap sCap : Nat} {dp sp : Option Addr} {cur cs : List Value} (hn : cs.length = Nat.min m n) (hg : w.heap[g]? = some (.cells cur.toArray 3 (0, 0)))
    (hpos : 0 < cs.length → dp = some ⟨g, 0, none⟩ ∧ ∃ ad, sp = some ad ∧ ∀ j v, cs[j]? = some v → w.cell? (ad.add j) = some v) (hfit : 0 + cs.length ≤ cur.length) (h1 : ∀ v ∈ cs, v.oneCell' = true) (hb : Below B w0 w) (hBg : B ≤ g) :
    ∃ w', (Builtin.copy_ #[22, 22] 3 #[.slice dp n dCap, .slice sp m sCap]).run Try.prog w = .ok (goInt cs.length) w' ∧ w'.heap[g]? = some (.cells (splice cur 0 cs).toArray 3 (0, 0)) ∧ Below B w0 w' := by
  have hsz1 : (Try.prog.info? 3).map (·.size) = some 1 := by kernel_rfl
  by_cases h0 : cs.length = 0
  · obtain rfl : cs = [] := List.eq_nil_of_length_eq_zero h0
    exact ⟨w, run_copy_none w _ _ _ 3 dp sp n dCap m sCap Try.underlying22 hsz1 (by simpa using hn.symm), by simpa [splice] using hg, hb⟩
  · obtain ⟨rfl, ad, rfl, hsrc⟩ := hpos (by omega)
    exact ⟨_, run_copy_row Try.prog w _ _ _ 3 g 0 n dCap ad m sCap cur.toArray 3 cs Try.underlying22 hsz1 hg hn hsrc (by simpa using hfit) h1, by simpa [splice] using setRow_heap w g _ _ 3 _ hg, below_setRow hb hBg _⟩

set_option maxRecDepth 100000 in
set_option maxHeartbeats 4000000 in
theorem entering_any (f : Fn) (a0 a3 a4 : Option Addr) (c0 c3 c4 : Nat) (hl : limB f = true) (w : World) (h : FnC Any w f (.slice a0 f.args.length c0) (.int .i64 f.res) (.int .i64 f.slots) (.slice a3 f.objs.length c3) (.slice a4 f.code.length c4)) :
    Calls Try.prog 54 #[.agg #[.slice a0 f.args.length c0, .int .i64 f.res, .int .i64 f.slots, .slice a3 f.objs.length c3, .slice a4 f.code.length c4]] w fun e w' => ∃ g, e = .returned (.slice (some ⟨g, 0, none⟩) (begK f).length (begK f).length) ∧ LsV w' (.slice (some ⟨g, 0, none⟩) (begK f).length (begK f).length) (begK f) ∧ Below w.heap.size w w' := by
  obtain ⟨h1, h2, h3, h4, h5, h6⟩ := beg_len hl
  obtain ⟨n, hn⟩ : ∃ n : Nat, f.slots = (n : Int) := ⟨f.slots.toNat, by omega⟩
  have hbn : (begK f).length = n := by omega
  obtain ⟨wa, hwa⟩ : ∃ wa, w.alloc (.cells #[.slice a0 f.args.length c0, .int .i64 f.res, .int .i64 f.slots, .slice a3 f.objs.length c3, .slice a4 f.code.length c4] 41) = wa := ⟨_, rfl⟩
  have hb := fn_box w f a0 a3 a4 c0 c3 c4
  rw [hwa] at hb
  have k0 : wa.cell? ⟨w.heap.size, 0, none⟩ = some (.slice a0 f.args.length c0) := hb.cell (i := 0) (by decide)
  have k2 : wa.cell? ⟨w.heap.size, 2, none⟩ = some (.int .i64 (n : Int)) := by rw [← hn]; exact hb.cell (i := 2) (by decide)
  have HA : Hid (Below w.heap.size w wa) := hwa ▸ (Below.refl _ _).alloc (Nat.le_refl _) _
  have HS : Hid (SrcAt wa (.slice a0 f.args.length c0) f.args) := (h.args.at_).below HA.out
  have hmk := run_make_row' (P := Try.prog) 22 3 (.int .i64 0) 8 Try.underlying22 Try.info3 rfl .i64 .i64 n (by omega) (by omega)
  have hk2' : (wa.alloc (.cells (madeCells #[.int .i64 0] n) 3)).cell? ⟨w.heap.size, 0, none⟩ = some (.slice a0 f.args.length c0) := (cell_old hb.lt).trans k0
  have HW : Hid ((wa.alloc (.cells (madeCells #[.int .i64 0] n) 3)).heap[wa.heap.size]? = some (.cells (List.replicate n (Value.int .i64 0)).toArray 3 (0, 0)) ∧ Below wa.heap.size wa (wa.alloc (.cells (madeCells #[.int .i64 0] n) 3))) := by
    refine ⟨?_, (Below.refl _ _).alloc (Nat.le_refl _) _⟩
    rw [heap_alloc_new]
    congr 2
    rw [← toList_madeCells_one]
  rw [hbn]
  obtain ⟨X, hX⟩ : ∃ X, X = f.args.map (Value.int .i64) := ⟨_, rfl⟩
  have hXl : X.length = f.args.length := by rw [hX]; simp
  have HX : Hid (f.args.length ≤ n ∧ X.length = f.args.length ∧ (∀ u ∈ X, u.oneCell' = true)) := ⟨by omega, hXl, by rw [hX]; exact ints_one _⟩
  have HP : Hid (0 < X.length → (some (⟨wa.heap.size, 0, none⟩ : Addr)) = some ⟨wa.heap.size, 0, none⟩ ∧ ∃ ad, a0 = some ad ∧ ∀ j v, X[j]? = some v → (wa.alloc (.cells (madeCells #[.int .i64 0] n) 3)).cell? (ad.add j) = some v) := by
    intro hp
    rcases HS.out with ⟨h9, _⟩ | ⟨b, off, c, hv, hlt, hc⟩
    · rw [hXl, h9] at hp; simp at hp
    · cases hv
      refine ⟨rfl, _, rfl, fun j v hj => ?_⟩
      have hjl : j < f.args.length := by rw [← hXl]; exact (List.getElem?_eq_some_iff.1 hj).1
      rw [hX] at hj
      have hv2 : v = .int .i64 (f.args.getD j 0) := by
        rw [List.getElem?_map, List.getElem?_eq_getElem hjl] at hj
        simp at hj
        rw [List.getD_eq_getElem?_getD, List.getElem?_eq_getElem hjl]
        exact hj.symm
      rw [Go.WideShapes.add_plain, hv2, cell_old hlt]
      exact hc j hjl
  have HE : Hid (∀ w' : World, w'.heap[wa.heap.size]? = some (.cells (splice (List.replicate n (Value.int .i64 0)) 0 X).toArray 3 (0, 0)) → LsV w' (.slice (some ⟨wa.heap.size, 0, none⟩) n n) (begK f)) := by
    intro w' hw
    have hsp : splice (List.replicate n (Value.int .i64 0)) 0 X = (begK f).map (Value.int .i64) := by
      unfold splice begK
      rw [hX, List.map_append, List.map_replicate, List.take_zero, List.nil_append, Nat.zero_add, List.drop_replicate, List.length_map]
      congr 2
      omega
    rw [hsp] at hw
    obtain ⟨hlt, _⟩ := Array.getElem?_eq_some_iff.1 hw
    refine ⟨Or.inr ⟨wa.heap.size, 0, n, by rw [hbn], hlt, fun j hj => ?_⟩, _, _, by rw [hbn], by omega, fun b off sp e => by cases e; exact ⟨_, _, hw⟩⟩
    rw [Nat.zero_add, cell_of_row w' _ j _ _ (0, 0) hw]
    simp only [List.getElem?_toArray, List.getElem?_map]
    rw [List.getElem?_eq_getElem hj, List.getD_eq_getElem?_getD, List.getElem?_eq_getElem hj]
    rfl
  have hfit : Hid (0 + X.length ≤ (List.replicate n (Value.int .i64 0)).length ∧ X.length = Nat.min f.args.length n) := ⟨by simp; omega, by rw [hXl]; exact (Nat.min_eq_left (by omega)).symm⟩
  clear h h1 h2 h3 h4 h5 h6 hbn hb hX hXl HS
  generalize hsl : f.slots = sl at *
  subst hn
  clear hsl
  have HA2 : Hid (Below w.heap.size w (wa.alloc (.cells (madeCells #[.int .i64 0] n) 3)) ∧ w.heap.size ≤ wa.heap.size) := ⟨HA.out.trans (HW.out.2.mono HA.out.size), HA.out.size⟩
  obtain ⟨w5, hcp, hh5, hb5⟩ := copy_run (w := wa.alloc (.cells (madeCells #[.int .i64 0] n) 3)) (dp := some ⟨wa.heap.size, 0, none⟩) (sp := a0) (sCap := c0) (dCap := n) hfit.out.2 HW.out.1 HP.out hfit.out.1 HX.out.2.2 HA2.out.1 HA2.out.2
  rw [HX.out.2.1] at hcp
  unfold goInt at hcp
  go_enter Try.func54, Try.ntmps54
  go_upto_region 2 with (fail)
  have HF : Hid (LsV w5 (.slice (some ⟨wa.heap.size, 0, none⟩) n n) (begK f) ∧ Below w.heap.size w w5) := ⟨HE.out w5 hh5, hb5⟩
  clear hh5 hb5 HE HX HP HW hfit
  go_wp2_with fail
  go_ret
  exact ⟨_, rfl, HF.out.1, HF.out.2⟩

set_option maxRecDepth 100000 in
set_option maxHeartbeats 4000000 in
theorem reached_any {w : World} {mo mb n : Nat} {G : Gs} {k s : Int} (h : MmAt w mo mb n G) (hk : I64 k) (hs : I64 s) {b : Bool} (hb : Hid ((G k s).isSome = b)) :
    Calls Try.prog 20 #[.pointer (some ⟨mo, 0, none⟩), .int .i64 k, .int .i64 s] w fun e w' => e = .returned (.bool b) ∧ w' = w := by
  have hbx := h.box
  cases hg : G k s with
  | none =>
    have HR : Hid (false = b) := by rw [← hb.out, hg]; rfl
    have hl := (h.look_none hk hs hg).1
    unfold plV at hl
    clear h hg hb
    go_enter Try.func20, Try.ntmps20
    go_wp2_with fail
    go_ret
    exact ⟨ret_bool HR.out, rfl⟩
  | some K =>
    have HR : Hid (true = b) := by rw [← hb.out, hg]; rfl
    obtain ⟨v, hv, hl, _⟩ := h.look_some hk hs hg
    obtain ⟨a, c, rfl, _⟩ := hv.2
    unfold plV at hl
    clear h hg hb hv
    go_enter Try.func20, Try.ntmps20
    go_wp2_with fail
    go_ret
    exact ⟨ret_bool HR.out, rfl⟩

/-- What at, Kinds tell: the list, or none. -/
def KsIs (w : World) (g : Option (List Int)) (v : Value) : Prop := LsV w v (g.getD [])
set_option maxRecDepth 100000 in
set_option maxHeartbeats 4000000 in
theorem at_any {w : World} {mo mb n : Nat} {G : Gs} {k s : Int} (h : MmAt w mo mb n G) (hk : I64 k) (hs : I64 s) :
    Calls Try.prog 38 #[.pointer (some ⟨mo, 0, none⟩), .int .i64 k, .int .i64 s] w fun e w' => ∃ v, e = .returned v ∧ KsIs w (G k s) v ∧ w' = w := by
  have hbx := h.box
  cases hg : G k s with
  | none =>
    have hl := (h.look_none hk hs hg).2
    unfold plV at hl
    clear h hg
    go_enter Try.func38, Try.ntmps38
    go_wp2_with fail
    go_ret
    exact ⟨_, rfl, ⟨Or.inl ⟨rfl, Or.inl rfl⟩, _, _, rfl, Nat.le_refl _, intRow_none _⟩, rfl⟩
  | some K =>
    obtain ⟨v, hv, _, hl⟩ := h.look_some hk hs hg
    have HV : Hid (LsV w v K) := hv
    obtain ⟨a, c, rfl, _⟩ := hv.2
    unfold plV at hl
    clear h hg hv
    go_enter Try.func38, Try.ntmps38
    go_wp2_with fail
    go_ret
    exact ⟨_, rfl, HV.out, rfl⟩

set_option maxRecDepth 100000 in
set_option maxHeartbeats 4000000 in
theorem kinds_any {w : World} {mo mb n : Nat} {G : Gs} {k s : Int} (h : MmAt w mo mb n G) (hk : I64 k) (hs : I64 s) (hl : ((G k s).getD []).length ≤ 3000) :
    Calls Try.prog 21 #[.pointer (some ⟨mo, 0, none⟩), .int .i64 k, .int .i64 s] w fun e w' => ∃ v, e = .returned v ∧ OwnK w' w.heap.size v ((G k s).getD []) ∧ Below w.heap.size w w' := by
  have HH : Hid (MmAt w mo mb n G ∧ I64 k ∧ I64 s ∧ ((G k s).getD []).length ≤ 3000) := ⟨h, hk, hs, hl⟩
  clear h hk hs hl
  go_enter Try.func21, Try.ntmps21
  go_wp2_with fail
  refine (at_any HH.out.1 HH.out.2.1 HH.out.2.2.1).mono ?_
  rintro e w1 ⟨v, rfl, hv, rfl⟩
  have HV : Hid (SrcAt w1 v ((G k s).getD [])) := hv.1
  obtain ⟨a, c, rfl⟩ := hv.1.len
  clear hv
  go_wp2_with fail
  refine (cloneK_any _ _ _ HH.out.2.2.2 HV.out).mono ?_
  rintro e w2 ⟨v', rfl, ho, hb⟩
  have HO : Hid (OwnK w2 w1.heap.size v' ((G k s).getD []) ∧ Below w1.heap.size w1 w2) := ⟨ho, hb⟩
  obtain ⟨a', c', rfl⟩ := own_len ho
  clear ho hb
  go_wp2_with fail
  go_ret
  exact ⟨_, rfl, HO.out.1, HO.out.2⟩

end Go.Proofs.Ytmjappcjfjajmaa

namespace Go.Proofs.Ytmjappcjfjajmaa
open Go.RowKit Go.Maps

theorem below13 {B g : Nat} {a w : World} (h : Below B a w) (hg : B ≤ g) (u0 u1 u2 u3 u4 u5 u6 u7 u8 u9 u10 u11 u12 : Value) : Below B a (((((((((((((w.setCell ⟨g, 0, none⟩ u0).setCell ⟨g, 1, none⟩ u1).setCell ⟨g, 2, none⟩ u2).setCell ⟨g, 3, none⟩ u3).setCell ⟨g, 4, none⟩ u4).setCell ⟨g, 5, none⟩ u5).setCell ⟨g, 6, none⟩ u6).setCell ⟨g, 7, none⟩ u7).setCell ⟨g, 8, none⟩ u8).setCell ⟨g, 9, none⟩ u9).setCell ⟨g, 10, none⟩ u10).setCell ⟨g, 11, none⟩ u11).setCell ⟨g, 12, none⟩ u12) := (((((((((((((h.setCell (p := ⟨g, 0, none⟩) hg _).setCell (p := ⟨g, 1, none⟩) hg _).setCell (p := ⟨g, 2, none⟩) hg _).setCell (p := ⟨g, 3, none⟩) hg _).setCell (p := ⟨g, 4, none⟩) hg _).setCell (p := ⟨g, 5, none⟩) hg _).setCell (p := ⟨g, 6, none⟩) hg _).setCell (p := ⟨g, 7, none⟩) hg _).setCell (p := ⟨g, 8, none⟩) hg _).setCell (p := ⟨g, 9, none⟩) hg _).setCell (p := ⟨g, 10, none⟩) hg _).setCell (p := ⟨g, 11, none⟩) hg _).setCell (p := ⟨g, 12, none⟩) hg _)
theorem look_all {w : World} {mo mb n : Nat} {G : Gs} (h : MmAt w mo mb n G) {k s : Int} (hk : I64 k) (hs : I64 s) {K : List Int} (hg : G k s = some K) :
    ∃ v, LsV w v K ∧ ∀ w', Below w.heap.size w w' → (Instr.lookup 74 (.map (some mb)) (plV k s) false).run Try.prog w' = .ok v w' := by
  obtain ⟨O, h1, h2⟩ := h.map
  have h4 := h2 k s hk hs
  rw [hg] at h4
  obtain ⟨v, hv, hl⟩ := rel_some h4
  refine ⟨v, hl, fun w' hb => ?_⟩
  have h3 := ((h1.below hb).look hk hs).2
  rw [hv] at h3
  exact h3

set_option maxRecDepth 100000 in
set_option maxHeartbeats 8000000 in
theorem site_any (p : Pg) (ag az af : Option Addr) (cg cs cf : Nat) {j k : Nat} {f : Fn} {io ia ib ic : Int} {mo mb n : Nat} {G : Gs} {K : List Int} (hfj : p.funcs[j]? = some f) (hik : f.code[k]? = some ⟨io, ia, ib, ic⟩) (w : World) (hp : PgV Any w (.slice ag p.glob.length cg) (.slice az p.shapes.length cs) (.slice af p.funcs.length cf) p) (h : MmAt w mo mb n G) (hj3 : j ≤ 3000000) (hk3 : k ≤ 3000000) (hg : G (j : Int) (k : Int) = some K) :
    Calls Try.prog 55 #[.pointer (some ⟨mo, 0, none⟩), .agg #[.slice ag p.glob.length cg, .slice az p.shapes.length cs, .slice af p.funcs.length cf], .agg #[.int .i64 (j : Int), .int .i64 (k : Int)]] w fun e w' => ∃ a0 a3 a4 c0 c3 c4 ak ck, e = .returned (.agg #[.slice ag p.glob.length cg, .slice az p.shapes.length cs, .slice af p.funcs.length cf, .slice a0 f.args.length c0, .int .i64 f.res, .int .i64 f.slots, .slice a3 f.objs.length c3, .slice a4 f.code.length c4, .int .i64 io, .int .i64 ia, .int .i64 ib, .int .i64 ic, .slice ak K.length ck]) ∧ FnC Any w' f (.slice a0 f.args.length c0) (.int .i64 f.res) (.int .i64 f.slots) (.slice a3 f.objs.length c3) (.slice a4 f.code.length c4) ∧ LsV w' (.slice ak K.length ck) K ∧ Below w.heap.size w w' := by
  obtain ⟨b, off, v0, v1, v2, v3, v4, rfl, hb, _, u0, u1, u2, u3, u4, hfc⟩ := hp.funcs.some hfj
  obtain ⟨a0, c0, a3, c3, a4, c4, rfl, rfl, rfl⟩ := hfc.lens
  obtain rfl := hfc.res
  obtain rfl := hfc.slots
  obtain ⟨kb, ko, rfl, hkb, i0, i1, i2, i3⟩ := hfc.code.some hik
  obtain ⟨v, hv, hlook⟩ := look_all h (i64_nat hj3) (i64_nat hk3) hg
  obtain ⟨ak, ck, rfl, _⟩ := hv.2
  have hjl := (List.getElem?_eq_some_iff.1 hfj).1
  have hkl := (List.getElem?_eq_some_iff.1 hik).1
  have hjI : (j : Int) < (p.funcs.length : Int) := by omega
  have hkI : (k : Int) < (f.code.length : Int) := by omega
  have HLK : Hid (∀ w', Below w.heap.size w w' → (Instr.lookup 74 (.map (some mb)) (.agg #[.int .i64 (j : Int), .int .i64 (k : Int)]) false).run Try.prog w' = .ok (.slice ak K.length ck) w') := fun w' hb => by have := hlook w' hb; unfold plV at this; exact this
  have HV : Hid (LsV w (.slice ak K.length ck) K ∧ FnC Any w f (.slice a0 f.args.length c0) (.int .i64 f.res) (.int .i64 f.slots) (.slice a3 f.objs.length c3) (.slice (some ⟨kb, ko, none⟩) f.code.length c4) ∧ MmAt w mo mb n G) := ⟨hv, hfc, h⟩
  have hA : ∀ (w : World) o, Below w.heap.size w (w.alloc o) := fun w o => (Below.refl _ _).alloc (Nat.le_refl _) _
  obtain ⟨wq, hwq⟩ : ∃ wq, (w.alloc (.cells #[.slice ag p.glob.length cg, .slice az p.shapes.length cs, .slice (some ⟨b, off, none⟩) p.funcs.length cf] 26)).alloc (.cells #[.int .i64 (j : Int), .int .i64 (k : Int)] 34) = wq := ⟨_, rfl⟩
  have HQ : Hid (OnQ w wq (j : Int) (k : Int) p ag az (some ⟨b, off, none⟩) cg cs cf) := onQ_start hwq hp
  have hsz : wq.heap.size = w.heap.size + 2 := by rw [← hwq]; simp
  obtain ⟨wz, hwz⟩ : ∃ wz, wq.alloc (.cells #[.slice none 0 0, .slice none 0 0, .slice none 0 0, .slice none 0 0, .int .i64 0, .int .i64 0, .slice none 0 0, .slice none 0 0, .int .i64 0, .int .i64 0, .int .i64 0, .int .i64 0, .slice none 0 0] 66) = wz := ⟨_, rfl⟩
  have hszz : wz.heap.size = w.heap.size + 3 := by rw [← hwz]; simp [hsz]
  have HZ : Hid (OnQ w wz (j : Int) (k : Int) p ag az (some ⟨b, off, none⟩) cg cs cf) := hwz ▸ HQ.out.below (hA _ _)
  have HZR : Hid (∃ fz, wz.rowIs wq.heap.size 66 13 fz) := ⟨_, hwz ▸ World.rowIs_alloc wq (#[.slice none 0 0, .slice none 0 0, .slice none 0 0, .slice none 0 0, .int .i64 0, .int .i64 0, .slice none 0 0, .slice none 0 0, .int .i64 0, .int .i64 0, .int .i64 0, .int .i64 0, .slice none 0 0]) 66 (fun i => (#[.slice none 0 0, .slice none 0 0, .slice none 0 0, .slice none 0 0, .int .i64 0, .int .i64 0, .slice none 0 0, .slice none 0 0, .int .i64 0, .int .i64 0, .int .i64 0, .int .i64 0, .slice none 0 0] : Array Value).getD i undef) (fun i hi => by
    have : i = 0 ∨ i = 1 ∨ i = 2 ∨ i = 3 ∨ i = 4 ∨ i = 5 ∨ i = 6 ∨ i = 7 ∨ i = 8 ∨ i = 9 ∨ i = 10 ∨ i = 11 ∨ i = 12 := by simp at hi; omega
    rcases this with rfl | rfl | rfl | rfl | rfl | rfl | rfl | rfl | rfl | rfl | rfl | rfl | rfl <;> rfl)⟩
  obtain ⟨d0, d1, d2, d3, d4⟩ := HZ.out.c
  have q0 := (HZ.out.low.cell (p := ⟨b, off + j * 5, none⟩) hb).trans u0
  have q1 := (HZ.out.low.cell (p := ⟨b, off + j * 5 + 1, none⟩) hb).trans u1
  have q2 := (HZ.out.low.cell (p := ⟨b, off + j * 5 + 2, none⟩) hb).trans u2
  have q3 := (HZ.out.low.cell (p := ⟨b, off + j * 5 + 3, none⟩) hb).trans u3
  have q4 := (HZ.out.low.cell (p := ⟨b, off + j * 5 + 4, none⟩) hb).trans u4
  have HF5 : Hid (OnQ w (wz.alloc (.cells #[.slice a0 f.args.length c0, .int .i64 f.res, .int .i64 f.slots, .slice a3 f.objs.length c3, .slice (some ⟨kb, ko, none⟩) f.code.length c4] 41)) (j : Int) (k : Int) p ag az (some ⟨b, off, none⟩) cg cs cf ∧ (wz.alloc (.cells #[.slice a0 f.args.length c0, .int .i64 f.res, .int .i64 f.slots, .slice a3 f.objs.length c3, .slice (some ⟨kb, ko, none⟩) f.code.length c4] 41)).rowIs wz.heap.size 41 5 (fnC f a0 a3 (some ⟨kb, ko, none⟩) c0 c3 c4) ∧ ∃ fz, (wz.alloc (.cells #[.slice a0 f.args.length c0, .int .i64 f.res, .int .i64 f.slots, .slice a3 f.objs.length c3, .slice (some ⟨kb, ko, none⟩) f.code.length c4] 41)).rowIs wq.heap.size 66 13 fz) := by
    obtain ⟨fz, hfz⟩ := HZR.out
    exact ⟨HZ.out.below (hA _ _), fn_box wz f a0 a3 (some ⟨kb, ko, none⟩) c0 c3 c4, fz, hfz.of_block ((hA _ _).block _ hfz.lt)⟩
  have HI : Hid (InsAt w kb (ko + k * 4) ⟨io, ia, ib, ic⟩ ∧ kb < w.heap.size) := ⟨⟨i0, i1, i2, i3⟩, hkb⟩
  clear u0 u1 u2 u3 u4 hv hfc h hlook hp hfj hik hg i0 i1 i2 i3 HZR hkb HQ
  go_enter Try.func55, Try.ntmps55
  go_upto_region 2 with (fail)
  clear d0 d1 d2 d3 d4 q0 q1 q2 q3 q4 HZ hwz hwq
  generalize wz.alloc (.cells #[.slice a0 f.args.length c0, .int .i64 f.res, .int .i64 f.slots, .slice a3 f.objs.length c3, .slice (some ⟨kb, ko, none⟩) f.code.length c4] 41) = w5 at *
  rw [hsz, hszz] at HF5
  obtain ⟨fz, hfz⟩ := HF5.out.2.2
  have r0 : w5.cell? ⟨w.heap.size + 3, 0, none⟩ = some (.slice a0 f.args.length c0) := HF5.out.2.1.cell (i := 0) (by decide)
  have r1 : w5.cell? ⟨w.heap.size + 3, 1, none⟩ = some (.int .i64 f.res) := HF5.out.2.1.cell (i := 1) (by decide)
  have r2 : w5.cell? ⟨w.heap.size + 3, 2, none⟩ = some (.int .i64 f.slots) := HF5.out.2.1.cell (i := 2) (by decide)
  have r3 : w5.cell? ⟨w.heap.size + 3, 3, none⟩ = some (.slice a3 f.objs.length c3) := HF5.out.2.1.cell (i := 3) (by decide)
  have r4 : w5.cell? ⟨w.heap.size + 3, 4, none⟩ = some (.slice (some ⟨kb, ko, none⟩) f.code.length c4) := HF5.out.2.1.cell (i := 4) (by decide)
  obtain ⟨d0, d1, d2, d3, d4⟩ := HF5.out.1.c
  have HBW : Hid (Below w.heap.size w w5) := HF5.out.1.low
  have i0 : w5.cell? ⟨kb, ko + k * 4, none⟩ = some (.int .i64 io) := (HBW.out.cell (p := ⟨kb, ko + k * 4, none⟩) HI.out.2).trans HI.out.1.1
  have i1 : w5.cell? ⟨kb, ko + k * 4 + 1, none⟩ = some (.int .i64 ia) := (HBW.out.cell (p := ⟨kb, ko + k * 4 + 1, none⟩) HI.out.2).trans HI.out.1.2.1
  have i2 : w5.cell? ⟨kb, ko + k * 4 + 2, none⟩ = some (.int .i64 ib) := (HBW.out.cell (p := ⟨kb, ko + k * 4 + 2, none⟩) HI.out.2).trans HI.out.1.2.2.1
  have i3 : w5.cell? ⟨kb, ko + k * 4 + 3, none⟩ = some (.int .i64 ic) := (HBW.out.cell (p := ⟨kb, ko + k * 4 + 3, none⟩) HI.out.2).trans HI.out.1.2.2.2
  have s0 : w5.cell? ⟨w.heap.size + 2, 0, none⟩ = some (fz 0) := hfz.cell (i := 0) (by decide)
  have z0 : w5.frozen? ⟨w.heap.size + 2, 0, none⟩ = false := hfz.frozen 0
  have s1 : w5.cell? ⟨w.heap.size + 2, 1, none⟩ = some (fz 1) := hfz.cell (i := 1) (by decide)
  have z1 : w5.frozen? ⟨w.heap.size + 2, 1, none⟩ = false := hfz.frozen 1
  have s2 : w5.cell? ⟨w.heap.size + 2, 2, none⟩ = some (fz 2) := hfz.cell (i := 2) (by decide)
  have z2 : w5.frozen? ⟨w.heap.size + 2, 2, none⟩ = false := hfz.frozen 2
  have s3 : w5.cell? ⟨w.heap.size + 2, 3, none⟩ = some (fz 3) := hfz.cell (i := 3) (by decide)
  have z3 : w5.frozen? ⟨w.heap.size + 2, 3, none⟩ = false := hfz.frozen 3
  have s4 : w5.cell? ⟨w.heap.size + 2, 4, none⟩ = some (fz 4) := hfz.cell (i := 4) (by decide)
  have z4 : w5.frozen? ⟨w.heap.size + 2, 4, none⟩ = false := hfz.frozen 4
  have s5 : w5.cell? ⟨w.heap.size + 2, 5, none⟩ = some (fz 5) := hfz.cell (i := 5) (by decide)
  have z5 : w5.frozen? ⟨w.heap.size + 2, 5, none⟩ = false := hfz.frozen 5
  have s6 : w5.cell? ⟨w.heap.size + 2, 6, none⟩ = some (fz 6) := hfz.cell (i := 6) (by decide)
  have z6 : w5.frozen? ⟨w.heap.size + 2, 6, none⟩ = false := hfz.frozen 6
  have s7 : w5.cell? ⟨w.heap.size + 2, 7, none⟩ = some (fz 7) := hfz.cell (i := 7) (by decide)
  have z7 : w5.frozen? ⟨w.heap.size + 2, 7, none⟩ = false := hfz.frozen 7
  have s8 : w5.cell? ⟨w.heap.size + 2, 8, none⟩ = some (fz 8) := hfz.cell (i := 8) (by decide)
  have z8 : w5.frozen? ⟨w.heap.size + 2, 8, none⟩ = false := hfz.frozen 8
  have s9 : w5.cell? ⟨w.heap.size + 2, 9, none⟩ = some (fz 9) := hfz.cell (i := 9) (by decide)
  have z9 : w5.frozen? ⟨w.heap.size + 2, 9, none⟩ = false := hfz.frozen 9
  have s10 : w5.cell? ⟨w.heap.size + 2, 10, none⟩ = some (fz 10) := hfz.cell (i := 10) (by decide)
  have z10 : w5.frozen? ⟨w.heap.size + 2, 10, none⟩ = false := hfz.frozen 10
  have s11 : w5.cell? ⟨w.heap.size + 2, 11, none⟩ = some (fz 11) := hfz.cell (i := 11) (by decide)
  have z11 : w5.frozen? ⟨w.heap.size + 2, 11, none⟩ = false := hfz.frozen 11
  have s12 : w5.cell? ⟨w.heap.size + 2, 12, none⟩ = some (fz 12) := hfz.cell (i := 12) (by decide)
  have z12 : w5.frozen? ⟨w.heap.size + 2, 12, none⟩ = false := hfz.frozen 12
  have hmo : w5.cell? ⟨mo, 0, none⟩ = some (.map (some mb)) := (HV.out.2.2.below HBW.out).box
  have hkl2 : kb < w.heap.size := HI.out.2
  have hml : mo < w.heap.size := HV.out.2.2.lt.1
  have hl2 : w.heap.size + 2 < w5.heap.size := hfz.lt
  clear hfz HF5 HI hsz hszz
  generalize h3 : w.heap.size + 3 = g3 at *
  generalize h2 : w.heap.size + 2 = g2 at *
  generalize h1 : w.heap.size + 1 = g1 at *
  generalize h0 : w.heap.size = g0 at *
  have n02 : ¬ g0 = g2 := by omega
  have n20 : ¬ g2 = g0 := by omega
  have n12 : ¬ g1 = g2 := by omega
  have n21 : ¬ g2 = g1 := by omega
  have n32 : ¬ g3 = g2 := by omega
  have n23 : ¬ g2 = g3 := by omega
  have nk2 : ¬ kb = g2 := by omega
  have n2k : ¬ g2 = kb := by omega
  have nm2 : ¬ mo = g2 := by omega
  have n2m : ¬ g2 = mo := by omega
  have HG2 : Hid (g0 ≤ g2) := by unfold Hid; omega
  clear h1 h2 h3 hkl2 hml hjl hkl hb
  have HLK1 : Hid ((Instr.lookup 74 (.map (some mb)) (.agg #[.int .i64 (j : Int), .int .i64 (k : Int)]) false).run Try.prog w5.drew = .ok (.slice ak K.length ck) w5.drew) := HLK.out _ HBW.out.drew
  have HBE : Hid (Below g0 w ((((((((((((((w5.setCell ⟨g2, 0, none⟩ (.slice ag p.glob.length cg)).setCell ⟨g2, 1, none⟩ (.slice az p.shapes.length cs)).setCell ⟨g2, 2, none⟩ (.slice (some ⟨b, off, none⟩) p.funcs.length cf)).setCell ⟨g2, 3, none⟩ (.slice a0 f.args.length c0)).setCell ⟨g2, 4, none⟩ (.int .i64 f.res)).setCell ⟨g2, 5, none⟩ (.int .i64 f.slots)).setCell ⟨g2, 6, none⟩ (.slice a3 f.objs.length c3)).setCell ⟨g2, 7, none⟩ (.slice (some ⟨kb, ko, none⟩) f.code.length c4)).setCell ⟨g2, 8, none⟩ (.int .i64 io)).setCell ⟨g2, 9, none⟩ (.int .i64 ia)).setCell ⟨g2, 10, none⟩ (.int .i64 ib)).setCell ⟨g2, 11, none⟩ (.int .i64 ic)).setCell ⟨g2, 12, none⟩ (.slice ak K.length ck))).drew) := (below13 HBW.out HG2.out _ _ _ _ _ _ _ _ _ _ _ _ _).drew
  have HLK2 : Hid ((Instr.lookup 74 (.map (some mb)) (.agg #[.int .i64 (j : Int), .int .i64 (k : Int)]) false).run Try.prog ((((((((((((((w5.setCell ⟨g2, 0, none⟩ (.slice ag p.glob.length cg)).setCell ⟨g2, 1, none⟩ (.slice az p.shapes.length cs)).setCell ⟨g2, 2, none⟩ (.slice (some ⟨b, off, none⟩) p.funcs.length cf)).setCell ⟨g2, 3, none⟩ (.slice a0 f.args.length c0)).setCell ⟨g2, 4, none⟩ (.int .i64 f.res)).setCell ⟨g2, 5, none⟩ (.int .i64 f.slots)).setCell ⟨g2, 6, none⟩ (.slice a3 f.objs.length c3)).setCell ⟨g2, 7, none⟩ (.slice (some ⟨kb, ko, none⟩) f.code.length c4)).setCell ⟨g2, 8, none⟩ (.int .i64 io)).setCell ⟨g2, 9, none⟩ (.int .i64 ia)).setCell ⟨g2, 10, none⟩ (.int .i64 ib)).setCell ⟨g2, 11, none⟩ (.int .i64 ic)).setCell ⟨g2, 12, none⟩ (.slice ak K.length ck))).drew = .ok (.slice ak K.length ck) ((((((((((((((w5.setCell ⟨g2, 0, none⟩ (.slice ag p.glob.length cg)).setCell ⟨g2, 1, none⟩ (.slice az p.shapes.length cs)).setCell ⟨g2, 2, none⟩ (.slice (some ⟨b, off, none⟩) p.funcs.length cf)).setCell ⟨g2, 3, none⟩ (.slice a0 f.args.length c0)).setCell ⟨g2, 4, none⟩ (.int .i64 f.res)).setCell ⟨g2, 5, none⟩ (.int .i64 f.slots)).setCell ⟨g2, 6, none⟩ (.slice a3 f.objs.length c3)).setCell ⟨g2, 7, none⟩ (.slice (some ⟨kb, ko, none⟩) f.code.length c4)).setCell ⟨g2, 8, none⟩ (.int .i64 io)).setCell ⟨g2, 9, none⟩ (.int .i64 ia)).setCell ⟨g2, 10, none⟩ (.int .i64 ib)).setCell ⟨g2, 11, none⟩ (.int .i64 ic)).setCell ⟨g2, 12, none⟩ (.slice ak K.length ck))).drew) := HLK.out _ HBE.out
  have HFIN : Hid (LsV ((((((((((((((w5.setCell ⟨g2, 0, none⟩ (.slice ag p.glob.length cg)).setCell ⟨g2, 1, none⟩ (.slice az p.shapes.length cs)).setCell ⟨g2, 2, none⟩ (.slice (some ⟨b, off, none⟩) p.funcs.length cf)).setCell ⟨g2, 3, none⟩ (.slice a0 f.args.length c0)).setCell ⟨g2, 4, none⟩ (.int .i64 f.res)).setCell ⟨g2, 5, none⟩ (.int .i64 f.slots)).setCell ⟨g2, 6, none⟩ (.slice a3 f.objs.length c3)).setCell ⟨g2, 7, none⟩ (.slice (some ⟨kb, ko, none⟩) f.code.length c4)).setCell ⟨g2, 8, none⟩ (.int .i64 io)).setCell ⟨g2, 9, none⟩ (.int .i64 ia)).setCell ⟨g2, 10, none⟩ (.int .i64 ib)).setCell ⟨g2, 11, none⟩ (.int .i64 ic)).setCell ⟨g2, 12, none⟩ (.slice ak K.length ck))).drew (.slice ak K.length ck) K ∧ FnC Any ((((((((((((((w5.setCell ⟨g2, 0, none⟩ (.slice ag p.glob.length cg)).setCell ⟨g2, 1, none⟩ (.slice az p.shapes.length cs)).setCell ⟨g2, 2, none⟩ (.slice (some ⟨b, off, none⟩) p.funcs.length cf)).setCell ⟨g2, 3, none⟩ (.slice a0 f.args.length c0)).setCell ⟨g2, 4, none⟩ (.int .i64 f.res)).setCell ⟨g2, 5, none⟩ (.int .i64 f.slots)).setCell ⟨g2, 6, none⟩ (.slice a3 f.objs.length c3)).setCell ⟨g2, 7, none⟩ (.slice (some ⟨kb, ko, none⟩) f.code.length c4)).setCell ⟨g2, 8, none⟩ (.int .i64 io)).setCell ⟨g2, 9, none⟩ (.int .i64 ia)).setCell ⟨g2, 10, none⟩ (.int .i64 ib)).setCell ⟨g2, 11, none⟩ (.int .i64 ic)).setCell ⟨g2, 12, none⟩ (.slice ak K.length ck))).drew f (.slice a0 f.args.length c0) (.int .i64 f.res) (.int .i64 f.slots) (.slice a3 f.objs.length c3) (.slice (some ⟨kb, ko, none⟩) f.code.length c4)) := by
    subst h0
    exact ⟨HV.out.1.below HBE.out, HV.out.2.1.below HBE.out⟩
  clear HLK HV HBW
  go_region_held3 (fun w' => ((w'.cell? ⟨g0, 0, none⟩ = some (.slice ag p.glob.length cg) ∧ w'.cell? ⟨g0, 1, none⟩ = some (.slice az p.shapes.length cs) ∧ w'.cell? ⟨g0, 2, none⟩ = some (.slice (some ⟨b, off, none⟩) p.funcs.length cf)) ∧ (w'.cell? ⟨g1, 0, none⟩ = some (.int .i64 (j : Int)) ∧ w'.cell? ⟨g1, 1, none⟩ = some (.int .i64 (k : Int))) ∧
      (w'.cell? ⟨g3, 0, none⟩ = some (.slice a0 f.args.length c0) ∧ w'.cell? ⟨g3, 1, none⟩ = some (.int .i64 f.res) ∧ w'.cell? ⟨g3, 2, none⟩ = some (.int .i64 f.slots) ∧ w'.cell? ⟨g3, 3, none⟩ = some (.slice a3 f.objs.length c3) ∧ w'.cell? ⟨g3, 4, none⟩ = some (.slice (some ⟨kb, ko, none⟩) f.code.length c4)) ∧
      (w'.cell? ⟨kb, ko + k * 4, none⟩ = some (.int .i64 io) ∧ w'.cell? ⟨kb, ko + k * 4 + 1, none⟩ = some (.int .i64 ia) ∧ w'.cell? ⟨kb, ko + k * 4 + 2, none⟩ = some (.int .i64 ib) ∧ w'.cell? ⟨kb, ko + k * 4 + 3, none⟩ = some (.int .i64 ic)) ∧ w'.cell? ⟨mo, 0, none⟩ = some (.map (some mb))) ∧ (Instr.lookup 74 (.map (some mb)) (.agg #[.int .i64 (j : Int), .int .i64 (k : Int)]) false).run Try.prog w' = .ok (.slice ak K.length ck) w')
    (refine ⟨?_, ?_⟩ <;> (first | (with_reducible exact HLK1.out) | (with_reducible exact HLK2.out) | go_keep)) (fail)
  clear HLK1 HLK2 r0 r1 r2 r3 r4 d0 d1 d2 d3 d4 i0 i1 i2 i3 hmo
  go_wp2_with fail
  refine bodyPost_ret (v := .agg #[.slice ag p.glob.length cg, .slice az p.shapes.length cs, .slice (some ⟨b, off, none⟩) p.funcs.length cf, .slice a0 f.args.length c0, .int .i64 f.res, .int .i64 f.slots, .slice a3 f.objs.length c3, .slice (some ⟨kb, ko, none⟩) f.code.length c4, .int .i64 io, .int .i64 ia, .int .i64 ib, .int .i64 ic, .slice ak K.length ck]) (by simp [results, go_sem, *]) rfl ?_
  exact ⟨a0, a3, _, c0, c3, c4, ak, ck, rfl, HFIN.out.2, HFIN.out.1, by subst h0; exact HBE.out⟩

end Go.Proofs.Ytmjappcjfjajmaa

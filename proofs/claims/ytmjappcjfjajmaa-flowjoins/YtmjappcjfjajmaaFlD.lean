/- The walks of flow's callee, mayPass; mayRead for the ops that are left; mayRead. -/
import Derived.Test.YtmjappcjfjajmaaFlC
namespace Go.Proofs.Ytmjappcjfjajmaa
open Go.RowKit

set_option maxHeartbeats 4000000 in
theorem callee_any (p : Pg) (f : Fn) (io ia ib ic : Int) (ag az af : Option Addr) (cg cs cf : Nat) (a0 a3 a4 : Option Addr) (c0 c3 c4 : Nat) (K : List Int) (ak : Option Addr) (ck : Nat) {g : Fn} (hg : Hid (fnAt p ib = some g)) (w : World) (hp : PgV Any w (.slice ag p.glob.length cg) (.slice az p.shapes.length cs) (.slice af p.funcs.length cf) p) (hf : FnC Any w f (.slice a0 f.args.length c0) (.int .i64 f.res) (.int .i64 f.slots) (.slice a3 f.objs.length c3) (.slice a4 f.code.length c4)) (hk : SrcP Any w (.slice ak K.length ck) K) :
    Calls Try.prog 74 #[.agg #[.slice ag p.glob.length cg, .slice az p.shapes.length cs, .slice af p.funcs.length cf, .slice a0 f.args.length c0, .int .i64 f.res, .int .i64 f.slots, .slice a3 f.objs.length c3, .slice a4 f.code.length c4, .int .i64 io, .int .i64 ia, .int .i64 ib, .int .i64 ic, .slice ak K.length ck]] w fun e w' => ∃ b0 b3 b4 e0 e3 e4, e = .returned (.agg #[.slice b0 g.args.length e0, .int .i64 g.res, .int .i64 g.slots, .slice b3 g.objs.length e3, .slice b4 g.code.length e4]) ∧ FnC Any w' g (.slice b0 g.args.length e0) (.int .i64 g.res) (.int .i64 g.slots) (.slice b3 g.objs.length e3) (.slice b4 g.code.length e4) ∧ Below w.heap.size w w' := by
  obtain ⟨wa, hwa⟩ : ∃ wa, w.alloc (.cells #[.slice ag p.glob.length cg, .slice az p.shapes.length cs, .slice af p.funcs.length cf, .slice a0 f.args.length c0, .int .i64 f.res, .int .i64 f.slots, .slice a3 f.objs.length c3, .slice a4 f.code.length c4, .int .i64 io, .int .i64 ia, .int .i64 ib, .int .i64 ic, .slice ak K.length ck] 66) = wa := ⟨_, rfl⟩
  have HT : Hid (OnT w wa w.heap.size p f io ia ib ic ag az af cg cs cf a0 a3 a4 c0 c3 c4 K ak ck) := onT_start p f io ia ib ic ag az af cg cs cf a0 a3 a4 c0 c3 c4 K ak ck hwa hp hf hk
  obtain ⟨j, rfl, hj, hfj⟩ := fnAt_some hg.out
  obtain ⟨b, off, v0, v1, v2, v3, v4, rfl, hb, _, q0, q1, q2, q3, q4, hfc⟩ := HT.out.pp.funcs.some hfj
  obtain ⟨b0, e0, b3, e3, b4, e4, rfl, rfl, rfl⟩ := hfc.lens
  obtain rfl := hfc.res
  obtain rfl := hfc.slots
  obtain ⟨d0, d1, d2, d3, d4, d5, d6, d7, d8, d9, d10, d11⟩ := HT.out.box.c
  have hjI : (j : Int) < (p.funcs.length : Int) := by omega
  have HA : Hid (Below wa.heap.size wa (wa.alloc (.cells #[.slice b0 g.args.length e0, .int .i64 g.res, .int .i64 g.slots, .slice b3 g.objs.length e3, .slice b4 g.code.length e4] 41))) := (Below.refl _ _).alloc (Nat.le_refl _) _
  have HF : Hid (FnC Any (wa.alloc (.cells #[.slice b0 g.args.length e0, .int .i64 g.res, .int .i64 g.slots, .slice b3 g.objs.length e3, .slice b4 g.code.length e4] 41)) g (.slice b0 g.args.length e0) (.int .i64 g.res) (.int .i64 g.slots) (.slice b3 g.objs.length e3) (.slice b4 g.code.length e4) ∧ Below w.heap.size w (wa.alloc (.cells #[.slice b0 g.args.length e0, .int .i64 g.res, .int .i64 g.slots, .slice b3 g.objs.length e3, .slice b4 g.code.length e4] 41))) := ⟨hfc.below HA.out, HT.out.low.trans (HA.out.mono HT.out.low.size)⟩
  have hA0 : Below wa.heap.size wa (wa.alloc (.cells #[.slice none 0 0, .int .i64 0, .int .i64 0, .slice none 0 0, .slice none 0 0] 41)) := (Below.refl _ _).alloc (Nat.le_refl _) _
  have p0 := (hA0.cell (p := ⟨b, off + j * 5, none⟩) hb).trans q0
  have p1 := (hA0.cell (p := ⟨b, off + j * 5 + 1, none⟩) hb).trans q1
  have p2 := (hA0.cell (p := ⟨b, off + j * 5 + 2, none⟩) hb).trans q2
  have p3 := (hA0.cell (p := ⟨b, off + j * 5 + 3, none⟩) hb).trans q3
  have p4 := (hA0.cell (p := ⟨b, off + j * 5 + 4, none⟩) hb).trans q4
  obtain ⟨z0, z1, z2, z3, z4, z5, z6, z7, z8, z9, z10, z11⟩ := (HT.out.below hA0).box.c
  clear hp hf hk hfj hfc hg HA hA0 q0 q1 q2 q3 q4 d0 d1 d2 d3 d4 d5 d6 d7 d8 d9 d10 d11
  go_enter Try.func74, Try.ntmps74
  go_wp2_with fail
  refine bodyPost_ret (by simp [results, go_sem]; rfl) rfl ?_
  exact ⟨b0, b3, b4, e0, e3, e4, rfl, HF.out.1, HF.out.2⟩

theorem sub_src {w : World} {b off n c : Nat} {K : List Int} {ck : Nat} (h : SrcP Any w (.slice (some ⟨b, off, none⟩) K.length ck) K) (hn : c + n ≤ K.length) (h0 : 0 < n) : SrcAt w (.slice (some ⟨b, off + c, none⟩) n (ck - c)) ((K.drop c).take n) := by
  have hl : ((K.drop c).take n).length = n := by rw [List.length_take, List.length_drop]; omega
  refine Or.inr ⟨b, off + c, ck - c, by rw [hl], ?_, fun j hj => ?_⟩
  · obtain ⟨b', off', hbb, hb, _, _⟩ := h.some (j := 0) (by omega)
    cases hbb
    exact hb
  · rw [hl] at hj
    obtain ⟨b', off', hbb, _, _, hc⟩ := h.some (j := c + j) (by omega)
    cases hbb
    rw [Nat.add_assoc, hc]
    congr 2
    rw [List.getD_eq_getElem?_getD, List.getD_eq_getElem?_getD, List.getElem?_take_of_lt hj, List.getElem?_drop]

set_option maxRecDepth 100000 in
set_option maxHeartbeats 4000000 in
theorem pass_any (p : Pg) (f : Fn) (io ia ib ic : Int) (ag az af : Option Addr) (cg cs cf : Nat) (a0 a3 a4 : Option Addr) (c0 c3 c4 : Nat) (K : List Int) (ak : Option Addr) (ck : Nat) {g : Fn} {s : Bool} (hg : Hid (fnAt p ib = some g)) (hs : Hid (passB K ic g.args = s)) (hc : 0 ≤ ic ∧ ic + (g.args.length : Int) ≤ (K.length : Int)) (hK : K.length ≤ ck ∧ K.length ≤ 3000) (w : World) (hp : PgV Any w (.slice ag p.glob.length cg) (.slice az p.shapes.length cs) (.slice af p.funcs.length cf) p) (hf : FnC Any w f (.slice a0 f.args.length c0) (.int .i64 f.res) (.int .i64 f.slots) (.slice a3 f.objs.length c3) (.slice a4 f.code.length c4)) (hk : SrcP Any w (.slice ak K.length ck) K) :
    Calls Try.prog 48 #[.agg #[.slice ag p.glob.length cg, .slice az p.shapes.length cs, .slice af p.funcs.length cf, .slice a0 f.args.length c0, .int .i64 f.res, .int .i64 f.slots, .slice a3 f.objs.length c3, .slice a4 f.code.length c4, .int .i64 io, .int .i64 ia, .int .i64 ib, .int .i64 ic, .slice ak K.length ck]] w fun e w' => e = .returned (.bool s) ∧ Below w.heap.size w w' := by
  obtain ⟨c, rfl⟩ : ∃ c : Nat, ic = (c : Int) := ⟨ic.toNat, by omega⟩
  obtain ⟨wa, hwa⟩ : ∃ wa, w.alloc (.cells #[.slice ag p.glob.length cg, .slice az p.shapes.length cs, .slice af p.funcs.length cf, .slice a0 f.args.length c0, .int .i64 f.res, .int .i64 f.slots, .slice a3 f.objs.length c3, .slice a4 f.code.length c4, .int .i64 io, .int .i64 ia, .int .i64 ib, .int .i64 (c : Int), .slice ak K.length ck] 66) = wa := ⟨_, rfl⟩
  have HT : Hid (OnT w wa w.heap.size p f io ia ib (c : Int) ag az af cg cs cf a0 a3 a4 c0 c3 c4 K ak ck) := onT_start p f io ia ib (c : Int) ag az af cg cs cf a0 a3 a4 c0 c3 c4 K ak ck hwa hp hf hk
  obtain ⟨d0, d1, d2, d3, d4, d5, d6, d7, d8, d9, d10, d11⟩ := HT.out.box.c
  have d12 := HT.out.k12
  have hcn : c + g.args.length ≤ K.length := by omega
  have HS : Hid (((K.drop c).take g.args.length == g.args) = s) := by
    have := hs.out
    unfold passB at this
    rw [Int.toNat_natCast] at this
    exact this
  clear hp hf hk hc hs
  go_enter Try.func48, Try.ntmps48
  go_wp2_with fail
  refine (callee_any p f io ia ib (c : Int) ag az af cg cs cf a0 a3 a4 c0 c3 c4 K ak ck hg _ HT.out.pp HT.out.ff HT.out.kk).mono ?_
  rintro e w1 ⟨b0, b3, b4, e0, e3, e4, rfl, hgc, hb⟩
  have HT1 : Hid (OnT w w1 w.heap.size p f io ia ib (c : Int) ag az af cg cs cf a0 a3 a4 c0 c3 c4 K ak ck) := HT.out.below hb
  have HG : Hid (SrcAt w1 (.slice b0 g.args.length e0) g.args) := hgc.args.at_
  clear hb hgc d0 d1 d2 d3 d4 d5 d6 d7 d8 d9 d10 d11 d12 HT
  obtain ⟨d0, d1, d2, d3, d4, d5, d6, d7, d8, d9, d10, d11⟩ := HT1.out.box.c
  have d12 := HT1.out.k12
  have hfl : ∀ w, (Instr.field 41 (.agg #[.slice b0 g.args.length e0, .int .i64 g.res, .int .i64 g.slots, .slice b3 g.objs.length e3, .slice b4 g.code.length e4]) 0).run Try.prog w = .ok (.slice b0 g.args.length e0) w := fun _ => by kernel_rfl
  have hadd : IntKind.i64.wrap ((c : Int) + (g.args.length : Int)) = ((c + g.args.length : Nat) : Int) := by rw [IntKind.wrap_i64]; omega
  by_cases h0 : 0 < g.args.length
  · have hk0 : 0 < K.length := by omega
    obtain ⟨b, off, rfl, _, _, _⟩ := HT1.out.kk.some hk0
    have HSub : Hid (SrcAt w1 (.slice (some ⟨b, off + c, none⟩) g.args.length (ck - c)) ((K.drop c).take g.args.length)) := sub_src HT1.out.kk hcn h0
    have hsb : c + g.args.length - c = g.args.length := Nat.add_sub_cancel_left _ _
    go_wp2_with fail
    rw [hsb]
    refine (equal_any (L := (K.drop c).take g.args.length) (M := g.args) (s := s) (by have := HS.out; unfold Hid; rw [← this]; by_cases he : (K.drop c).take g.args.length = g.args <;> simp [he]) _ _ _ (by unfold maxLen; rw [List.length_take]; omega) HSub.out HG.out).mono ?_
    rintro e w2 ⟨rfl, q, rfl⟩
    go_wp2_with fail
    go_ret
    exact ⟨rfl, below_drewN HT1.out.low q⟩
  · have h00 : g.args.length = 0 := by omega
    have HS2 : Hid (true = s) := by
      have := HS.out
      rw [List.eq_nil_of_length_eq_zero h00] at this
      unfold Hid
      rw [← this]
      rfl
    have hsb : c + g.args.length - c = 0 := by omega
    have H00 : Hid (g.args.length = 0) := h00
    clear h0 h00
    by_cases hk0 : 0 < K.length
    · obtain ⟨b, off, rfl, _, _, _⟩ := HT1.out.kk.some hk0
      go_wp2_with fail
      all_goals
        try rw [hsb]
        try rw [show g.args.length = 0 from H00.out]
        refine (equal_zero _ _ _ _ _).mono ?_
        rintro e w2 ⟨rfl, q, rfl⟩
        go_wp2_with fail
        go_ret
        exact ⟨ret_bool HS2.out, below_drewN HT1.out.low q⟩
    · obtain rfl : c = 0 := by omega
      cases ak with
      | none =>
        go_wp2_with fail
        rw [show g.args.length = 0 from H00.out]
        refine (equal_zero _ _ _ _ _).mono ?_
        rintro e w2 ⟨rfl, q, rfl⟩
        go_wp2_with fail
        go_ret
        exact ⟨ret_bool HS2.out, below_drewN HT1.out.low q⟩
      | some ad =>
        go_wp2_with fail
        rw [show g.args.length = 0 from H00.out]
        refine (equal_zero _ _ _ _ _).mono ?_
        rintro e w2 ⟨rfl, q, rfl⟩
        go_wp2_with fail
        go_ret
        exact ⟨ret_bool HS2.out, below_drewN HT1.out.low q⟩

end Go.Proofs.Ytmjappcjfjajmaa

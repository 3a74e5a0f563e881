/- mayRead for the ops that are left; mayRead. -/
import Derived.Test.YtmjappcjfjajmaaFlD
import Derived.BigRegion
import Derived.Test.YtmjappcjfjajmaaQi
import Derived.Deep.RegionHeld3
namespace Go.Proofs.Ytmjappcjfjajmaa
open Go.RowKit

theorem some_eq (v k : Int) : (some v == some k) = (k == v) := by
  by_cases h : k = v
  · subst h; simp
  · have h' : ¬ v = k := fun e => h e.symm
    rw [show (k == v) = false by simpa using h, show (some v == some k) = false by simpa using h']
theorem arN_some {p : Pg} {ib : Int} {g : Fn} (h : fnAt p ib = some g) : arN p ib = g.args.length := by unfold arN; rw [h]
theorem argsOf_some {p : Pg} {ib : Int} {g : Fn} (h : fnAt p ib = some g) : argsOf p ib = g.args := by unfold argsOf; rw [h]
theorem two_of {p : Pg} {f : Fn} {v : Int} {k : Nat} (h : hasB p f k 2 v = true) : 0 ≤ v ∧ v + (k : Int) ≤ f.slots := by
  have h1 : (decide (0 ≤ v) && (decide (v ≤ f.slots) && decide ((k : Int) ≤ f.slots - v))) = true := h
  simp only [Bool.and_eq_true, decide_eq_true_eq] at h1
  omega

set_option maxRecDepth 100000 in
set_option maxHeartbeats 4000000 in
theorem rd_15 (p : Pg) (f : Fn) (io ia ib ic : Int) (ag az af : Option Addr) (cg cs cf : Nat) (a0 a3 a4 : Option Addr) (c0 c3 c4 : Nat) (K : List Int) (ak : Option Addr) (ck : Nat) {s : Bool} (ho : io = 15) (hs : Hid (rdB p f ⟨io, ia, ib, ic⟩ K = s)) (hi : Hid (OkI p f ⟨io, ia, ib, ic⟩)) (hK : Hid ((K.length : Int) = f.slots ∧ K.length ≤ ck ∧ K.length ≤ 3000)) (w : World) (hp : PgV Any w (.slice ag p.glob.length cg) (.slice az p.shapes.length cs) (.slice af p.funcs.length cf) p) (hf : FnC Any w f (.slice a0 f.args.length c0) (.int .i64 f.res) (.int .i64 f.slots) (.slice a3 f.objs.length c3) (.slice a4 f.code.length c4)) (hk : SrcP Any w (.slice ak K.length ck) K) :
    Calls Try.prog 29 #[.agg #[.slice ag p.glob.length cg, .slice az p.shapes.length cs, .slice af p.funcs.length cf, .slice a0 f.args.length c0, .int .i64 f.res, .int .i64 f.slots, .slice a3 f.objs.length c3, .slice a4 f.code.length c4, .int .i64 io, .int .i64 ia, .int .i64 ib, .int .i64 ic, .slice ak K.length ck]] w fun e w' => e = .returned (.bool s) ∧ Below w.heap.size w w' := by
  subst ho
  obtain ⟨wa, hwa⟩ : ∃ wa, w.alloc (.cells #[.slice ag p.glob.length cg, .slice az p.shapes.length cs, .slice af p.funcs.length cf, .slice a0 f.args.length c0, .int .i64 f.res, .int .i64 f.slots, .slice a3 f.objs.length c3, .slice a4 f.code.length c4, .int .i64 15, .int .i64 ia, .int .i64 ib, .int .i64 ic, .slice ak K.length ck] 66) = wa := ⟨_, rfl⟩
  have HT : Hid (OnT w wa w.heap.size p f 15 ia ib ic ag az af cg cs cf a0 a3 a4 c0 c3 c4 K ak ck) := onT_start p f 15 ia ib ic ag az af cg cs cf a0 a3 a4 c0 c3 c4 K ak ck hwa hp hf hk
  have HB : Hid (Below w.heap.size w (wa.alloc (.cells #[.int .i64 15, .int .i64 ia, .int .i64 ib, .int .i64 ic] 47)) ∧ OnT w (wa.alloc (.cells #[.int .i64 15, .int .i64 ia, .int .i64 ib, .int .i64 ic] 47)) w.heap.size p f 15 ia ib ic ag az af cg cs cf a0 a3 a4 c0 c3 c4 K ak ck) := ⟨HT.out.low.alloc HT.out.low.size _, HT.out.below ((Below.refl _ _).alloc (Nat.le_refl _) _)⟩
  have HI : Hid ((wa.alloc (.cells #[.int .i64 15, .int .i64 ia, .int .i64 ib, .int .i64 ic] 47)).cell? ⟨wa.heap.size, 0, none⟩ = some (.int .i64 15) ∧ (wa.alloc (.cells #[.int .i64 15, .int .i64 ia, .int .i64 ib, .int .i64 ic] 47)).cell? ⟨wa.heap.size, 1, none⟩ = some (.int .i64 ia) ∧
      (wa.alloc (.cells #[.int .i64 15, .int .i64 ia, .int .i64 ib, .int .i64 ic] 47)).cell? ⟨wa.heap.size, 2, none⟩ = some (.int .i64 ib) ∧ (wa.alloc (.cells #[.int .i64 15, .int .i64 ia, .int .i64 ib, .int .i64 ic] 47)).cell? ⟨wa.heap.size, 3, none⟩ = some (.int .i64 ic)) := ⟨cell_new wa _ _ rfl, cell_new wa _ _ rfl, cell_new wa _ _ rfl, cell_new wa _ _ rfl⟩
  obtain ⟨d0, d1, d2, d3, d4, d5, d6, d7, d8, d9, d10, d11⟩ := HT.out.box.c
  have d12 := HT.out.k12
  have hpl := plac_and hi.out
  clear hp hf hk
  go_enter Try.func29, Try.ntmps29
  go_upto_region 2 with (fail)
  clear d0 d1 d2 d3 d4 d5 d6 d7 d8 d9 d10 d11 d12 HT hwa
  generalize wa.alloc (.cells #[.int .i64 15, .int .i64 ia, .int .i64 ib, .int .i64 ic] 47) = wb at *
  generalize wa.heap.size = gi at *
  clear wa
  obtain ⟨i0, i1, i2, i3⟩ := HI.out
  obtain ⟨d0, d1, d2, d3, d4, d5, d6, d7, d8, d9, d10, d11⟩ := HB.out.2.box.c
  have d12 := HB.out.2.k12
  have h1 : inB ia f.slots = true := hpl.1
  have h2 : inB ib 16 = true := hpl.2.1
  have h3 : inB ic f.slots = true := hpl.2.2
  obtain ⟨m, rfl, hm⟩ := slot_of hK.out.1 h1
  obtain ⟨c, rfl, hc⟩ := fld_of h2
  obtain ⟨m', rfl, hm'⟩ := slot_of hK.out.1 h3
  obtain ⟨r, hr⟩ : ∃ r, Hid (fieldO p 16 (kat K (m : Int)) (c : Int) = r) := ⟨_, rfl⟩
  have HS : Hid ((r == some (kat K (m' : Int))) = s) := by
    have : (fieldO p 16 (kat K (m : Int)) (c : Int) == some (kat K (m' : Int))) = s := hs.out
    rw [hr.out] at this
    exact this
  have HM : Hid (m < K.length) := hm
  have hgi : gi < wb.heap.size := (cell_lt i0).1
  have hmI' : (m' : Int) < (K.length : Int) := by omega
  clear hs hpl h1 h2 h3 hm hc
  go_wp2_with fail
  refine (field_ptr p f 15 (m : Int) (c : Int) (m' : Int) ag az af cg cs cf a0 a3 a4 c0 c3 c4 K ak ck (by decide) (by decide) hr HM.out _ HB.out.2.pp HB.out.2.ff HB.out.2.kk).mono ?_
  rintro e w1 ⟨he, hb⟩
  unfold fldIs at he
  subst he
  have HT1 : Hid (OnT w w1 w.heap.size p f 15 (m : Int) (c : Int) (m' : Int) ag az af cg cs cf a0 a3 a4 c0 c3 c4 K ak ck) := HB.out.2.below hb
  have j0 := (hb.cell (p := ⟨gi, 0, none⟩) hgi).trans i0
  have j1 := (hb.cell (p := ⟨gi, 1, none⟩) hgi).trans i1
  have j2 := (hb.cell (p := ⟨gi, 2, none⟩) hgi).trans i2
  have j3 := (hb.cell (p := ⟨gi, 3, none⟩) hgi).trans i3
  clear hb d0 d1 d2 d3 d4 d5 d6 d7 d8 d9 d10 d11 d12 i0 i1 i2 i3 HI hr HM
  have d12 := HT1.out.k12
  obtain ⟨b, off, rfl, kc⟩ := HT1.out.kk.kat hm'
  generalize kat K (m' : Int) = k' at *
  cases r with
  | none =>
    have HS2 : Hid (false = s) := HS.out
    go_wp2_with fail
    go_ret
    exact ⟨ret_bool HS2.out, HT1.out.low⟩
  | some v =>
    have HS2 : Hid ((k' == v) = s) := by
      have := HS.out
      rw [some_eq] at this
      exact this
    go_wp2_with fail
    go_ret
    exact ⟨ret_bool HS2.out, HT1.out.low⟩

set_option maxRecDepth 100000 in
set_option maxHeartbeats 4000000 in
theorem rd_20 (p : Pg) (f : Fn) (io ia ib ic : Int) (ag az af : Option Addr) (cg cs cf : Nat) (a0 a3 a4 : Option Addr) (c0 c3 c4 : Nat) (K : List Int) (ak : Option Addr) (ck : Nat) {s : Bool} (ho : io = 20) (hs : Hid (rdB p f ⟨io, ia, ib, ic⟩ K = s)) (hi : Hid (OkI p f ⟨io, ia, ib, ic⟩)) (hK : Hid ((K.length : Int) = f.slots ∧ K.length ≤ ck ∧ K.length ≤ 3000)) (w : World) (hp : PgV Any w (.slice ag p.glob.length cg) (.slice az p.shapes.length cs) (.slice af p.funcs.length cf) p) (hf : FnC Any w f (.slice a0 f.args.length c0) (.int .i64 f.res) (.int .i64 f.slots) (.slice a3 f.objs.length c3) (.slice a4 f.code.length c4)) (hk : SrcP Any w (.slice ak K.length ck) K) :
    Calls Try.prog 29 #[.agg #[.slice ag p.glob.length cg, .slice az p.shapes.length cs, .slice af p.funcs.length cf, .slice a0 f.args.length c0, .int .i64 f.res, .int .i64 f.slots, .slice a3 f.objs.length c3, .slice a4 f.code.length c4, .int .i64 io, .int .i64 ia, .int .i64 ib, .int .i64 ic, .slice ak K.length ck]] w fun e w' => e = .returned (.bool s) ∧ Below w.heap.size w w' := by
  subst ho
  obtain ⟨wa, hwa⟩ : ∃ wa, w.alloc (.cells #[.slice ag p.glob.length cg, .slice az p.shapes.length cs, .slice af p.funcs.length cf, .slice a0 f.args.length c0, .int .i64 f.res, .int .i64 f.slots, .slice a3 f.objs.length c3, .slice a4 f.code.length c4, .int .i64 20, .int .i64 ia, .int .i64 ib, .int .i64 ic, .slice ak K.length ck] 66) = wa := ⟨_, rfl⟩
  have HT : Hid (OnT w wa w.heap.size p f 20 ia ib ic ag az af cg cs cf a0 a3 a4 c0 c3 c4 K ak ck) := onT_start p f 20 ia ib ic ag az af cg cs cf a0 a3 a4 c0 c3 c4 K ak ck hwa hp hf hk
  have HB : Hid (Below w.heap.size w (wa.alloc (.cells #[.int .i64 20, .int .i64 ia, .int .i64 ib, .int .i64 ic] 47)) ∧ OnT w (wa.alloc (.cells #[.int .i64 20, .int .i64 ia, .int .i64 ib, .int .i64 ic] 47)) w.heap.size p f 20 ia ib ic ag az af cg cs cf a0 a3 a4 c0 c3 c4 K ak ck) := ⟨HT.out.low.alloc HT.out.low.size _, HT.out.below ((Below.refl _ _).alloc (Nat.le_refl _) _)⟩
  have HI : Hid ((wa.alloc (.cells #[.int .i64 20, .int .i64 ia, .int .i64 ib, .int .i64 ic] 47)).cell? ⟨wa.heap.size, 0, none⟩ = some (.int .i64 20) ∧ (wa.alloc (.cells #[.int .i64 20, .int .i64 ia, .int .i64 ib, .int .i64 ic] 47)).cell? ⟨wa.heap.size, 1, none⟩ = some (.int .i64 ia) ∧
      (wa.alloc (.cells #[.int .i64 20, .int .i64 ia, .int .i64 ib, .int .i64 ic] 47)).cell? ⟨wa.heap.size, 2, none⟩ = some (.int .i64 ib) ∧ (wa.alloc (.cells #[.int .i64 20, .int .i64 ia, .int .i64 ib, .int .i64 ic] 47)).cell? ⟨wa.heap.size, 3, none⟩ = some (.int .i64 ic)) := ⟨cell_new wa _ _ rfl, cell_new wa _ _ rfl, cell_new wa _ _ rfl, cell_new wa _ _ rfl⟩
  obtain ⟨d0, d1, d2, d3, d4, d5, d6, d7, d8, d9, d10, d11⟩ := HT.out.box.c
  have d12 := HT.out.k12
  have hpl := plac_and hi.out
  clear hp hf hk
  go_enter Try.func29, Try.ntmps29
  go_upto_region 2 with (fail)
  clear d0 d1 d2 d3 d4 d5 d6 d7 d8 d9 d10 d11 d12 HT hwa
  generalize wa.alloc (.cells #[.int .i64 20, .int .i64 ia, .int .i64 ib, .int .i64 ic] 47) = wb at *
  generalize wa.heap.size = gi at *
  clear wa
  obtain ⟨i0, i1, i2, i3⟩ := HI.out
  obtain ⟨d0, d1, d2, d3, d4, d5, d6, d7, d8, d9, d10, d11⟩ := HB.out.2.box.c
  have d12 := HB.out.2.k12
  have h1 : inB ia f.slots = true := hpl.1
  have h2 : inB ib 16 = true := hpl.2.1
  have h3 : inB ic f.slots = true := hpl.2.2
  obtain ⟨m, rfl, hm⟩ := slot_of hK.out.1 h1
  obtain ⟨c, rfl, hc⟩ := fld_of h2
  obtain ⟨m', rfl, hm'⟩ := slot_of hK.out.1 h3
  obtain ⟨r, hr⟩ : ∃ r, Hid (fieldO p 64 (kat K (m : Int)) (c : Int) = r) := ⟨_, rfl⟩
  have HS : Hid ((r == some (kat K (m' : Int))) = s) := by
    have : (fieldO p 64 (kat K (m : Int)) (c : Int) == some (kat K (m' : Int))) = s := hs.out
    rw [hr.out] at this
    exact this
  have HM : Hid (m < K.length) := hm
  have hgi : gi < wb.heap.size := (cell_lt i0).1
  have hmI' : (m' : Int) < (K.length : Int) := by omega
  clear hs hpl h1 h2 h3 hm hc
  go_wp2_with fail
  refine (field_20 p f 20 (m : Int) (c : Int) (m' : Int) ag az af cg cs cf a0 a3 a4 c0 c3 c4 K ak ck rfl hr HM.out _ HB.out.2.pp HB.out.2.ff HB.out.2.kk).mono ?_
  rintro e w1 ⟨he, hb⟩
  unfold fldIs at he
  subst he
  have HT1 : Hid (OnT w w1 w.heap.size p f 20 (m : Int) (c : Int) (m' : Int) ag az af cg cs cf a0 a3 a4 c0 c3 c4 K ak ck) := HB.out.2.below hb
  have j0 := (hb.cell (p := ⟨gi, 0, none⟩) hgi).trans i0
  have j1 := (hb.cell (p := ⟨gi, 1, none⟩) hgi).trans i1
  have j2 := (hb.cell (p := ⟨gi, 2, none⟩) hgi).trans i2
  have j3 := (hb.cell (p := ⟨gi, 3, none⟩) hgi).trans i3
  clear hb d0 d1 d2 d3 d4 d5 d6 d7 d8 d9 d10 d11 d12 i0 i1 i2 i3 HI hr HM
  have d12 := HT1.out.k12
  obtain ⟨b, off, rfl, kc⟩ := HT1.out.kk.kat hm'
  generalize kat K (m' : Int) = k' at *
  cases r with
  | none =>
    have HS2 : Hid (false = s) := HS.out
    go_wp2_with fail
    go_ret
    exact ⟨ret_bool HS2.out, HT1.out.low⟩
  | some v =>
    have HS2 : Hid ((k' == v) = s) := by
      have := HS.out
      rw [some_eq] at this
      exact this
    go_wp2_with fail
    go_ret
    exact ⟨ret_bool HS2.out, HT1.out.low⟩

set_option maxRecDepth 100000 in
set_option maxHeartbeats 4000000 in
theorem rd_17 (p : Pg) (f : Fn) (io ia ib ic : Int) (ag az af : Option Addr) (cg cs cf : Nat) (a0 a3 a4 : Option Addr) (c0 c3 c4 : Nat) (K : List Int) (ak : Option Addr) (ck : Nat) {s : Bool} (ho : io = 17) (hs : Hid (rdB p f ⟨io, ia, ib, ic⟩ K = s)) (hi : Hid (OkI p f ⟨io, ia, ib, ic⟩)) (hK : Hid ((K.length : Int) = f.slots ∧ K.length ≤ ck ∧ K.length ≤ 3000)) (w : World) (hp : PgV Any w (.slice ag p.glob.length cg) (.slice az p.shapes.length cs) (.slice af p.funcs.length cf) p) (hf : FnC Any w f (.slice a0 f.args.length c0) (.int .i64 f.res) (.int .i64 f.slots) (.slice a3 f.objs.length c3) (.slice a4 f.code.length c4)) (hk : SrcP Any w (.slice ak K.length ck) K) :
    Calls Try.prog 29 #[.agg #[.slice ag p.glob.length cg, .slice az p.shapes.length cs, .slice af p.funcs.length cf, .slice a0 f.args.length c0, .int .i64 f.res, .int .i64 f.slots, .slice a3 f.objs.length c3, .slice a4 f.code.length c4, .int .i64 io, .int .i64 ia, .int .i64 ib, .int .i64 ic, .slice ak K.length ck]] w fun e w' => e = .returned (.bool s) ∧ Below w.heap.size w w' := by
  subst ho
  obtain ⟨wa, hwa⟩ : ∃ wa, w.alloc (.cells #[.slice ag p.glob.length cg, .slice az p.shapes.length cs, .slice af p.funcs.length cf, .slice a0 f.args.length c0, .int .i64 f.res, .int .i64 f.slots, .slice a3 f.objs.length c3, .slice a4 f.code.length c4, .int .i64 17, .int .i64 ia, .int .i64 ib, .int .i64 ic, .slice ak K.length ck] 66) = wa := ⟨_, rfl⟩
  have HT : Hid (OnT w wa w.heap.size p f 17 ia ib ic ag az af cg cs cf a0 a3 a4 c0 c3 c4 K ak ck) := onT_start p f 17 ia ib ic ag az af cg cs cf a0 a3 a4 c0 c3 c4 K ak ck hwa hp hf hk
  have HB : Hid (Below w.heap.size w (wa.alloc (.cells #[.int .i64 17, .int .i64 ia, .int .i64 ib, .int .i64 ic] 47)) ∧ OnT w (wa.alloc (.cells #[.int .i64 17, .int .i64 ia, .int .i64 ib, .int .i64 ic] 47)) w.heap.size p f 17 ia ib ic ag az af cg cs cf a0 a3 a4 c0 c3 c4 K ak ck) := ⟨HT.out.low.alloc HT.out.low.size _, HT.out.below ((Below.refl _ _).alloc (Nat.le_refl _) _)⟩
  have HI : Hid ((wa.alloc (.cells #[.int .i64 17, .int .i64 ia, .int .i64 ib, .int .i64 ic] 47)).cell? ⟨wa.heap.size, 0, none⟩ = some (.int .i64 17) ∧ (wa.alloc (.cells #[.int .i64 17, .int .i64 ia, .int .i64 ib, .int .i64 ic] 47)).cell? ⟨wa.heap.size, 1, none⟩ = some (.int .i64 ia) ∧
      (wa.alloc (.cells #[.int .i64 17, .int .i64 ia, .int .i64 ib, .int .i64 ic] 47)).cell? ⟨wa.heap.size, 2, none⟩ = some (.int .i64 ib) ∧ (wa.alloc (.cells #[.int .i64 17, .int .i64 ia, .int .i64 ib, .int .i64 ic] 47)).cell? ⟨wa.heap.size, 3, none⟩ = some (.int .i64 ic)) := ⟨cell_new wa _ _ rfl, cell_new wa _ _ rfl, cell_new wa _ _ rfl, cell_new wa _ _ rfl⟩
  obtain ⟨d0, d1, d2, d3, d4, d5, d6, d7, d8, d9, d10, d11⟩ := HT.out.box.c
  have d12 := HT.out.k12
  have hpl := plac_and hi.out
  clear hp hf hk
  go_enter Try.func29, Try.ntmps29
  go_upto_region 2 with (fail)
  clear d0 d1 d2 d3 d4 d5 d6 d7 d8 d9 d10 d11 d12 HT hwa
  generalize wa.alloc (.cells #[.int .i64 17, .int .i64 ia, .int .i64 ib, .int .i64 ic] 47) = wb at *
  generalize wa.heap.size = gi at *
  clear wa
  obtain ⟨i0, i1, i2, i3⟩ := HI.out
  obtain ⟨d0, d1, d2, d3, d4, d5, d6, d7, d8, d9, d10, d11⟩ := HB.out.2.box.c
  have d12 := HB.out.2.k12
  have h1 : inB ia p.glob.length = true := hpl.1
  have h2 : inB ib f.slots = true := hpl.2.1
  obtain ⟨n, rfl, hn⟩ := num_of h1
  obtain ⟨m, rfl, hm⟩ := slot_of hK.out.1 h2
  obtain ⟨b, off, rfl, kc⟩ := HB.out.2.kk.kat hm
  obtain ⟨bg, og, rfl, gc⟩ := HB.out.2.pp.glob.kat (m := n) (by omega)
  have hmI : (m : Int) < (K.length : Int) := by omega
  have hnI : (n : Int) < (p.glob.length : Int) := by omega
  have HS : Hid ((kat K (m : Int) == kat p.glob (n : Int)) = s) := hs.out
  generalize kat K (m : Int) = k at *
  generalize kat p.glob (n : Int) = k' at *
  clear hs hpl h1 h2
  go_upto_region 27 with (fail)
  go_quiet (fail)
  go_wp2_with fail
  go_ret
  exact ⟨ret_bool HS.out, below_drewN HB.out.1 _⟩

set_option maxRecDepth 100000 in
set_option maxHeartbeats 4000000 in
theorem rd_21 (p : Pg) (f : Fn) (io ia ib ic : Int) (ag az af : Option Addr) (cg cs cf : Nat) (a0 a3 a4 : Option Addr) (c0 c3 c4 : Nat) (K : List Int) (ak : Option Addr) (ck : Nat) {s : Bool} (ho : io = 21) (hs : Hid (rdB p f ⟨io, ia, ib, ic⟩ K = s)) (hi : Hid (OkI p f ⟨io, ia, ib, ic⟩)) (hK : Hid ((K.length : Int) = f.slots ∧ K.length ≤ ck ∧ K.length ≤ 3000)) (w : World) (hp : PgV Any w (.slice ag p.glob.length cg) (.slice az p.shapes.length cs) (.slice af p.funcs.length cf) p) (hf : FnC Any w f (.slice a0 f.args.length c0) (.int .i64 f.res) (.int .i64 f.slots) (.slice a3 f.objs.length c3) (.slice a4 f.code.length c4)) (hk : SrcP Any w (.slice ak K.length ck) K) :
    Calls Try.prog 29 #[.agg #[.slice ag p.glob.length cg, .slice az p.shapes.length cs, .slice af p.funcs.length cf, .slice a0 f.args.length c0, .int .i64 f.res, .int .i64 f.slots, .slice a3 f.objs.length c3, .slice a4 f.code.length c4, .int .i64 io, .int .i64 ia, .int .i64 ib, .int .i64 ic, .slice ak K.length ck]] w fun e w' => e = .returned (.bool s) ∧ Below w.heap.size w w' := by
  subst ho
  obtain ⟨wa, hwa⟩ : ∃ wa, w.alloc (.cells #[.slice ag p.glob.length cg, .slice az p.shapes.length cs, .slice af p.funcs.length cf, .slice a0 f.args.length c0, .int .i64 f.res, .int .i64 f.slots, .slice a3 f.objs.length c3, .slice a4 f.code.length c4, .int .i64 21, .int .i64 ia, .int .i64 ib, .int .i64 ic, .slice ak K.length ck] 66) = wa := ⟨_, rfl⟩
  have HT : Hid (OnT w wa w.heap.size p f 21 ia ib ic ag az af cg cs cf a0 a3 a4 c0 c3 c4 K ak ck) := onT_start p f 21 ia ib ic ag az af cg cs cf a0 a3 a4 c0 c3 c4 K ak ck hwa hp hf hk
  have HB : Hid (Below w.heap.size w (wa.alloc (.cells #[.int .i64 21, .int .i64 ia, .int .i64 ib, .int .i64 ic] 47)) ∧ OnT w (wa.alloc (.cells #[.int .i64 21, .int .i64 ia, .int .i64 ib, .int .i64 ic] 47)) w.heap.size p f 21 ia ib ic ag az af cg cs cf a0 a3 a4 c0 c3 c4 K ak ck) := ⟨HT.out.low.alloc HT.out.low.size _, HT.out.below ((Below.refl _ _).alloc (Nat.le_refl _) _)⟩
  have HI : Hid ((wa.alloc (.cells #[.int .i64 21, .int .i64 ia, .int .i64 ib, .int .i64 ic] 47)).cell? ⟨wa.heap.size, 0, none⟩ = some (.int .i64 21) ∧ (wa.alloc (.cells #[.int .i64 21, .int .i64 ia, .int .i64 ib, .int .i64 ic] 47)).cell? ⟨wa.heap.size, 1, none⟩ = some (.int .i64 ia) ∧
      (wa.alloc (.cells #[.int .i64 21, .int .i64 ia, .int .i64 ib, .int .i64 ic] 47)).cell? ⟨wa.heap.size, 2, none⟩ = some (.int .i64 ib) ∧ (wa.alloc (.cells #[.int .i64 21, .int .i64 ia, .int .i64 ib, .int .i64 ic] 47)).cell? ⟨wa.heap.size, 3, none⟩ = some (.int .i64 ic)) := ⟨cell_new wa _ _ rfl, cell_new wa _ _ rfl, cell_new wa _ _ rfl, cell_new wa _ _ rfl⟩
  obtain ⟨d0, d1, d2, d3, d4, d5, d6, d7, d8, d9, d10, d11⟩ := HT.out.box.c
  have d12 := HT.out.k12
  have hpl := plac_and hi.out
  clear hp hf hk
  go_enter Try.func29, Try.ntmps29
  go_upto_region 2 with (fail)
  clear d0 d1 d2 d3 d4 d5 d6 d7 d8 d9 d10 d11 d12 HT hwa
  generalize wa.alloc (.cells #[.int .i64 21, .int .i64 ia, .int .i64 ib, .int .i64 ic] 47) = wb at *
  generalize wa.heap.size = gi at *
  clear wa
  obtain ⟨i0, i1, i2, i3⟩ := HI.out
  obtain ⟨d0, d1, d2, d3, d4, d5, d6, d7, d8, d9, d10, d11⟩ := HB.out.2.box.c
  have d12 := HB.out.2.k12
  have h1 : inB ib p.funcs.length = true := hpl.2.1
  rw [fnAt_inB] at h1
  obtain ⟨g, hg⟩ := Option.isSome_iff_exists.1 h1
  have h2 := two_of hpl.2.2
  have HG : Hid (fnAt p ib = some g) := hg
  have HC : Hid (0 ≤ ic ∧ ic + (g.args.length : Int) ≤ (K.length : Int)) := by
    have h3 := arN_some hg
    have h4 := hK.out.1
    have h5 : 0 ≤ ic ∧ ic + ((arN p ib : Nat) : Int) ≤ f.slots := h2
    rw [h3] at h5
    unfold Hid
    omega
  have HS : Hid (passB K ic g.args = s) := by
    have : passB K ic (argsOf p ib) = s := hs.out
    rw [argsOf_some hg] at this
    exact this
  clear hs hpl h1 h2 hg
  go_wp2_with fail
  refine (pass_any p f 21 ia ib ic ag az af cg cs cf a0 a3 a4 c0 c3 c4 K ak ck HG HS HC.out hK.out.2 _ HB.out.2.pp HB.out.2.ff HB.out.2.kk).mono ?_
  rintro e w1 ⟨rfl, hb⟩
  have HB2 : Hid (Below w.heap.size w w1) := HB.out.1.trans (hb.mono HB.out.1.size)
  clear hb d0 d1 d2 d3 d4 d5 d6 d7 d8 d9 d10 d11 d12 i0 i1 i2 i3 HI
  go_wp2_with fail
  go_ret
  exact ⟨rfl, HB2.out⟩

set_option maxRecDepth 100000 in
set_option maxHeartbeats 4000000 in
theorem rd_23 (p : Pg) (f : Fn) (io ia ib ic : Int) (ag az af : Option Addr) (cg cs cf : Nat) (a0 a3 a4 : Option Addr) (c0 c3 c4 : Nat) (K : List Int) (ak : Option Addr) (ck : Nat) {s : Bool} (ho : io = 23) (hs : Hid (rdB p f ⟨io, ia, ib, ic⟩ K = s)) (hi : Hid (OkI p f ⟨io, ia, ib, ic⟩)) (hK : Hid ((K.length : Int) = f.slots ∧ K.length ≤ ck ∧ K.length ≤ 3000)) (w : World) (hp : PgV Any w (.slice ag p.glob.length cg) (.slice az p.shapes.length cs) (.slice af p.funcs.length cf) p) (hf : FnC Any w f (.slice a0 f.args.length c0) (.int .i64 f.res) (.int .i64 f.slots) (.slice a3 f.objs.length c3) (.slice a4 f.code.length c4)) (hk : SrcP Any w (.slice ak K.length ck) K) :
    Calls Try.prog 29 #[.agg #[.slice ag p.glob.length cg, .slice az p.shapes.length cs, .slice af p.funcs.length cf, .slice a0 f.args.length c0, .int .i64 f.res, .int .i64 f.slots, .slice a3 f.objs.length c3, .slice a4 f.code.length c4, .int .i64 io, .int .i64 ia, .int .i64 ib, .int .i64 ic, .slice ak K.length ck]] w fun e w' => e = .returned (.bool s) ∧ Below w.heap.size w w' := by
  subst ho
  obtain ⟨wa, hwa⟩ : ∃ wa, w.alloc (.cells #[.slice ag p.glob.length cg, .slice az p.shapes.length cs, .slice af p.funcs.length cf, .slice a0 f.args.length c0, .int .i64 f.res, .int .i64 f.slots, .slice a3 f.objs.length c3, .slice a4 f.code.length c4, .int .i64 23, .int .i64 ia, .int .i64 ib, .int .i64 ic, .slice ak K.length ck] 66) = wa := ⟨_, rfl⟩
  have HT : Hid (OnT w wa w.heap.size p f 23 ia ib ic ag az af cg cs cf a0 a3 a4 c0 c3 c4 K ak ck) := onT_start p f 23 ia ib ic ag az af cg cs cf a0 a3 a4 c0 c3 c4 K ak ck hwa hp hf hk
  have HB : Hid (Below w.heap.size w (wa.alloc (.cells #[.int .i64 23, .int .i64 ia, .int .i64 ib, .int .i64 ic] 47)) ∧ OnT w (wa.alloc (.cells #[.int .i64 23, .int .i64 ia, .int .i64 ib, .int .i64 ic] 47)) w.heap.size p f 23 ia ib ic ag az af cg cs cf a0 a3 a4 c0 c3 c4 K ak ck) := ⟨HT.out.low.alloc HT.out.low.size _, HT.out.below ((Below.refl _ _).alloc (Nat.le_refl _) _)⟩
  have HI : Hid ((wa.alloc (.cells #[.int .i64 23, .int .i64 ia, .int .i64 ib, .int .i64 ic] 47)).cell? ⟨wa.heap.size, 0, none⟩ = some (.int .i64 23) ∧ (wa.alloc (.cells #[.int .i64 23, .int .i64 ia, .int .i64 ib, .int .i64 ic] 47)).cell? ⟨wa.heap.size, 1, none⟩ = some (.int .i64 ia) ∧
      (wa.alloc (.cells #[.int .i64 23, .int .i64 ia, .int .i64 ib, .int .i64 ic] 47)).cell? ⟨wa.heap.size, 2, none⟩ = some (.int .i64 ib) ∧ (wa.alloc (.cells #[.int .i64 23, .int .i64 ia, .int .i64 ib, .int .i64 ic] 47)).cell? ⟨wa.heap.size, 3, none⟩ = some (.int .i64 ic)) := ⟨cell_new wa _ _ rfl, cell_new wa _ _ rfl, cell_new wa _ _ rfl, cell_new wa _ _ rfl⟩
  obtain ⟨d0, d1, d2, d3, d4, d5, d6, d7, d8, d9, d10, d11⟩ := HT.out.box.c
  have d12 := HT.out.k12
  have hpl := plac_and hi.out
  clear hp hf hk
  go_enter Try.func29, Try.ntmps29
  go_upto_region 2 with (fail)
  clear d0 d1 d2 d3 d4 d5 d6 d7 d8 d9 d10 d11 d12 HT hwa
  generalize wa.alloc (.cells #[.int .i64 23, .int .i64 ia, .int .i64 ib, .int .i64 ic] 47) = wb at *
  generalize wa.heap.size = gi at *
  clear wa
  obtain ⟨i0, i1, i2, i3⟩ := HI.out
  obtain ⟨d0, d1, d2, d3, d4, d5, d6, d7, d8, d9, d10, d11⟩ := HB.out.2.box.c
  have d12 := HB.out.2.k12
  have h1 : inB ib p.funcs.length = true := hpl.2.1
  rw [fnAt_inB] at h1
  obtain ⟨g, hg⟩ := Option.isSome_iff_exists.1 h1
  have h2 := two_of hpl.2.2
  have HG : Hid (fnAt p ib = some g) := hg
  have HC : Hid (0 ≤ ic ∧ ic + (g.args.length : Int) ≤ (K.length : Int)) := by
    have h3 := arN_some hg
    have h4 := hK.out.1
    have h5 : 0 ≤ ic ∧ ic + ((arN p ib : Nat) : Int) ≤ f.slots := h2
    rw [h3] at h5
    unfold Hid
    omega
  have HS : Hid (passB K ic g.args = s) := by
    have : passB K ic (argsOf p ib) = s := hs.out
    rw [argsOf_some hg] at this
    exact this
  clear hs hpl h1 h2 hg
  go_wp2_with fail
  refine (pass_any p f 23 ia ib ic ag az af cg cs cf a0 a3 a4 c0 c3 c4 K ak ck HG HS HC.out hK.out.2 _ HB.out.2.pp HB.out.2.ff HB.out.2.kk).mono ?_
  rintro e w1 ⟨rfl, hb⟩
  have HB2 : Hid (Below w.heap.size w w1) := HB.out.1.trans (hb.mono HB.out.1.size)
  clear hb d0 d1 d2 d3 d4 d5 d6 d7 d8 d9 d10 d11 d12 i0 i1 i2 i3 HI
  go_wp2_with fail
  go_ret
  exact ⟨rfl, HB2.out⟩

set_option maxRecDepth 100000 in
set_option maxHeartbeats 4000000 in
theorem rd_24 (p : Pg) (f : Fn) (io ia ib ic : Int) (ag az af : Option Addr) (cg cs cf : Nat) (a0 a3 a4 : Option Addr) (c0 c3 c4 : Nat) (K : List Int) (ak : Option Addr) (ck : Nat) {s : Bool} (ho : io = 24) (hs : Hid (rdB p f ⟨io, ia, ib, ic⟩ K = s)) (hi : Hid (OkI p f ⟨io, ia, ib, ic⟩)) (hK : Hid ((K.length : Int) = f.slots ∧ K.length ≤ ck ∧ K.length ≤ 3000)) (w : World) (hp : PgV Any w (.slice ag p.glob.length cg) (.slice az p.shapes.length cs) (.slice af p.funcs.length cf) p) (hf : FnC Any w f (.slice a0 f.args.length c0) (.int .i64 f.res) (.int .i64 f.slots) (.slice a3 f.objs.length c3) (.slice a4 f.code.length c4)) (hk : SrcP Any w (.slice ak K.length ck) K) :
    Calls Try.prog 29 #[.agg #[.slice ag p.glob.length cg, .slice az p.shapes.length cs, .slice af p.funcs.length cf, .slice a0 f.args.length c0, .int .i64 f.res, .int .i64 f.slots, .slice a3 f.objs.length c3, .slice a4 f.code.length c4, .int .i64 io, .int .i64 ia, .int .i64 ib, .int .i64 ic, .slice ak K.length ck]] w fun e w' => e = .returned (.bool s) ∧ Below w.heap.size w w' := by
  subst ho
  obtain ⟨wa, hwa⟩ : ∃ wa, w.alloc (.cells #[.slice ag p.glob.length cg, .slice az p.shapes.length cs, .slice af p.funcs.length cf, .slice a0 f.args.length c0, .int .i64 f.res, .int .i64 f.slots, .slice a3 f.objs.length c3, .slice a4 f.code.length c4, .int .i64 24, .int .i64 ia, .int .i64 ib, .int .i64 ic, .slice ak K.length ck] 66) = wa := ⟨_, rfl⟩
  have HT : Hid (OnT w wa w.heap.size p f 24 ia ib ic ag az af cg cs cf a0 a3 a4 c0 c3 c4 K ak ck) := onT_start p f 24 ia ib ic ag az af cg cs cf a0 a3 a4 c0 c3 c4 K ak ck hwa hp hf hk
  have HB : Hid (Below w.heap.size w (wa.alloc (.cells #[.int .i64 24, .int .i64 ia, .int .i64 ib, .int .i64 ic] 47)) ∧ OnT w (wa.alloc (.cells #[.int .i64 24, .int .i64 ia, .int .i64 ib, .int .i64 ic] 47)) w.heap.size p f 24 ia ib ic ag az af cg cs cf a0 a3 a4 c0 c3 c4 K ak ck) := ⟨HT.out.low.alloc HT.out.low.size _, HT.out.below ((Below.refl _ _).alloc (Nat.le_refl _) _)⟩
  have HI : Hid ((wa.alloc (.cells #[.int .i64 24, .int .i64 ia, .int .i64 ib, .int .i64 ic] 47)).cell? ⟨wa.heap.size, 0, none⟩ = some (.int .i64 24) ∧ (wa.alloc (.cells #[.int .i64 24, .int .i64 ia, .int .i64 ib, .int .i64 ic] 47)).cell? ⟨wa.heap.size, 1, none⟩ = some (.int .i64 ia) ∧
      (wa.alloc (.cells #[.int .i64 24, .int .i64 ia, .int .i64 ib, .int .i64 ic] 47)).cell? ⟨wa.heap.size, 2, none⟩ = some (.int .i64 ib) ∧ (wa.alloc (.cells #[.int .i64 24, .int .i64 ia, .int .i64 ib, .int .i64 ic] 47)).cell? ⟨wa.heap.size, 3, none⟩ = some (.int .i64 ic)) := ⟨cell_new wa _ _ rfl, cell_new wa _ _ rfl, cell_new wa _ _ rfl, cell_new wa _ _ rfl⟩
  obtain ⟨d0, d1, d2, d3, d4, d5, d6, d7, d8, d9, d10, d11⟩ := HT.out.box.c
  have d12 := HT.out.k12
  have hpl := plac_and hi.out
  clear hp hf hk
  go_enter Try.func29, Try.ntmps29
  go_upto_region 2 with (fail)
  clear d0 d1 d2 d3 d4 d5 d6 d7 d8 d9 d10 d11 d12 HT hwa
  generalize wa.alloc (.cells #[.int .i64 24, .int .i64 ia, .int .i64 ib, .int .i64 ic] 47) = wb at *
  generalize wa.heap.size = gi at *
  clear wa
  obtain ⟨i0, i1, i2, i3⟩ := HI.out
  obtain ⟨d0, d1, d2, d3, d4, d5, d6, d7, d8, d9, d10, d11⟩ := HB.out.2.box.c
  have d12 := HB.out.2.k12
  have h1 : inB ib p.funcs.length = true := hpl.2.1
  rw [fnAt_inB] at h1
  obtain ⟨g, hg⟩ := Option.isSome_iff_exists.1 h1
  have h2 := two_of hpl.2.2
  have HG : Hid (fnAt p ib = some g) := hg
  have HC : Hid (0 ≤ ic ∧ ic + (g.args.length : Int) ≤ (K.length : Int)) := by
    have h3 := arN_some hg
    have h4 := hK.out.1
    have h5 : 0 ≤ ic ∧ ic + ((arN p ib : Nat) : Int) ≤ f.slots := h2
    rw [h3] at h5
    unfold Hid
    omega
  have HS : Hid (passB K ic g.args = s) := by
    have : passB K ic (argsOf p ib) = s := hs.out
    rw [argsOf_some hg] at this
    exact this
  clear hs hpl h1 h2 hg
  go_wp2_with fail
  refine (pass_any p f 24 ia ib ic ag az af cg cs cf a0 a3 a4 c0 c3 c4 K ak ck HG HS HC.out hK.out.2 _ HB.out.2.pp HB.out.2.ff HB.out.2.kk).mono ?_
  rintro e w1 ⟨rfl, hb⟩
  have HB2 : Hid (Below w.heap.size w w1) := HB.out.1.trans (hb.mono HB.out.1.size)
  clear hb d0 d1 d2 d3 d4 d5 d6 d7 d8 d9 d10 d11 d12 i0 i1 i2 i3 HI
  go_wp2_with fail
  go_ret
  exact ⟨rfl, HB2.out⟩

set_option maxRecDepth 100000 in
set_option maxHeartbeats 4000000 in
theorem rd_25 (p : Pg) (f : Fn) (io ia ib ic : Int) (ag az af : Option Addr) (cg cs cf : Nat) (a0 a3 a4 : Option Addr) (c0 c3 c4 : Nat) (K : List Int) (ak : Option Addr) (ck : Nat) {s : Bool} (ho : io = 25) (hs : Hid (rdB p f ⟨io, ia, ib, ic⟩ K = s)) (hi : Hid (OkI p f ⟨io, ia, ib, ic⟩)) (hK : Hid ((K.length : Int) = f.slots ∧ K.length ≤ ck ∧ K.length ≤ 3000)) (w : World) (hp : PgV Any w (.slice ag p.glob.length cg) (.slice az p.shapes.length cs) (.slice af p.funcs.length cf) p) (hf : FnC Any w f (.slice a0 f.args.length c0) (.int .i64 f.res) (.int .i64 f.slots) (.slice a3 f.objs.length c3) (.slice a4 f.code.length c4)) (hk : SrcP Any w (.slice ak K.length ck) K) :
    Calls Try.prog 29 #[.agg #[.slice ag p.glob.length cg, .slice az p.shapes.length cs, .slice af p.funcs.length cf, .slice a0 f.args.length c0, .int .i64 f.res, .int .i64 f.slots, .slice a3 f.objs.length c3, .slice a4 f.code.length c4, .int .i64 io, .int .i64 ia, .int .i64 ib, .int .i64 ic, .slice ak K.length ck]] w fun e w' => e = .returned (.bool s) ∧ Below w.heap.size w w' := by
  subst ho
  obtain ⟨wa, hwa⟩ : ∃ wa, w.alloc (.cells #[.slice ag p.glob.length cg, .slice az p.shapes.length cs, .slice af p.funcs.length cf, .slice a0 f.args.length c0, .int .i64 f.res, .int .i64 f.slots, .slice a3 f.objs.length c3, .slice a4 f.code.length c4, .int .i64 25, .int .i64 ia, .int .i64 ib, .int .i64 ic, .slice ak K.length ck] 66) = wa := ⟨_, rfl⟩
  have HT : Hid (OnT w wa w.heap.size p f 25 ia ib ic ag az af cg cs cf a0 a3 a4 c0 c3 c4 K ak ck) := onT_start p f 25 ia ib ic ag az af cg cs cf a0 a3 a4 c0 c3 c4 K ak ck hwa hp hf hk
  have HB : Hid (Below w.heap.size w (wa.alloc (.cells #[.int .i64 25, .int .i64 ia, .int .i64 ib, .int .i64 ic] 47)) ∧ OnT w (wa.alloc (.cells #[.int .i64 25, .int .i64 ia, .int .i64 ib, .int .i64 ic] 47)) w.heap.size p f 25 ia ib ic ag az af cg cs cf a0 a3 a4 c0 c3 c4 K ak ck) := ⟨HT.out.low.alloc HT.out.low.size _, HT.out.below ((Below.refl _ _).alloc (Nat.le_refl _) _)⟩
  have HI : Hid ((wa.alloc (.cells #[.int .i64 25, .int .i64 ia, .int .i64 ib, .int .i64 ic] 47)).cell? ⟨wa.heap.size, 0, none⟩ = some (.int .i64 25) ∧ (wa.alloc (.cells #[.int .i64 25, .int .i64 ia, .int .i64 ib, .int .i64 ic] 47)).cell? ⟨wa.heap.size, 1, none⟩ = some (.int .i64 ia) ∧
      (wa.alloc (.cells #[.int .i64 25, .int .i64 ia, .int .i64 ib, .int .i64 ic] 47)).cell? ⟨wa.heap.size, 2, none⟩ = some (.int .i64 ib) ∧ (wa.alloc (.cells #[.int .i64 25, .int .i64 ia, .int .i64 ib, .int .i64 ic] 47)).cell? ⟨wa.heap.size, 3, none⟩ = some (.int .i64 ic)) := ⟨cell_new wa _ _ rfl, cell_new wa _ _ rfl, cell_new wa _ _ rfl, cell_new wa _ _ rfl⟩
  obtain ⟨d0, d1, d2, d3, d4, d5, d6, d7, d8, d9, d10, d11⟩ := HT.out.box.c
  have d12 := HT.out.k12
  have hpl := plac_and hi.out
  clear hp hf hk
  go_enter Try.func29, Try.ntmps29
  go_upto_region 2 with (fail)
  clear d0 d1 d2 d3 d4 d5 d6 d7 d8 d9 d10 d11 d12 HT hwa
  generalize wa.alloc (.cells #[.int .i64 25, .int .i64 ia, .int .i64 ib, .int .i64 ic] 47) = wb at *
  generalize wa.heap.size = gi at *
  clear wa
  obtain ⟨i0, i1, i2, i3⟩ := HI.out
  obtain ⟨d0, d1, d2, d3, d4, d5, d6, d7, d8, d9, d10, d11⟩ := HB.out.2.box.c
  have d12 := HB.out.2.k12
  have h1 : inB ia f.slots = true := hpl.1
  have h2 : inB ib f.slots = true := hpl.2.1
  obtain ⟨m, rfl, hm⟩ := slot_of hK.out.1 h1
  obtain ⟨m', rfl, hm'⟩ := slot_of hK.out.1 h2
  obtain ⟨b, off, rfl, kc⟩ := HB.out.2.kk.kat hm
  obtain ⟨_, _, hbb, kc'⟩ := HB.out.2.kk.kat hm'
  cases hbb
  have hmI : (m : Int) < (K.length : Int) := by omega
  have hmI' : (m' : Int) < (K.length : Int) := by omega
  have HS : Hid ((kat K (m : Int) == 1 && kat K (m' : Int) == 16) = s) := hs.out
  generalize kat K (m : Int) = k at *
  generalize kat K (m' : Int) = k' at *
  clear hs hpl h1 h2
  by_cases hk1 : k = 1
  · have hd : (k == 1) = true := by simpa using hk1
    have HS2 : Hid ((k' == 16) = s) := by
      have := HS.out
      rw [hd] at this
      exact this
    clear hk1
    go_wp2_with fail
    go_ret
    exact ⟨ret_bool HS2.out, HB.out.1⟩
  · have hd : (k == 1) = false := by simpa using hk1
    have HS2 : Hid (false = s) := by
      have := HS.out
      rw [hd] at this
      exact this
    clear hk1
    go_wp2_with fail
    go_ret
    exact ⟨ret_bool HS2.out, HB.out.1⟩

set_option maxRecDepth 100000 in
set_option maxHeartbeats 4000000 in
theorem rd_22 (p : Pg) (f : Fn) (io ia ib ic : Int) (ag az af : Option Addr) (cg cs cf : Nat) (a0 a3 a4 : Option Addr) (c0 c3 c4 : Nat) (K : List Int) (ak : Option Addr) (ck : Nat) {s : Bool} (ho : io = 22) (hs : Hid (rdB p f ⟨io, ia, ib, ic⟩ K = s)) (hi : Hid (OkI p f ⟨io, ia, ib, ic⟩)) (hK : Hid ((K.length : Int) = f.slots ∧ K.length ≤ ck ∧ K.length ≤ 3000)) (w : World) (hp : PgV Any w (.slice ag p.glob.length cg) (.slice az p.shapes.length cs) (.slice af p.funcs.length cf) p) (hf : FnC Any w f (.slice a0 f.args.length c0) (.int .i64 f.res) (.int .i64 f.slots) (.slice a3 f.objs.length c3) (.slice a4 f.code.length c4)) (hk : SrcP Any w (.slice ak K.length ck) K) :
    Calls Try.prog 29 #[.agg #[.slice ag p.glob.length cg, .slice az p.shapes.length cs, .slice af p.funcs.length cf, .slice a0 f.args.length c0, .int .i64 f.res, .int .i64 f.slots, .slice a3 f.objs.length c3, .slice a4 f.code.length c4, .int .i64 io, .int .i64 ia, .int .i64 ib, .int .i64 ic, .slice ak K.length ck]] w fun e w' => e = .returned (.bool s) ∧ Below w.heap.size w w' := by
  subst ho
  obtain ⟨wa, hwa⟩ : ∃ wa, w.alloc (.cells #[.slice ag p.glob.length cg, .slice az p.shapes.length cs, .slice af p.funcs.length cf, .slice a0 f.args.length c0, .int .i64 f.res, .int .i64 f.slots, .slice a3 f.objs.length c3, .slice a4 f.code.length c4, .int .i64 22, .int .i64 ia, .int .i64 ib, .int .i64 ic, .slice ak K.length ck] 66) = wa := ⟨_, rfl⟩
  have HT : Hid (OnT w wa w.heap.size p f 22 ia ib ic ag az af cg cs cf a0 a3 a4 c0 c3 c4 K ak ck) := onT_start p f 22 ia ib ic ag az af cg cs cf a0 a3 a4 c0 c3 c4 K ak ck hwa hp hf hk
  have HB : Hid (Below w.heap.size w (wa.alloc (.cells #[.int .i64 22, .int .i64 ia, .int .i64 ib, .int .i64 ic] 47)) ∧ OnT w (wa.alloc (.cells #[.int .i64 22, .int .i64 ia, .int .i64 ib, .int .i64 ic] 47)) w.heap.size p f 22 ia ib ic ag az af cg cs cf a0 a3 a4 c0 c3 c4 K ak ck) := ⟨HT.out.low.alloc HT.out.low.size _, HT.out.below ((Below.refl _ _).alloc (Nat.le_refl _) _)⟩
  have HI : Hid ((wa.alloc (.cells #[.int .i64 22, .int .i64 ia, .int .i64 ib, .int .i64 ic] 47)).cell? ⟨wa.heap.size, 0, none⟩ = some (.int .i64 22) ∧ (wa.alloc (.cells #[.int .i64 22, .int .i64 ia, .int .i64 ib, .int .i64 ic] 47)).cell? ⟨wa.heap.size, 1, none⟩ = some (.int .i64 ia) ∧
      (wa.alloc (.cells #[.int .i64 22, .int .i64 ia, .int .i64 ib, .int .i64 ic] 47)).cell? ⟨wa.heap.size, 2, none⟩ = some (.int .i64 ib) ∧ (wa.alloc (.cells #[.int .i64 22, .int .i64 ia, .int .i64 ib, .int .i64 ic] 47)).cell? ⟨wa.heap.size, 3, none⟩ = some (.int .i64 ic)) := ⟨cell_new wa _ _ rfl, cell_new wa _ _ rfl, cell_new wa _ _ rfl, cell_new wa _ _ rfl⟩
  obtain ⟨d0, d1, d2, d3, d4, d5, d6, d7, d8, d9, d10, d11⟩ := HT.out.box.c
  have d12 := HT.out.k12
  have hpl := plac_and hi.out
  clear hp hf hk
  go_enter Try.func29, Try.ntmps29
  go_upto_region 2 with (fail)
  clear d0 d1 d2 d3 d4 d5 d6 d7 d8 d9 d10 d11 d12 HT hwa
  generalize wa.alloc (.cells #[.int .i64 22, .int .i64 ia, .int .i64 ib, .int .i64 ic] 47) = wb at *
  generalize wa.heap.size = gi at *
  clear wa
  obtain ⟨i0, i1, i2, i3⟩ := HI.out
  obtain ⟨d0, d1, d2, d3, d4, d5, d6, d7, d8, d9, d10, d11⟩ := HB.out.2.box.c
  have d12 := HB.out.2.k12
  have hgi : gi < wb.heap.size := (cell_lt i0).1
  by_cases h0 : f.res = 0
  · have hr : Hid ((f.res != 0) = false) := by unfold Hid; simp [h0]
    have HS : Hid (true = s) := by
      have : (f.res == 0 || kat K ia == f.res) = s := hs.out
      rw [show (f.res == 0) = true by simp [h0]] at this
      exact this
    clear hs hpl h0
    go_upto_region 33 with (fail)
    obtain ⟨I, hIe⟩ : ∃ I : World → Prop, I = fun w' => OnT w w' w.heap.size p f 22 ia ib ic ag az af cg cs cf a0 a3 a4 c0 c3 c4 K ak ck := ⟨_, rfl⟩
    have hIw : ∀ w', I w' ↔ (OnT w w' w.heap.size p f 22 ia ib ic ag az af cg cs cf a0 a3 a4 c0 c3 c4 K ak ck) := fun w' => by rw [hIe]
    have hI : I wb.drew := (hIw _).2 (HB.out.2.drewN 1)
    haveI : Nonempty (InW I) := ⟨⟨_, hI⟩⟩
    have hO : ∀ z : InW I, OnT w z.w w.heap.size p f 22 ia ib ic ag az af cg cs cf a0 a3 a4 c0 c3 c4 K ak ck := fun z => (hIw z.w).1 z.h
    have x3 : ∀ z : InW I, z.w.cell? ⟨w.heap.size, 3, none⟩ = some (.slice a0 f.args.length c0) := fun z => (hO z).box.k3
    have x4 : ∀ z : InW I, z.w.cell? ⟨w.heap.size, 4, none⟩ = some (.int .i64 f.res) := fun z => (hO z).box.k4
    have x5 : ∀ z : InW I, z.w.cell? ⟨w.heap.size, 5, none⟩ = some (.int .i64 f.slots) := fun z => (hO z).box.k5
    have x6 : ∀ z : InW I, z.w.cell? ⟨w.heap.size, 6, none⟩ = some (.slice a3 f.objs.length c3) := fun z => (hO z).box.k6
    have x7 : ∀ z : InW I, z.w.cell? ⟨w.heap.size, 7, none⟩ = some (.slice a4 f.code.length c4) := fun z => (hO z).box.k7
    have hC : Hid (∀ z : InW I, Calls Try.prog 49 #[.agg #[.slice a0 f.args.length c0, .int .i64 f.res, .int .i64 f.slots, .slice a3 f.objs.length c3, .slice a4 f.code.length c4]] z.w fun e w' => e = .returned (.bool false) ∧ I w') := fun z => (fhasRes_any f a0 a3 a4 c0 c3 c4 hr z.w).mono fun e w' ⟨he, hb⟩ => ⟨he, (hIw w').2 ((hO z).below hb)⟩
    have hLow : Hid (∀ z : InW I, Below w.heap.size w z.w) := fun z => (hO z).low
    clear hIw hIe HB d0 d1 d2 d3 d4 d5 d6 d7 d8 d9 d10 d11 d12 i0 i1 i2 i3 HI hr
    refine wp_region_in (by kernel_rfl) (by kernel_rfl) hI ?_
    repeat (go_big_quiet_step (first | (go_at_call 49; exact callIn (hC.out _))))
    refine wpQuiet_nil ?_
    rintro _ ⟨z, rfl⟩
    have HL : Hid (Below w.heap.size w z.w) := hLow.out z
    clear hC hI hO x3 x4 x5 x6 x7
    go_wp2_with fail
    go_ret
    exact ⟨ret_bool HS.out, HL.out⟩
  · have h1 : inB ia f.slots = true := by
      have h3 := hpl.1
      have h4 : nm0 p f ⟨22, ia, ib, ic⟩ = 1 := by
        unfold nm0
        rw [show resl p f ⟨22, ia, ib, ic⟩ = (f.res == 0) from rfl, if_neg (by simpa using h0)]
        rfl
      rw [h4] at h3
      exact h3
    obtain ⟨m, rfl, hm⟩ := slot_of hK.out.1 h1
    obtain ⟨b, off, rfl, kc⟩ := HB.out.2.kk.kat hm
    have hkb : b < wb.heap.size := (cell_lt kc).1
    have hmI : (m : Int) < (K.length : Int) := by omega
    have hr : Hid ((f.res != 0) = true) := by unfold Hid; simpa using h0
    have HS : Hid ((kat K (m : Int) == f.res) = s) := by
      have : (f.res == 0 || kat K (m : Int) == f.res) = s := hs.out
      rw [show (f.res == 0) = false by simpa using h0] at this
      exact this
    generalize kat K (m : Int) = k at *
    clear hs hpl h0 h1
    go_upto_region 33 with (fail)
    obtain ⟨I, hIe⟩ : ∃ I : World → Prop, I = fun w' => OnT w w' w.heap.size p f 22 (m : Int) ib ic ag az af cg cs cf a0 a3 a4 c0 c3 c4 K (some ⟨b, off, none⟩) ck ∧ w'.cell? ⟨gi, 1, none⟩ = some (.int .i64 (m : Int)) ∧ w'.cell? ⟨b, off + m, none⟩ = some (.int .i64 k) := ⟨_, rfl⟩
    have hIw : ∀ w', I w' ↔ (OnT w w' w.heap.size p f 22 (m : Int) ib ic ag az af cg cs cf a0 a3 a4 c0 c3 c4 K (some ⟨b, off, none⟩) ck ∧ w'.cell? ⟨gi, 1, none⟩ = some (.int .i64 (m : Int)) ∧ w'.cell? ⟨b, off + m, none⟩ = some (.int .i64 k)) := fun w' => by rw [hIe]
    have hI : I wb.drew := (hIw _).2 (⟨HB.out.2.drewN 1, i1, kc⟩)
    haveI : Nonempty (InW I) := ⟨⟨_, hI⟩⟩
    have hO : ∀ z : InW I, OnT w z.w w.heap.size p f 22 (m : Int) ib ic ag az af cg cs cf a0 a3 a4 c0 c3 c4 K (some ⟨b, off, none⟩) ck ∧ z.w.cell? ⟨gi, 1, none⟩ = some (.int .i64 (m : Int)) ∧ z.w.cell? ⟨b, off + m, none⟩ = some (.int .i64 k) := fun z => (hIw z.w).1 z.h
    have x3 : ∀ z : InW I, z.w.cell? ⟨w.heap.size, 3, none⟩ = some (.slice a0 f.args.length c0) := fun z => (hO z).1.box.k3
    have x4 : ∀ z : InW I, z.w.cell? ⟨w.heap.size, 4, none⟩ = some (.int .i64 f.res) := fun z => (hO z).1.box.k4
    have x5 : ∀ z : InW I, z.w.cell? ⟨w.heap.size, 5, none⟩ = some (.int .i64 f.slots) := fun z => (hO z).1.box.k5
    have x6 : ∀ z : InW I, z.w.cell? ⟨w.heap.size, 6, none⟩ = some (.slice a3 f.objs.length c3) := fun z => (hO z).1.box.k6
    have x7 : ∀ z : InW I, z.w.cell? ⟨w.heap.size, 7, none⟩ = some (.slice a4 f.code.length c4) := fun z => (hO z).1.box.k7
    have x12 : ∀ z : InW I, z.w.cell? ⟨w.heap.size, 12, none⟩ = some (.slice (some ⟨b, off, none⟩) K.length ck) := fun z => (hO z).1.k12
    have xj : ∀ z : InW I, z.w.cell? ⟨gi, 1, none⟩ = some (.int .i64 (m : Int)) := fun z => (hO z).2.1
    have xk : ∀ z : InW I, z.w.cell? ⟨b, off + m, none⟩ = some (.int .i64 k) := fun z => (hO z).2.2
    have hC : Hid (∀ z : InW I, Calls Try.prog 49 #[.agg #[.slice a0 f.args.length c0, .int .i64 f.res, .int .i64 f.slots, .slice a3 f.objs.length c3, .slice a4 f.code.length c4]] z.w fun e w' => e = .returned (.bool true) ∧ I w') := fun z => (fhasRes_any f a0 a3 a4 c0 c3 c4 hr z.w).mono fun e w' ⟨he, hb⟩ => ⟨he, (hIw w').2 (⟨(hO z).1.below hb, (hb.cell (p := ⟨gi, 1, none⟩) (cell_lt (hO z).2.1).1).trans (hO z).2.1, (hb.cell (p := ⟨b, off + m, none⟩) (cell_lt (hO z).2.2).1).trans (hO z).2.2⟩)⟩
    have hLow : Hid (∀ z : InW I, Below w.heap.size w z.w) := fun z => (hO z).1.low
    clear hIw hIe HB d0 d1 d2 d3 d4 d5 d6 d7 d8 d9 d10 d11 d12 i0 i1 i2 i3 HI hr kc
    refine wp_region_in (by kernel_rfl) (by kernel_rfl) hI ?_
    repeat (go_big_quiet_step (first | (go_at_call 49; exact callIn (hC.out _))))
    refine wpQuiet_nil ?_
    rintro _ ⟨z, rfl⟩
    have HL : Hid (Below w.heap.size w z.w) := hLow.out z
    clear hC hI hO x3 x4 x5 x6 x7 x12 xj xk
    go_wp2_with fail
    go_ret
    exact ⟨ret_bool HS.out, HL.out⟩

theorem mayRead_any (p : Pg) (f : Fn) (io ia ib ic : Int) (ag az af : Option Addr) (cg cs cf : Nat) (a0 a3 a4 : Option Addr) (c0 c3 c4 : Nat) (K : List Int) (ak : Option Addr) (ck : Nat) {s : Bool} (hs : Hid (rdB p f ⟨io, ia, ib, ic⟩ K = s)) (hi : Hid (OkI p f ⟨io, ia, ib, ic⟩)) (hK : Hid ((K.length : Int) = f.slots ∧ K.length ≤ ck ∧ K.length ≤ 3000)) (w : World) (hp : PgV Any w (.slice ag p.glob.length cg) (.slice az p.shapes.length cs) (.slice af p.funcs.length cf) p) (hf : FnC Any w f (.slice a0 f.args.length c0) (.int .i64 f.res) (.int .i64 f.slots) (.slice a3 f.objs.length c3) (.slice a4 f.code.length c4)) (hk : SrcP Any w (.slice ak K.length ck) K) :
    Calls Try.prog 29 #[.agg #[.slice ag p.glob.length cg, .slice az p.shapes.length cs, .slice af p.funcs.length cf, .slice a0 f.args.length c0, .int .i64 f.res, .int .i64 f.slots, .slice a3 f.objs.length c3, .slice a4 f.code.length c4, .int .i64 io, .int .i64 ia, .int .i64 ib, .int .i64 ic, .slice ak K.length ck]] w fun e w' => e = .returned (.bool s) ∧ Below w.heap.size w w' := by
  have hkn : kn io = true := hi.out.kn
  rcases kn_cases hkn with h | h | h | h | h | h | h | h | h | h | h | h | h | h | h | h | h | h | h | h | h | h | h | h | h | h | h | h | h | h
  · exact rd_0 p f io ia ib ic ag az af cg cs cf a0 a3 a4 c0 c3 c4 K ak ck h hs hi hK w hp hf hk
  · exact rd_1 p f io ia ib ic ag az af cg cs cf a0 a3 a4 c0 c3 c4 K ak ck h hs hi hK w hp hf hk
  · exact rd_2 p f io ia ib ic ag az af cg cs cf a0 a3 a4 c0 c3 c4 K ak ck h hs hi hK w hp hf hk
  · exact rd_3 p f io ia ib ic ag az af cg cs cf a0 a3 a4 c0 c3 c4 K ak ck h hs hi hK w hp hf hk
  · exact rd_4 p f io ia ib ic ag az af cg cs cf a0 a3 a4 c0 c3 c4 K ak ck h hs hi hK w hp hf hk
  · exact rd_5 p f io ia ib ic ag az af cg cs cf a0 a3 a4 c0 c3 c4 K ak ck h hs hi hK w hp hf hk
  · exact rd_6 p f io ia ib ic ag az af cg cs cf a0 a3 a4 c0 c3 c4 K ak ck h hs hi hK w hp hf hk
  · exact rd_7 p f io ia ib ic ag az af cg cs cf a0 a3 a4 c0 c3 c4 K ak ck h hs hi hK w hp hf hk
  · exact rd_8 p f io ia ib ic ag az af cg cs cf a0 a3 a4 c0 c3 c4 K ak ck h hs hi hK w hp hf hk
  · exact rd_9 p f io ia ib ic ag az af cg cs cf a0 a3 a4 c0 c3 c4 K ak ck h hs hi hK w hp hf hk
  · exact rd_10 p f io ia ib ic ag az af cg cs cf a0 a3 a4 c0 c3 c4 K ak ck h hs hi hK w hp hf hk
  · exact rd_11 p f io ia ib ic ag az af cg cs cf a0 a3 a4 c0 c3 c4 K ak ck h hs hi hK w hp hf hk
  · exact rd_12 p f io ia ib ic ag az af cg cs cf a0 a3 a4 c0 c3 c4 K ak ck h hs hi hK w hp hf hk
  · exact rd_13 p f io ia ib ic ag az af cg cs cf a0 a3 a4 c0 c3 c4 K ak ck h hs hi hK w hp hf hk
  · exact rd_14 p f io ia ib ic ag az af cg cs cf a0 a3 a4 c0 c3 c4 K ak ck h hs hi hK w hp hf hk
  · exact rd_15 p f io ia ib ic ag az af cg cs cf a0 a3 a4 c0 c3 c4 K ak ck h hs hi hK w hp hf hk
  · exact rd_16 p f io ia ib ic ag az af cg cs cf a0 a3 a4 c0 c3 c4 K ak ck h hs hi hK w hp hf hk
  · exact rd_17 p f io ia ib ic ag az af cg cs cf a0 a3 a4 c0 c3 c4 K ak ck h hs hi hK w hp hf hk
  · exact rd_18 p f io ia ib ic ag az af cg cs cf a0 a3 a4 c0 c3 c4 K ak ck h hs hi hK w hp hf hk
  · exact rd_19 p f io ia ib ic ag az af cg cs cf a0 a3 a4 c0 c3 c4 K ak ck h hs hi hK w hp hf hk
  · exact rd_20 p f io ia ib ic ag az af cg cs cf a0 a3 a4 c0 c3 c4 K ak ck h hs hi hK w hp hf hk
  · exact rd_21 p f io ia ib ic ag az af cg cs cf a0 a3 a4 c0 c3 c4 K ak ck h hs hi hK w hp hf hk
  · exact rd_22 p f io ia ib ic ag az af cg cs cf a0 a3 a4 c0 c3 c4 K ak ck h hs hi hK w hp hf hk
  · exact rd_23 p f io ia ib ic ag az af cg cs cf a0 a3 a4 c0 c3 c4 K ak ck h hs hi hK w hp hf hk
  · exact rd_24 p f io ia ib ic ag az af cg cs cf a0 a3 a4 c0 c3 c4 K ak ck h hs hi hK w hp hf hk
  · exact rd_25 p f io ia ib ic ag az af cg cs cf a0 a3 a4 c0 c3 c4 K ak ck h hs hi hK w hp hf hk
  · exact rd_26 p f io ia ib ic ag az af cg cs cf a0 a3 a4 c0 c3 c4 K ak ck h hs hi hK w hp hf hk
  · exact rd_27 p f io ia ib ic ag az af cg cs cf a0 a3 a4 c0 c3 c4 K ak ck h hs hi hK w hp hf hk
  · exact rd_28 p f io ia ib ic ag az af cg cs cf a0 a3 a4 c0 c3 c4 K ak ck h hs hi hK w hp hf hk
  · exact rd_29 p f io ia ib ic ag az af cg cs cf a0 a3 a4 c0 c3 c4 K ak ck h hs hi hK w hp hf hk

end Go.Proofs.Ytmjappcjfjajmaa

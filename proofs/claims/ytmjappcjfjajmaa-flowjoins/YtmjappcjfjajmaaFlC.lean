/- The walk of flow's mayRead, op by op. -/
import Derived.Test.YtmjappcjfjajmaaFlB
namespace Go.Proofs.Ytmjappcjfjajmaa
open Go.RowKit

theorem plac_and {p : Pg} {f : Fn} {i : Ins} (h : OkI p f i) : hasB p f (arN p i.b) (nm0 p f i) i.a = true ∧ hasB p f (arN p i.b) (nm i.o).2.1 i.b = true ∧ hasB p f (arN p i.b) (nm i.o).2.2 i.c = true := by
  have := h.plac
  unfold placB at this
  simp only [Bool.and_eq_true] at this
  exact this
theorem slot_of {s : Int} {K : List Int} (hK : (K.length : Int) = s) {v : Int} (h : inB v s = true) : ∃ m : Nat, v = (m : Int) ∧ m < K.length := by
  have := inB_iff.1 h
  exact ⟨v.toNat, by omega, by omega⟩
theorem fld_of {v : Int} (h : inB v 16 = true) : ∃ m : Nat, v = (m : Int) ∧ m < 16 := by
  have := inB_iff.1 h
  exact ⟨v.toNat, by omega, by omega⟩
theorem num_of {v n : Int} (h : inB v n = true) : ∃ m : Nat, v = (m : Int) ∧ (m : Int) < n := by
  have := inB_iff.1 h
  exact ⟨v.toNat, by omega, by omega⟩
theorem kat_nat (K : List Int) (m : Nat) : kat K (m : Int) = K.getD m 0 := by unfold kat; rw [Int.toNat_natCast]
/-- A slot's cell. -/
theorem SrcP.kat {P : Nat → Prop} {w : World} {a : Option Addr} {n c m : Nat} {L : List Int} (h : SrcP P w (.slice a n c) L) (hm : m < L.length) : ∃ b off, a = Option.some ⟨b, off, none⟩ ∧ w.cell? ⟨b, off + m, none⟩ = Option.some (.int .i64 (Go.Proofs.Ytmjappcjfjajmaa.kat L (m : Int))) := by
  obtain ⟨b, off, h1, _, _, h2⟩ := h.some hm
  exact ⟨b, off, h1, by rw [kat_nat]; exact h2⟩

set_option maxRecDepth 100000 in
set_option maxHeartbeats 4000000 in
theorem rd_0 (p : Pg) (f : Fn) (io ia ib ic : Int) (ag az af : Option Addr) (cg cs cf : Nat) (a0 a3 a4 : Option Addr) (c0 c3 c4 : Nat) (K : List Int) (ak : Option Addr) (ck : Nat) {s : Bool} (ho : io = 0) (hs : Hid (rdB p f ⟨io, ia, ib, ic⟩ K = s)) (hi : Hid (OkI p f ⟨io, ia, ib, ic⟩)) (_hK : Hid ((K.length : Int) = f.slots ∧ K.length ≤ ck ∧ K.length ≤ 3000)) (w : World) (hp : PgV Any w (.slice ag p.glob.length cg) (.slice az p.shapes.length cs) (.slice af p.funcs.length cf) p) (hf : FnC Any w f (.slice a0 f.args.length c0) (.int .i64 f.res) (.int .i64 f.slots) (.slice a3 f.objs.length c3) (.slice a4 f.code.length c4)) (hk : SrcP Any w (.slice ak K.length ck) K) :
    Calls Try.prog 29 #[.agg #[.slice ag p.glob.length cg, .slice az p.shapes.length cs, .slice af p.funcs.length cf, .slice a0 f.args.length c0, .int .i64 f.res, .int .i64 f.slots, .slice a3 f.objs.length c3, .slice a4 f.code.length c4, .int .i64 io, .int .i64 ia, .int .i64 ib, .int .i64 ic, .slice ak K.length ck]] w fun e w' => e = .returned (.bool s) ∧ Below w.heap.size w w' := by
  subst ho
  obtain ⟨wa, hwa⟩ : ∃ wa, w.alloc (.cells #[.slice ag p.glob.length cg, .slice az p.shapes.length cs, .slice af p.funcs.length cf, .slice a0 f.args.length c0, .int .i64 f.res, .int .i64 f.slots, .slice a3 f.objs.length c3, .slice a4 f.code.length c4, .int .i64 0, .int .i64 ia, .int .i64 ib, .int .i64 ic, .slice ak K.length ck] 66) = wa := ⟨_, rfl⟩
  have HT : Hid (OnT w wa w.heap.size p f 0 ia ib ic ag az af cg cs cf a0 a3 a4 c0 c3 c4 K ak ck) := onT_start p f 0 ia ib ic ag az af cg cs cf a0 a3 a4 c0 c3 c4 K ak ck hwa hp hf hk
  have HB : Hid (Below w.heap.size w (wa.alloc (.cells #[.int .i64 0, .int .i64 ia, .int .i64 ib, .int .i64 ic] 47)) ∧ OnT w (wa.alloc (.cells #[.int .i64 0, .int .i64 ia, .int .i64 ib, .int .i64 ic] 47)) w.heap.size p f 0 ia ib ic ag az af cg cs cf a0 a3 a4 c0 c3 c4 K ak ck) := ⟨HT.out.low.alloc HT.out.low.size _, HT.out.below ((Below.refl _ _).alloc (Nat.le_refl _) _)⟩
  have HI : Hid ((wa.alloc (.cells #[.int .i64 0, .int .i64 ia, .int .i64 ib, .int .i64 ic] 47)).cell? ⟨wa.heap.size, 0, none⟩ = some (.int .i64 0) ∧ (wa.alloc (.cells #[.int .i64 0, .int .i64 ia, .int .i64 ib, .int .i64 ic] 47)).cell? ⟨wa.heap.size, 1, none⟩ = some (.int .i64 ia) ∧
      (wa.alloc (.cells #[.int .i64 0, .int .i64 ia, .int .i64 ib, .int .i64 ic] 47)).cell? ⟨wa.heap.size, 2, none⟩ = some (.int .i64 ib) ∧ (wa.alloc (.cells #[.int .i64 0, .int .i64 ia, .int .i64 ib, .int .i64 ic] 47)).cell? ⟨wa.heap.size, 3, none⟩ = some (.int .i64 ic)) := ⟨cell_new wa _ _ rfl, cell_new wa _ _ rfl, cell_new wa _ _ rfl, cell_new wa _ _ rfl⟩
  obtain ⟨d0, d1, d2, d3, d4, d5, d6, d7, d8, d9, d10, d11⟩ := HT.out.box.c
  have d12 := HT.out.k12
  have hpl := plac_and hi.out
  clear hp hf hk
  go_enter Try.func29, Try.ntmps29
  go_upto_region 2 with (fail)
  clear d0 d1 d2 d3 d4 d5 d6 d7 d8 d9 d10 d11 d12 HT hwa
  generalize wa.alloc (.cells #[.int .i64 0, .int .i64 ia, .int .i64 ib, .int .i64 ic] 47) = wb at *
  generalize wa.heap.size = gi at *
  clear wa
  obtain ⟨i0, i1, i2, i3⟩ := HI.out
  obtain ⟨d0, d1, d2, d3, d4, d5, d6, d7, d8, d9, d10, d11⟩ := HB.out.2.box.c
  have d12 := HB.out.2.k12
  have HS : Hid (true = s) := hs.out
  clear hs hpl
  go_wp2_with fail
  go_ret
  exact ⟨ret_bool HS.out, HB.out.1⟩

set_option maxRecDepth 100000 in
set_option maxHeartbeats 4000000 in
theorem rd_1 (p : Pg) (f : Fn) (io ia ib ic : Int) (ag az af : Option Addr) (cg cs cf : Nat) (a0 a3 a4 : Option Addr) (c0 c3 c4 : Nat) (K : List Int) (ak : Option Addr) (ck : Nat) {s : Bool} (ho : io = 1) (hs : Hid (rdB p f ⟨io, ia, ib, ic⟩ K = s)) (hi : Hid (OkI p f ⟨io, ia, ib, ic⟩)) (_hK : Hid ((K.length : Int) = f.slots ∧ K.length ≤ ck ∧ K.length ≤ 3000)) (w : World) (hp : PgV Any w (.slice ag p.glob.length cg) (.slice az p.shapes.length cs) (.slice af p.funcs.length cf) p) (hf : FnC Any w f (.slice a0 f.args.length c0) (.int .i64 f.res) (.int .i64 f.slots) (.slice a3 f.objs.length c3) (.slice a4 f.code.length c4)) (hk : SrcP Any w (.slice ak K.length ck) K) :
    Calls Try.prog 29 #[.agg #[.slice ag p.glob.length cg, .slice az p.shapes.length cs, .slice af p.funcs.length cf, .slice a0 f.args.length c0, .int .i64 f.res, .int .i64 f.slots, .slice a3 f.objs.length c3, .slice a4 f.code.length c4, .int .i64 io, .int .i64 ia, .int .i64 ib, .int .i64 ic, .slice ak K.length ck]] w fun e w' => e = .returned (.bool s) ∧ Below w.heap.size w w' := by
  subst ho
  obtain ⟨wa, hwa⟩ : ∃ wa, w.alloc (.cells #[.slice ag p.glob.length cg, .slice az p.shapes.length cs, .slice af p.funcs.length cf, .slice a0 f.args.length c0, .int .i64 f.res, .int .i64 f.slots, .slice a3 f.objs.length c3, .slice a4 f.code.length c4, .int .i64 1, .int .i64 ia, .int .i64 ib, .int .i64 ic, .slice ak K.length ck] 66) = wa := ⟨_, rfl⟩
  have HT : Hid (OnT w wa w.heap.size p f 1 ia ib ic ag az af cg cs cf a0 a3 a4 c0 c3 c4 K ak ck) := onT_start p f 1 ia ib ic ag az af cg cs cf a0 a3 a4 c0 c3 c4 K ak ck hwa hp hf hk
  have HB : Hid (Below w.heap.size w (wa.alloc (.cells #[.int .i64 1, .int .i64 ia, .int .i64 ib, .int .i64 ic] 47)) ∧ OnT w (wa.alloc (.cells #[.int .i64 1, .int .i64 ia, .int .i64 ib, .int .i64 ic] 47)) w.heap.size p f 1 ia ib ic ag az af cg cs cf a0 a3 a4 c0 c3 c4 K ak ck) := ⟨HT.out.low.alloc HT.out.low.size _, HT.out.below ((Below.refl _ _).alloc (Nat.le_refl _) _)⟩
  have HI : Hid ((wa.alloc (.cells #[.int .i64 1, .int .i64 ia, .int .i64 ib, .int .i64 ic] 47)).cell? ⟨wa.heap.size, 0, none⟩ = some (.int .i64 1) ∧ (wa.alloc (.cells #[.int .i64 1, .int .i64 ia, .int .i64 ib, .int .i64 ic] 47)).cell? ⟨wa.heap.size, 1, none⟩ = some (.int .i64 ia) ∧
      (wa.alloc (.cells #[.int .i64 1, .int .i64 ia, .int .i64 ib, .int .i64 ic] 47)).cell? ⟨wa.heap.size, 2, none⟩ = some (.int .i64 ib) ∧ (wa.alloc (.cells #[.int .i64 1, .int .i64 ia, .int .i64 ib, .int .i64 ic] 47)).cell? ⟨wa.heap.size, 3, none⟩ = some (.int .i64 ic)) := ⟨cell_new wa _ _ rfl, cell_new wa _ _ rfl, cell_new wa _ _ rfl, cell_new wa _ _ rfl⟩
  obtain ⟨d0, d1, d2, d3, d4, d5, d6, d7, d8, d9, d10, d11⟩ := HT.out.box.c
  have d12 := HT.out.k12
  have hpl := plac_and hi.out
  clear hp hf hk
  go_enter Try.func29, Try.ntmps29
  go_upto_region 2 with (fail)
  clear d0 d1 d2 d3 d4 d5 d6 d7 d8 d9 d10 d11 d12 HT hwa
  generalize wa.alloc (.cells #[.int .i64 1, .int .i64 ia, .int .i64 ib, .int .i64 ic] 47) = wb at *
  generalize wa.heap.size = gi at *
  clear wa
  obtain ⟨i0, i1, i2, i3⟩ := HI.out
  obtain ⟨d0, d1, d2, d3, d4, d5, d6, d7, d8, d9, d10, d11⟩ := HB.out.2.box.c
  have d12 := HB.out.2.k12
  have HS : Hid (true = s) := hs.out
  clear hs hpl
  go_wp2_with fail
  go_ret
  exact ⟨ret_bool HS.out, HB.out.1⟩

set_option maxRecDepth 100000 in
set_option maxHeartbeats 4000000 in
theorem rd_9 (p : Pg) (f : Fn) (io ia ib ic : Int) (ag az af : Option Addr) (cg cs cf : Nat) (a0 a3 a4 : Option Addr) (c0 c3 c4 : Nat) (K : List Int) (ak : Option Addr) (ck : Nat) {s : Bool} (ho : io = 9) (hs : Hid (rdB p f ⟨io, ia, ib, ic⟩ K = s)) (hi : Hid (OkI p f ⟨io, ia, ib, ic⟩)) (_hK : Hid ((K.length : Int) = f.slots ∧ K.length ≤ ck ∧ K.length ≤ 3000)) (w : World) (hp : PgV Any w (.slice ag p.glob.length cg) (.slice az p.shapes.length cs) (.slice af p.funcs.length cf) p) (hf : FnC Any w f (.slice a0 f.args.length c0) (.int .i64 f.res) (.int .i64 f.slots) (.slice a3 f.objs.length c3) (.slice a4 f.code.length c4)) (hk : SrcP Any w (.slice ak K.length ck) K) :
    Calls Try.prog 29 #[.agg #[.slice ag p.glob.length cg, .slice az p.shapes.length cs, .slice af p.funcs.length cf, .slice a0 f.args.length c0, .int .i64 f.res, .int .i64 f.slots, .slice a3 f.objs.length c3, .slice a4 f.code.length c4, .int .i64 io, .int .i64 ia, .int .i64 ib, .int .i64 ic, .slice ak K.length ck]] w fun e w' => e = .returned (.bool s) ∧ Below w.heap.size w w' := by
  subst ho
  obtain ⟨wa, hwa⟩ : ∃ wa, w.alloc (.cells #[.slice ag p.glob.length cg, .slice az p.shapes.length cs, .slice af p.funcs.length cf, .slice a0 f.args.length c0, .int .i64 f.res, .int .i64 f.slots, .slice a3 f.objs.length c3, .slice a4 f.code.length c4, .int .i64 9, .int .i64 ia, .int .i64 ib, .int .i64 ic, .slice ak K.length ck] 66) = wa := ⟨_, rfl⟩
  have HT : Hid (OnT w wa w.heap.size p f 9 ia ib ic ag az af cg cs cf a0 a3 a4 c0 c3 c4 K ak ck) := onT_start p f 9 ia ib ic ag az af cg cs cf a0 a3 a4 c0 c3 c4 K ak ck hwa hp hf hk
  have HB : Hid (Below w.heap.size w (wa.alloc (.cells #[.int .i64 9, .int .i64 ia, .int .i64 ib, .int .i64 ic] 47)) ∧ OnT w (wa.alloc (.cells #[.int .i64 9, .int .i64 ia, .int .i64 ib, .int .i64 ic] 47)) w.heap.size p f 9 ia ib ic ag az af cg cs cf a0 a3 a4 c0 c3 c4 K ak ck) := ⟨HT.out.low.alloc HT.out.low.size _, HT.out.below ((Below.refl _ _).alloc (Nat.le_refl _) _)⟩
  have HI : Hid ((wa.alloc (.cells #[.int .i64 9, .int .i64 ia, .int .i64 ib, .int .i64 ic] 47)).cell? ⟨wa.heap.size, 0, none⟩ = some (.int .i64 9) ∧ (wa.alloc (.cells #[.int .i64 9, .int .i64 ia, .int .i64 ib, .int .i64 ic] 47)).cell? ⟨wa.heap.size, 1, none⟩ = some (.int .i64 ia) ∧
      (wa.alloc (.cells #[.int .i64 9, .int .i64 ia, .int .i64 ib, .int .i64 ic] 47)).cell? ⟨wa.heap.size, 2, none⟩ = some (.int .i64 ib) ∧ (wa.alloc (.cells #[.int .i64 9, .int .i64 ia, .int .i64 ib, .int .i64 ic] 47)).cell? ⟨wa.heap.size, 3, none⟩ = some (.int .i64 ic)) := ⟨cell_new wa _ _ rfl, cell_new wa _ _ rfl, cell_new wa _ _ rfl, cell_new wa _ _ rfl⟩
  obtain ⟨d0, d1, d2, d3, d4, d5, d6, d7, d8, d9, d10, d11⟩ := HT.out.box.c
  have d12 := HT.out.k12
  have hpl := plac_and hi.out
  clear hp hf hk
  go_enter Try.func29, Try.ntmps29
  go_upto_region 2 with (fail)
  clear d0 d1 d2 d3 d4 d5 d6 d7 d8 d9 d10 d11 d12 HT hwa
  generalize wa.alloc (.cells #[.int .i64 9, .int .i64 ia, .int .i64 ib, .int .i64 ic] 47) = wb at *
  generalize wa.heap.size = gi at *
  clear wa
  obtain ⟨i0, i1, i2, i3⟩ := HI.out
  obtain ⟨d0, d1, d2, d3, d4, d5, d6, d7, d8, d9, d10, d11⟩ := HB.out.2.box.c
  have d12 := HB.out.2.k12
  have HS : Hid (true = s) := hs.out
  clear hs hpl
  go_wp2_with fail
  go_ret
  exact ⟨ret_bool HS.out, HB.out.1⟩

set_option maxRecDepth 100000 in
set_option maxHeartbeats 4000000 in
theorem rd_11 (p : Pg) (f : Fn) (io ia ib ic : Int) (ag az af : Option Addr) (cg cs cf : Nat) (a0 a3 a4 : Option Addr) (c0 c3 c4 : Nat) (K : List Int) (ak : Option Addr) (ck : Nat) {s : Bool} (ho : io = 11) (hs : Hid (rdB p f ⟨io, ia, ib, ic⟩ K = s)) (hi : Hid (OkI p f ⟨io, ia, ib, ic⟩)) (_hK : Hid ((K.length : Int) = f.slots ∧ K.length ≤ ck ∧ K.length ≤ 3000)) (w : World) (hp : PgV Any w (.slice ag p.glob.length cg) (.slice az p.shapes.length cs) (.slice af p.funcs.length cf) p) (hf : FnC Any w f (.slice a0 f.args.length c0) (.int .i64 f.res) (.int .i64 f.slots) (.slice a3 f.objs.length c3) (.slice a4 f.code.length c4)) (hk : SrcP Any w (.slice ak K.length ck) K) :
    Calls Try.prog 29 #[.agg #[.slice ag p.glob.length cg, .slice az p.shapes.length cs, .slice af p.funcs.length cf, .slice a0 f.args.length c0, .int .i64 f.res, .int .i64 f.slots, .slice a3 f.objs.length c3, .slice a4 f.code.length c4, .int .i64 io, .int .i64 ia, .int .i64 ib, .int .i64 ic, .slice ak K.length ck]] w fun e w' => e = .returned (.bool s) ∧ Below w.heap.size w w' := by
  subst ho
  obtain ⟨wa, hwa⟩ : ∃ wa, w.alloc (.cells #[.slice ag p.glob.length cg, .slice az p.shapes.length cs, .slice af p.funcs.length cf, .slice a0 f.args.length c0, .int .i64 f.res, .int .i64 f.slots, .slice a3 f.objs.length c3, .slice a4 f.code.length c4, .int .i64 11, .int .i64 ia, .int .i64 ib, .int .i64 ic, .slice ak K.length ck] 66) = wa := ⟨_, rfl⟩
  have HT : Hid (OnT w wa w.heap.size p f 11 ia ib ic ag az af cg cs cf a0 a3 a4 c0 c3 c4 K ak ck) := onT_start p f 11 ia ib ic ag az af cg cs cf a0 a3 a4 c0 c3 c4 K ak ck hwa hp hf hk
  have HB : Hid (Below w.heap.size w (wa.alloc (.cells #[.int .i64 11, .int .i64 ia, .int .i64 ib, .int .i64 ic] 47)) ∧ OnT w (wa.alloc (.cells #[.int .i64 11, .int .i64 ia, .int .i64 ib, .int .i64 ic] 47)) w.heap.size p f 11 ia ib ic ag az af cg cs cf a0 a3 a4 c0 c3 c4 K ak ck) := ⟨HT.out.low.alloc HT.out.low.size _, HT.out.below ((Below.refl _ _).alloc (Nat.le_refl _) _)⟩
  have HI : Hid ((wa.alloc (.cells #[.int .i64 11, .int .i64 ia, .int .i64 ib, .int .i64 ic] 47)).cell? ⟨wa.heap.size, 0, none⟩ = some (.int .i64 11) ∧ (wa.alloc (.cells #[.int .i64 11, .int .i64 ia, .int .i64 ib, .int .i64 ic] 47)).cell? ⟨wa.heap.size, 1, none⟩ = some (.int .i64 ia) ∧
      (wa.alloc (.cells #[.int .i64 11, .int .i64 ia, .int .i64 ib, .int .i64 ic] 47)).cell? ⟨wa.heap.size, 2, none⟩ = some (.int .i64 ib) ∧ (wa.alloc (.cells #[.int .i64 11, .int .i64 ia, .int .i64 ib, .int .i64 ic] 47)).cell? ⟨wa.heap.size, 3, none⟩ = some (.int .i64 ic)) := ⟨cell_new wa _ _ rfl, cell_new wa _ _ rfl, cell_new wa _ _ rfl, cell_new wa _ _ rfl⟩
  obtain ⟨d0, d1, d2, d3, d4, d5, d6, d7, d8, d9, d10, d11⟩ := HT.out.box.c
  have d12 := HT.out.k12
  have hpl := plac_and hi.out
  clear hp hf hk
  go_enter Try.func29, Try.ntmps29
  go_upto_region 2 with (fail)
  clear d0 d1 d2 d3 d4 d5 d6 d7 d8 d9 d10 d11 d12 HT hwa
  generalize wa.alloc (.cells #[.int .i64 11, .int .i64 ia, .int .i64 ib, .int .i64 ic] 47) = wb at *
  generalize wa.heap.size = gi at *
  clear wa
  obtain ⟨i0, i1, i2, i3⟩ := HI.out
  obtain ⟨d0, d1, d2, d3, d4, d5, d6, d7, d8, d9, d10, d11⟩ := HB.out.2.box.c
  have d12 := HB.out.2.k12
  have HS : Hid (true = s) := hs.out
  clear hs hpl
  go_wp2_with fail
  go_ret
  exact ⟨ret_bool HS.out, HB.out.1⟩

set_option maxRecDepth 100000 in
set_option maxHeartbeats 4000000 in
theorem rd_13 (p : Pg) (f : Fn) (io ia ib ic : Int) (ag az af : Option Addr) (cg cs cf : Nat) (a0 a3 a4 : Option Addr) (c0 c3 c4 : Nat) (K : List Int) (ak : Option Addr) (ck : Nat) {s : Bool} (ho : io = 13) (hs : Hid (rdB p f ⟨io, ia, ib, ic⟩ K = s)) (hi : Hid (OkI p f ⟨io, ia, ib, ic⟩)) (_hK : Hid ((K.length : Int) = f.slots ∧ K.length ≤ ck ∧ K.length ≤ 3000)) (w : World) (hp : PgV Any w (.slice ag p.glob.length cg) (.slice az p.shapes.length cs) (.slice af p.funcs.length cf) p) (hf : FnC Any w f (.slice a0 f.args.length c0) (.int .i64 f.res) (.int .i64 f.slots) (.slice a3 f.objs.length c3) (.slice a4 f.code.length c4)) (hk : SrcP Any w (.slice ak K.length ck) K) :
    Calls Try.prog 29 #[.agg #[.slice ag p.glob.length cg, .slice az p.shapes.length cs, .slice af p.funcs.length cf, .slice a0 f.args.length c0, .int .i64 f.res, .int .i64 f.slots, .slice a3 f.objs.length c3, .slice a4 f.code.length c4, .int .i64 io, .int .i64 ia, .int .i64 ib, .int .i64 ic, .slice ak K.length ck]] w fun e w' => e = .returned (.bool s) ∧ Below w.heap.size w w' := by
  subst ho
  obtain ⟨wa, hwa⟩ : ∃ wa, w.alloc (.cells #[.slice ag p.glob.length cg, .slice az p.shapes.length cs, .slice af p.funcs.length cf, .slice a0 f.args.length c0, .int .i64 f.res, .int .i64 f.slots, .slice a3 f.objs.length c3, .slice a4 f.code.length c4, .int .i64 13, .int .i64 ia, .int .i64 ib, .int .i64 ic, .slice ak K.length ck] 66) = wa := ⟨_, rfl⟩
  have HT : Hid (OnT w wa w.heap.size p f 13 ia ib ic ag az af cg cs cf a0 a3 a4 c0 c3 c4 K ak ck) := onT_start p f 13 ia ib ic ag az af cg cs cf a0 a3 a4 c0 c3 c4 K ak ck hwa hp hf hk
  have HB : Hid (Below w.heap.size w (wa.alloc (.cells #[.int .i64 13, .int .i64 ia, .int .i64 ib, .int .i64 ic] 47)) ∧ OnT w (wa.alloc (.cells #[.int .i64 13, .int .i64 ia, .int .i64 ib, .int .i64 ic] 47)) w.heap.size p f 13 ia ib ic ag az af cg cs cf a0 a3 a4 c0 c3 c4 K ak ck) := ⟨HT.out.low.alloc HT.out.low.size _, HT.out.below ((Below.refl _ _).alloc (Nat.le_refl _) _)⟩
  have HI : Hid ((wa.alloc (.cells #[.int .i64 13, .int .i64 ia, .int .i64 ib, .int .i64 ic] 47)).cell? ⟨wa.heap.size, 0, none⟩ = some (.int .i64 13) ∧ (wa.alloc (.cells #[.int .i64 13, .int .i64 ia, .int .i64 ib, .int .i64 ic] 47)).cell? ⟨wa.heap.size, 1, none⟩ = some (.int .i64 ia) ∧
      (wa.alloc (.cells #[.int .i64 13, .int .i64 ia, .int .i64 ib, .int .i64 ic] 47)).cell? ⟨wa.heap.size, 2, none⟩ = some (.int .i64 ib) ∧ (wa.alloc (.cells #[.int .i64 13, .int .i64 ia, .int .i64 ib, .int .i64 ic] 47)).cell? ⟨wa.heap.size, 3, none⟩ = some (.int .i64 ic)) := ⟨cell_new wa _ _ rfl, cell_new wa _ _ rfl, cell_new wa _ _ rfl, cell_new wa _ _ rfl⟩
  obtain ⟨d0, d1, d2, d3, d4, d5, d6, d7, d8, d9, d10, d11⟩ := HT.out.box.c
  have d12 := HT.out.k12
  have hpl := plac_and hi.out
  clear hp hf hk
  go_enter Try.func29, Try.ntmps29
  go_upto_region 2 with (fail)
  clear d0 d1 d2 d3 d4 d5 d6 d7 d8 d9 d10 d11 d12 HT hwa
  generalize wa.alloc (.cells #[.int .i64 13, .int .i64 ia, .int .i64 ib, .int .i64 ic] 47) = wb at *
  generalize wa.heap.size = gi at *
  clear wa
  obtain ⟨i0, i1, i2, i3⟩ := HI.out
  obtain ⟨d0, d1, d2, d3, d4, d5, d6, d7, d8, d9, d10, d11⟩ := HB.out.2.box.c
  have d12 := HB.out.2.k12
  have HS : Hid (true = s) := hs.out
  clear hs hpl
  go_wp2_with fail
  go_ret
  exact ⟨ret_bool HS.out, HB.out.1⟩

set_option maxRecDepth 100000 in
set_option maxHeartbeats 4000000 in
theorem rd_16 (p : Pg) (f : Fn) (io ia ib ic : Int) (ag az af : Option Addr) (cg cs cf : Nat) (a0 a3 a4 : Option Addr) (c0 c3 c4 : Nat) (K : List Int) (ak : Option Addr) (ck : Nat) {s : Bool} (ho : io = 16) (hs : Hid (rdB p f ⟨io, ia, ib, ic⟩ K = s)) (hi : Hid (OkI p f ⟨io, ia, ib, ic⟩)) (_hK : Hid ((K.length : Int) = f.slots ∧ K.length ≤ ck ∧ K.length ≤ 3000)) (w : World) (hp : PgV Any w (.slice ag p.glob.length cg) (.slice az p.shapes.length cs) (.slice af p.funcs.length cf) p) (hf : FnC Any w f (.slice a0 f.args.length c0) (.int .i64 f.res) (.int .i64 f.slots) (.slice a3 f.objs.length c3) (.slice a4 f.code.length c4)) (hk : SrcP Any w (.slice ak K.length ck) K) :
    Calls Try.prog 29 #[.agg #[.slice ag p.glob.length cg, .slice az p.shapes.length cs, .slice af p.funcs.length cf, .slice a0 f.args.length c0, .int .i64 f.res, .int .i64 f.slots, .slice a3 f.objs.length c3, .slice a4 f.code.length c4, .int .i64 io, .int .i64 ia, .int .i64 ib, .int .i64 ic, .slice ak K.length ck]] w fun e w' => e = .returned (.bool s) ∧ Below w.heap.size w w' := by
  subst ho
  obtain ⟨wa, hwa⟩ : ∃ wa, w.alloc (.cells #[.slice ag p.glob.length cg, .slice az p.shapes.length cs, .slice af p.funcs.length cf, .slice a0 f.args.length c0, .int .i64 f.res, .int .i64 f.slots, .slice a3 f.objs.length c3, .slice a4 f.code.length c4, .int .i64 16, .int .i64 ia, .int .i64 ib, .int .i64 ic, .slice ak K.length ck] 66) = wa := ⟨_, rfl⟩
  have HT : Hid (OnT w wa w.heap.size p f 16 ia ib ic ag az af cg cs cf a0 a3 a4 c0 c3 c4 K ak ck) := onT_start p f 16 ia ib ic ag az af cg cs cf a0 a3 a4 c0 c3 c4 K ak ck hwa hp hf hk
  have HB : Hid (Below w.heap.size w (wa.alloc (.cells #[.int .i64 16, .int .i64 ia, .int .i64 ib, .int .i64 ic] 47)) ∧ OnT w (wa.alloc (.cells #[.int .i64 16, .int .i64 ia, .int .i64 ib, .int .i64 ic] 47)) w.heap.size p f 16 ia ib ic ag az af cg cs cf a0 a3 a4 c0 c3 c4 K ak ck) := ⟨HT.out.low.alloc HT.out.low.size _, HT.out.below ((Below.refl _ _).alloc (Nat.le_refl _) _)⟩
  have HI : Hid ((wa.alloc (.cells #[.int .i64 16, .int .i64 ia, .int .i64 ib, .int .i64 ic] 47)).cell? ⟨wa.heap.size, 0, none⟩ = some (.int .i64 16) ∧ (wa.alloc (.cells #[.int .i64 16, .int .i64 ia, .int .i64 ib, .int .i64 ic] 47)).cell? ⟨wa.heap.size, 1, none⟩ = some (.int .i64 ia) ∧
      (wa.alloc (.cells #[.int .i64 16, .int .i64 ia, .int .i64 ib, .int .i64 ic] 47)).cell? ⟨wa.heap.size, 2, none⟩ = some (.int .i64 ib) ∧ (wa.alloc (.cells #[.int .i64 16, .int .i64 ia, .int .i64 ib, .int .i64 ic] 47)).cell? ⟨wa.heap.size, 3, none⟩ = some (.int .i64 ic)) := ⟨cell_new wa _ _ rfl, cell_new wa _ _ rfl, cell_new wa _ _ rfl, cell_new wa _ _ rfl⟩
  obtain ⟨d0, d1, d2, d3, d4, d5, d6, d7, d8, d9, d10, d11⟩ := HT.out.box.c
  have d12 := HT.out.k12
  have hpl := plac_and hi.out
  clear hp hf hk
  go_enter Try.func29, Try.ntmps29
  go_upto_region 2 with (fail)
  clear d0 d1 d2 d3 d4 d5 d6 d7 d8 d9 d10 d11 d12 HT hwa
  generalize wa.alloc (.cells #[.int .i64 16, .int .i64 ia, .int .i64 ib, .int .i64 ic] 47) = wb at *
  generalize wa.heap.size = gi at *
  clear wa
  obtain ⟨i0, i1, i2, i3⟩ := HI.out
  obtain ⟨d0, d1, d2, d3, d4, d5, d6, d7, d8, d9, d10, d11⟩ := HB.out.2.box.c
  have d12 := HB.out.2.k12
  have HS : Hid (true = s) := hs.out
  clear hs hpl
  go_wp2_with fail
  go_ret
  exact ⟨ret_bool HS.out, HB.out.1⟩

set_option maxRecDepth 100000 in
set_option maxHeartbeats 4000000 in
theorem rd_18 (p : Pg) (f : Fn) (io ia ib ic : Int) (ag az af : Option Addr) (cg cs cf : Nat) (a0 a3 a4 : Option Addr) (c0 c3 c4 : Nat) (K : List Int) (ak : Option Addr) (ck : Nat) {s : Bool} (ho : io = 18) (hs : Hid (rdB p f ⟨io, ia, ib, ic⟩ K = s)) (hi : Hid (OkI p f ⟨io, ia, ib, ic⟩)) (_hK : Hid ((K.length : Int) = f.slots ∧ K.length ≤ ck ∧ K.length ≤ 3000)) (w : World) (hp : PgV Any w (.slice ag p.glob.length cg) (.slice az p.shapes.length cs) (.slice af p.funcs.length cf) p) (hf : FnC Any w f (.slice a0 f.args.length c0) (.int .i64 f.res) (.int .i64 f.slots) (.slice a3 f.objs.length c3) (.slice a4 f.code.length c4)) (hk : SrcP Any w (.slice ak K.length ck) K) :
    Calls Try.prog 29 #[.agg #[.slice ag p.glob.length cg, .slice az p.shapes.length cs, .slice af p.funcs.length cf, .slice a0 f.args.length c0, .int .i64 f.res, .int .i64 f.slots, .slice a3 f.objs.length c3, .slice a4 f.code.length c4, .int .i64 io, .int .i64 ia, .int .i64 ib, .int .i64 ic, .slice ak K.length ck]] w fun e w' => e = .returned (.bool s) ∧ Below w.heap.size w w' := by
  subst ho
  obtain ⟨wa, hwa⟩ : ∃ wa, w.alloc (.cells #[.slice ag p.glob.length cg, .slice az p.shapes.length cs, .slice af p.funcs.length cf, .slice a0 f.args.length c0, .int .i64 f.res, .int .i64 f.slots, .slice a3 f.objs.length c3, .slice a4 f.code.length c4, .int .i64 18, .int .i64 ia, .int .i64 ib, .int .i64 ic, .slice ak K.length ck] 66) = wa := ⟨_, rfl⟩
  have HT : Hid (OnT w wa w.heap.size p f 18 ia ib ic ag az af cg cs cf a0 a3 a4 c0 c3 c4 K ak ck) := onT_start p f 18 ia ib ic ag az af cg cs cf a0 a3 a4 c0 c3 c4 K ak ck hwa hp hf hk
  have HB : Hid (Below w.heap.size w (wa.alloc (.cells #[.int .i64 18, .int .i64 ia, .int .i64 ib, .int .i64 ic] 47)) ∧ OnT w (wa.alloc (.cells #[.int .i64 18, .int .i64 ia, .int .i64 ib, .int .i64 ic] 47)) w.heap.size p f 18 ia ib ic ag az af cg cs cf a0 a3 a4 c0 c3 c4 K ak ck) := ⟨HT.out.low.alloc HT.out.low.size _, HT.out.below ((Below.refl _ _).alloc (Nat.le_refl _) _)⟩
  have HI : Hid ((wa.alloc (.cells #[.int .i64 18, .int .i64 ia, .int .i64 ib, .int .i64 ic] 47)).cell? ⟨wa.heap.size, 0, none⟩ = some (.int .i64 18) ∧ (wa.alloc (.cells #[.int .i64 18, .int .i64 ia, .int .i64 ib, .int .i64 ic] 47)).cell? ⟨wa.heap.size, 1, none⟩ = some (.int .i64 ia) ∧
      (wa.alloc (.cells #[.int .i64 18, .int .i64 ia, .int .i64 ib, .int .i64 ic] 47)).cell? ⟨wa.heap.size, 2, none⟩ = some (.int .i64 ib) ∧ (wa.alloc (.cells #[.int .i64 18, .int .i64 ia, .int .i64 ib, .int .i64 ic] 47)).cell? ⟨wa.heap.size, 3, none⟩ = some (.int .i64 ic)) := ⟨cell_new wa _ _ rfl, cell_new wa _ _ rfl, cell_new wa _ _ rfl, cell_new wa _ _ rfl⟩
  obtain ⟨d0, d1, d2, d3, d4, d5, d6, d7, d8, d9, d10, d11⟩ := HT.out.box.c
  have d12 := HT.out.k12
  have hpl := plac_and hi.out
  clear hp hf hk
  go_enter Try.func29, Try.ntmps29
  go_upto_region 2 with (fail)
  clear d0 d1 d2 d3 d4 d5 d6 d7 d8 d9 d10 d11 d12 HT hwa
  generalize wa.alloc (.cells #[.int .i64 18, .int .i64 ia, .int .i64 ib, .int .i64 ic] 47) = wb at *
  generalize wa.heap.size = gi at *
  clear wa
  obtain ⟨i0, i1, i2, i3⟩ := HI.out
  obtain ⟨d0, d1, d2, d3, d4, d5, d6, d7, d8, d9, d10, d11⟩ := HB.out.2.box.c
  have d12 := HB.out.2.k12
  have HS : Hid (true = s) := hs.out
  clear hs hpl
  go_wp2_with fail
  go_ret
  exact ⟨ret_bool HS.out, HB.out.1⟩

set_option maxRecDepth 100000 in
set_option maxHeartbeats 4000000 in
theorem rd_26 (p : Pg) (f : Fn) (io ia ib ic : Int) (ag az af : Option Addr) (cg cs cf : Nat) (a0 a3 a4 : Option Addr) (c0 c3 c4 : Nat) (K : List Int) (ak : Option Addr) (ck : Nat) {s : Bool} (ho : io = 26) (hs : Hid (rdB p f ⟨io, ia, ib, ic⟩ K = s)) (hi : Hid (OkI p f ⟨io, ia, ib, ic⟩)) (_hK : Hid ((K.length : Int) = f.slots ∧ K.length ≤ ck ∧ K.length ≤ 3000)) (w : World) (hp : PgV Any w (.slice ag p.glob.length cg) (.slice az p.shapes.length cs) (.slice af p.funcs.length cf) p) (hf : FnC Any w f (.slice a0 f.args.length c0) (.int .i64 f.res) (.int .i64 f.slots) (.slice a3 f.objs.length c3) (.slice a4 f.code.length c4)) (hk : SrcP Any w (.slice ak K.length ck) K) :
    Calls Try.prog 29 #[.agg #[.slice ag p.glob.length cg, .slice az p.shapes.length cs, .slice af p.funcs.length cf, .slice a0 f.args.length c0, .int .i64 f.res, .int .i64 f.slots, .slice a3 f.objs.length c3, .slice a4 f.code.length c4, .int .i64 io, .int .i64 ia, .int .i64 ib, .int .i64 ic, .slice ak K.length ck]] w fun e w' => e = .returned (.bool s) ∧ Below w.heap.size w w' := by
  subst ho
  obtain ⟨wa, hwa⟩ : ∃ wa, w.alloc (.cells #[.slice ag p.glob.length cg, .slice az p.shapes.length cs, .slice af p.funcs.length cf, .slice a0 f.args.length c0, .int .i64 f.res, .int .i64 f.slots, .slice a3 f.objs.length c3, .slice a4 f.code.length c4, .int .i64 26, .int .i64 ia, .int .i64 ib, .int .i64 ic, .slice ak K.length ck] 66) = wa := ⟨_, rfl⟩
  have HT : Hid (OnT w wa w.heap.size p f 26 ia ib ic ag az af cg cs cf a0 a3 a4 c0 c3 c4 K ak ck) := onT_start p f 26 ia ib ic ag az af cg cs cf a0 a3 a4 c0 c3 c4 K ak ck hwa hp hf hk
  have HB : Hid (Below w.heap.size w (wa.alloc (.cells #[.int .i64 26, .int .i64 ia, .int .i64 ib, .int .i64 ic] 47)) ∧ OnT w (wa.alloc (.cells #[.int .i64 26, .int .i64 ia, .int .i64 ib, .int .i64 ic] 47)) w.heap.size p f 26 ia ib ic ag az af cg cs cf a0 a3 a4 c0 c3 c4 K ak ck) := ⟨HT.out.low.alloc HT.out.low.size _, HT.out.below ((Below.refl _ _).alloc (Nat.le_refl _) _)⟩
  have HI : Hid ((wa.alloc (.cells #[.int .i64 26, .int .i64 ia, .int .i64 ib, .int .i64 ic] 47)).cell? ⟨wa.heap.size, 0, none⟩ = some (.int .i64 26) ∧ (wa.alloc (.cells #[.int .i64 26, .int .i64 ia, .int .i64 ib, .int .i64 ic] 47)).cell? ⟨wa.heap.size, 1, none⟩ = some (.int .i64 ia) ∧
      (wa.alloc (.cells #[.int .i64 26, .int .i64 ia, .int .i64 ib, .int .i64 ic] 47)).cell? ⟨wa.heap.size, 2, none⟩ = some (.int .i64 ib) ∧ (wa.alloc (.cells #[.int .i64 26, .int .i64 ia, .int .i64 ib, .int .i64 ic] 47)).cell? ⟨wa.heap.size, 3, none⟩ = some (.int .i64 ic)) := ⟨cell_new wa _ _ rfl, cell_new wa _ _ rfl, cell_new wa _ _ rfl, cell_new wa _ _ rfl⟩
  obtain ⟨d0, d1, d2, d3, d4, d5, d6, d7, d8, d9, d10, d11⟩ := HT.out.box.c
  have d12 := HT.out.k12
  have hpl := plac_and hi.out
  clear hp hf hk
  go_enter Try.func29, Try.ntmps29
  go_upto_region 2 with (fail)
  clear d0 d1 d2 d3 d4 d5 d6 d7 d8 d9 d10 d11 d12 HT hwa
  generalize wa.alloc (.cells #[.int .i64 26, .int .i64 ia, .int .i64 ib, .int .i64 ic] 47) = wb at *
  generalize wa.heap.size = gi at *
  clear wa
  obtain ⟨i0, i1, i2, i3⟩ := HI.out
  obtain ⟨d0, d1, d2, d3, d4, d5, d6, d7, d8, d9, d10, d11⟩ := HB.out.2.box.c
  have d12 := HB.out.2.k12
  have HS : Hid (true = s) := hs.out
  clear hs hpl
  go_wp2_with fail
  go_ret
  exact ⟨ret_bool HS.out, HB.out.1⟩

set_option maxRecDepth 100000 in
set_option maxHeartbeats 4000000 in
theorem rd_27 (p : Pg) (f : Fn) (io ia ib ic : Int) (ag az af : Option Addr) (cg cs cf : Nat) (a0 a3 a4 : Option Addr) (c0 c3 c4 : Nat) (K : List Int) (ak : Option Addr) (ck : Nat) {s : Bool} (ho : io = 27) (hs : Hid (rdB p f ⟨io, ia, ib, ic⟩ K = s)) (hi : Hid (OkI p f ⟨io, ia, ib, ic⟩)) (_hK : Hid ((K.length : Int) = f.slots ∧ K.length ≤ ck ∧ K.length ≤ 3000)) (w : World) (hp : PgV Any w (.slice ag p.glob.length cg) (.slice az p.shapes.length cs) (.slice af p.funcs.length cf) p) (hf : FnC Any w f (.slice a0 f.args.length c0) (.int .i64 f.res) (.int .i64 f.slots) (.slice a3 f.objs.length c3) (.slice a4 f.code.length c4)) (hk : SrcP Any w (.slice ak K.length ck) K) :
    Calls Try.prog 29 #[.agg #[.slice ag p.glob.length cg, .slice az p.shapes.length cs, .slice af p.funcs.length cf, .slice a0 f.args.length c0, .int .i64 f.res, .int .i64 f.slots, .slice a3 f.objs.length c3, .slice a4 f.code.length c4, .int .i64 io, .int .i64 ia, .int .i64 ib, .int .i64 ic, .slice ak K.length ck]] w fun e w' => e = .returned (.bool s) ∧ Below w.heap.size w w' := by
  subst ho
  obtain ⟨wa, hwa⟩ : ∃ wa, w.alloc (.cells #[.slice ag p.glob.length cg, .slice az p.shapes.length cs, .slice af p.funcs.length cf, .slice a0 f.args.length c0, .int .i64 f.res, .int .i64 f.slots, .slice a3 f.objs.length c3, .slice a4 f.code.length c4, .int .i64 27, .int .i64 ia, .int .i64 ib, .int .i64 ic, .slice ak K.length ck] 66) = wa := ⟨_, rfl⟩
  have HT : Hid (OnT w wa w.heap.size p f 27 ia ib ic ag az af cg cs cf a0 a3 a4 c0 c3 c4 K ak ck) := onT_start p f 27 ia ib ic ag az af cg cs cf a0 a3 a4 c0 c3 c4 K ak ck hwa hp hf hk
  have HB : Hid (Below w.heap.size w (wa.alloc (.cells #[.int .i64 27, .int .i64 ia, .int .i64 ib, .int .i64 ic] 47)) ∧ OnT w (wa.alloc (.cells #[.int .i64 27, .int .i64 ia, .int .i64 ib, .int .i64 ic] 47)) w.heap.size p f 27 ia ib ic ag az af cg cs cf a0 a3 a4 c0 c3 c4 K ak ck) := ⟨HT.out.low.alloc HT.out.low.size _, HT.out.below ((Below.refl _ _).alloc (Nat.le_refl _) _)⟩
  have HI : Hid ((wa.alloc (.cells #[.int .i64 27, .int .i64 ia, .int .i64 ib, .int .i64 ic] 47)).cell? ⟨wa.heap.size, 0, none⟩ = some (.int .i64 27) ∧ (wa.alloc (.cells #[.int .i64 27, .int .i64 ia, .int .i64 ib, .int .i64 ic] 47)).cell? ⟨wa.heap.size, 1, none⟩ = some (.int .i64 ia) ∧
      (wa.alloc (.cells #[.int .i64 27, .int .i64 ia, .int .i64 ib, .int .i64 ic] 47)).cell? ⟨wa.heap.size, 2, none⟩ = some (.int .i64 ib) ∧ (wa.alloc (.cells #[.int .i64 27, .int .i64 ia, .int .i64 ib, .int .i64 ic] 47)).cell? ⟨wa.heap.size, 3, none⟩ = some (.int .i64 ic)) := ⟨cell_new wa _ _ rfl, cell_new wa _ _ rfl, cell_new wa _ _ rfl, cell_new wa _ _ rfl⟩
  obtain ⟨d0, d1, d2, d3, d4, d5, d6, d7, d8, d9, d10, d11⟩ := HT.out.box.c
  have d12 := HT.out.k12
  have hpl := plac_and hi.out
  clear hp hf hk
  go_enter Try.func29, Try.ntmps29
  go_upto_region 2 with (fail)
  clear d0 d1 d2 d3 d4 d5 d6 d7 d8 d9 d10 d11 d12 HT hwa
  generalize wa.alloc (.cells #[.int .i64 27, .int .i64 ia, .int .i64 ib, .int .i64 ic] 47) = wb at *
  generalize wa.heap.size = gi at *
  clear wa
  obtain ⟨i0, i1, i2, i3⟩ := HI.out
  obtain ⟨d0, d1, d2, d3, d4, d5, d6, d7, d8, d9, d10, d11⟩ := HB.out.2.box.c
  have d12 := HB.out.2.k12
  have HS : Hid (true = s) := hs.out
  clear hs hpl
  go_wp2_with fail
  go_ret
  exact ⟨ret_bool HS.out, HB.out.1⟩

set_option maxRecDepth 100000 in
set_option maxHeartbeats 4000000 in
theorem rd_28 (p : Pg) (f : Fn) (io ia ib ic : Int) (ag az af : Option Addr) (cg cs cf : Nat) (a0 a3 a4 : Option Addr) (c0 c3 c4 : Nat) (K : List Int) (ak : Option Addr) (ck : Nat) {s : Bool} (ho : io = 28) (hs : Hid (rdB p f ⟨io, ia, ib, ic⟩ K = s)) (hi : Hid (OkI p f ⟨io, ia, ib, ic⟩)) (_hK : Hid ((K.length : Int) = f.slots ∧ K.length ≤ ck ∧ K.length ≤ 3000)) (w : World) (hp : PgV Any w (.slice ag p.glob.length cg) (.slice az p.shapes.length cs) (.slice af p.funcs.length cf) p) (hf : FnC Any w f (.slice a0 f.args.length c0) (.int .i64 f.res) (.int .i64 f.slots) (.slice a3 f.objs.length c3) (.slice a4 f.code.length c4)) (hk : SrcP Any w (.slice ak K.length ck) K) :
    Calls Try.prog 29 #[.agg #[.slice ag p.glob.length cg, .slice az p.shapes.length cs, .slice af p.funcs.length cf, .slice a0 f.args.length c0, .int .i64 f.res, .int .i64 f.slots, .slice a3 f.objs.length c3, .slice a4 f.code.length c4, .int .i64 io, .int .i64 ia, .int .i64 ib, .int .i64 ic, .slice ak K.length ck]] w fun e w' => e = .returned (.bool s) ∧ Below w.heap.size w w' := by
  subst ho
  obtain ⟨wa, hwa⟩ : ∃ wa, w.alloc (.cells #[.slice ag p.glob.length cg, .slice az p.shapes.length cs, .slice af p.funcs.length cf, .slice a0 f.args.length c0, .int .i64 f.res, .int .i64 f.slots, .slice a3 f.objs.length c3, .slice a4 f.code.length c4, .int .i64 28, .int .i64 ia, .int .i64 ib, .int .i64 ic, .slice ak K.length ck] 66) = wa := ⟨_, rfl⟩
  have HT : Hid (OnT w wa w.heap.size p f 28 ia ib ic ag az af cg cs cf a0 a3 a4 c0 c3 c4 K ak ck) := onT_start p f 28 ia ib ic ag az af cg cs cf a0 a3 a4 c0 c3 c4 K ak ck hwa hp hf hk
  have HB : Hid (Below w.heap.size w (wa.alloc (.cells #[.int .i64 28, .int .i64 ia, .int .i64 ib, .int .i64 ic] 47)) ∧ OnT w (wa.alloc (.cells #[.int .i64 28, .int .i64 ia, .int .i64 ib, .int .i64 ic] 47)) w.heap.size p f 28 ia ib ic ag az af cg cs cf a0 a3 a4 c0 c3 c4 K ak ck) := ⟨HT.out.low.alloc HT.out.low.size _, HT.out.below ((Below.refl _ _).alloc (Nat.le_refl _) _)⟩
  have HI : Hid ((wa.alloc (.cells #[.int .i64 28, .int .i64 ia, .int .i64 ib, .int .i64 ic] 47)).cell? ⟨wa.heap.size, 0, none⟩ = some (.int .i64 28) ∧ (wa.alloc (.cells #[.int .i64 28, .int .i64 ia, .int .i64 ib, .int .i64 ic] 47)).cell? ⟨wa.heap.size, 1, none⟩ = some (.int .i64 ia) ∧
      (wa.alloc (.cells #[.int .i64 28, .int .i64 ia, .int .i64 ib, .int .i64 ic] 47)).cell? ⟨wa.heap.size, 2, none⟩ = some (.int .i64 ib) ∧ (wa.alloc (.cells #[.int .i64 28, .int .i64 ia, .int .i64 ib, .int .i64 ic] 47)).cell? ⟨wa.heap.size, 3, none⟩ = some (.int .i64 ic)) := ⟨cell_new wa _ _ rfl, cell_new wa _ _ rfl, cell_new wa _ _ rfl, cell_new wa _ _ rfl⟩
  obtain ⟨d0, d1, d2, d3, d4, d5, d6, d7, d8, d9, d10, d11⟩ := HT.out.box.c
  have d12 := HT.out.k12
  have hpl := plac_and hi.out
  clear hp hf hk
  go_enter Try.func29, Try.ntmps29
  go_upto_region 2 with (fail)
  clear d0 d1 d2 d3 d4 d5 d6 d7 d8 d9 d10 d11 d12 HT hwa
  generalize wa.alloc (.cells #[.int .i64 28, .int .i64 ia, .int .i64 ib, .int .i64 ic] 47) = wb at *
  generalize wa.heap.size = gi at *
  clear wa
  obtain ⟨i0, i1, i2, i3⟩ := HI.out
  obtain ⟨d0, d1, d2, d3, d4, d5, d6, d7, d8, d9, d10, d11⟩ := HB.out.2.box.c
  have d12 := HB.out.2.k12
  have HS : Hid (true = s) := hs.out
  clear hs hpl
  go_wp2_with fail
  go_ret
  exact ⟨ret_bool HS.out, HB.out.1⟩

set_option maxRecDepth 100000 in
set_option maxHeartbeats 4000000 in
theorem rd_2 (p : Pg) (f : Fn) (io ia ib ic : Int) (ag az af : Option Addr) (cg cs cf : Nat) (a0 a3 a4 : Option Addr) (c0 c3 c4 : Nat) (K : List Int) (ak : Option Addr) (ck : Nat) {s : Bool} (ho : io = 2) (hs : Hid (rdB p f ⟨io, ia, ib, ic⟩ K = s)) (hi : Hid (OkI p f ⟨io, ia, ib, ic⟩)) (hK : Hid ((K.length : Int) = f.slots ∧ K.length ≤ ck ∧ K.length ≤ 3000)) (w : World) (hp : PgV Any w (.slice ag p.glob.length cg) (.slice az p.shapes.length cs) (.slice af p.funcs.length cf) p) (hf : FnC Any w f (.slice a0 f.args.length c0) (.int .i64 f.res) (.int .i64 f.slots) (.slice a3 f.objs.length c3) (.slice a4 f.code.length c4)) (hk : SrcP Any w (.slice ak K.length ck) K) :
    Calls Try.prog 29 #[.agg #[.slice ag p.glob.length cg, .slice az p.shapes.length cs, .slice af p.funcs.length cf, .slice a0 f.args.length c0, .int .i64 f.res, .int .i64 f.slots, .slice a3 f.objs.length c3, .slice a4 f.code.length c4, .int .i64 io, .int .i64 ia, .int .i64 ib, .int .i64 ic, .slice ak K.length ck]] w fun e w' => e = .returned (.bool s) ∧ Below w.heap.size w w' := by
  subst ho
  obtain ⟨wa, hwa⟩ : ∃ wa, w.alloc (.cells #[.slice ag p.glob.length cg, .slice az p.shapes.length cs, .slice af p.funcs.length cf, .slice a0 f.args.length c0, .int .i64 f.res, .int .i64 f.slots, .slice a3 f.objs.length c3, .slice a4 f.code.length c4, .int .i64 2, .int .i64 ia, .int .i64 ib, .int .i64 ic, .slice ak K.length ck] 66) = wa := ⟨_, rfl⟩
  have HT : Hid (OnT w wa w.heap.size p f 2 ia ib ic ag az af cg cs cf a0 a3 a4 c0 c3 c4 K ak ck) := onT_start p f 2 ia ib ic ag az af cg cs cf a0 a3 a4 c0 c3 c4 K ak ck hwa hp hf hk
  have HB : Hid (Below w.heap.size w (wa.alloc (.cells #[.int .i64 2, .int .i64 ia, .int .i64 ib, .int .i64 ic] 47)) ∧ OnT w (wa.alloc (.cells #[.int .i64 2, .int .i64 ia, .int .i64 ib, .int .i64 ic] 47)) w.heap.size p f 2 ia ib ic ag az af cg cs cf a0 a3 a4 c0 c3 c4 K ak ck) := ⟨HT.out.low.alloc HT.out.low.size _, HT.out.below ((Below.refl _ _).alloc (Nat.le_refl _) _)⟩
  have HI : Hid ((wa.alloc (.cells #[.int .i64 2, .int .i64 ia, .int .i64 ib, .int .i64 ic] 47)).cell? ⟨wa.heap.size, 0, none⟩ = some (.int .i64 2) ∧ (wa.alloc (.cells #[.int .i64 2, .int .i64 ia, .int .i64 ib, .int .i64 ic] 47)).cell? ⟨wa.heap.size, 1, none⟩ = some (.int .i64 ia) ∧
      (wa.alloc (.cells #[.int .i64 2, .int .i64 ia, .int .i64 ib, .int .i64 ic] 47)).cell? ⟨wa.heap.size, 2, none⟩ = some (.int .i64 ib) ∧ (wa.alloc (.cells #[.int .i64 2, .int .i64 ia, .int .i64 ib, .int .i64 ic] 47)).cell? ⟨wa.heap.size, 3, none⟩ = some (.int .i64 ic)) := ⟨cell_new wa _ _ rfl, cell_new wa _ _ rfl, cell_new wa _ _ rfl, cell_new wa _ _ rfl⟩
  obtain ⟨d0, d1, d2, d3, d4, d5, d6, d7, d8, d9, d10, d11⟩ := HT.out.box.c
  have d12 := HT.out.k12
  have hpl := plac_and hi.out
  clear hp hf hk
  go_enter Try.func29, Try.ntmps29
  go_upto_region 2 with (fail)
  clear d0 d1 d2 d3 d4 d5 d6 d7 d8 d9 d10 d11 d12 HT hwa
  generalize wa.alloc (.cells #[.int .i64 2, .int .i64 ia, .int .i64 ib, .int .i64 ic] 47) = wb at *
  generalize wa.heap.size = gi at *
  clear wa
  obtain ⟨i0, i1, i2, i3⟩ := HI.out
  obtain ⟨d0, d1, d2, d3, d4, d5, d6, d7, d8, d9, d10, d11⟩ := HB.out.2.box.c
  have d12 := HB.out.2.k12
  have h1 : inB ib f.slots = true := hpl.2.1
  obtain ⟨m, rfl, hm⟩ := slot_of hK.out.1 h1
  obtain ⟨b, off, rfl, kc⟩ := HB.out.2.kk.kat hm
  have hmI : (m : Int) < (K.length : Int) := by omega
  have HS : Hid ((kat K (m : Int) != 0) = s) := hs.out
  generalize kat K (m : Int) = k at *
  clear hs hpl h1
  go_wp2_with fail
  go_ret
  exact ⟨ret_bool HS.out, HB.out.1⟩

set_option maxRecDepth 100000 in
set_option maxHeartbeats 4000000 in
theorem rd_3 (p : Pg) (f : Fn) (io ia ib ic : Int) (ag az af : Option Addr) (cg cs cf : Nat) (a0 a3 a4 : Option Addr) (c0 c3 c4 : Nat) (K : List Int) (ak : Option Addr) (ck : Nat) {s : Bool} (ho : io = 3) (hs : Hid (rdB p f ⟨io, ia, ib, ic⟩ K = s)) (hi : Hid (OkI p f ⟨io, ia, ib, ic⟩)) (hK : Hid ((K.length : Int) = f.slots ∧ K.length ≤ ck ∧ K.length ≤ 3000)) (w : World) (hp : PgV Any w (.slice ag p.glob.length cg) (.slice az p.shapes.length cs) (.slice af p.funcs.length cf) p) (hf : FnC Any w f (.slice a0 f.args.length c0) (.int .i64 f.res) (.int .i64 f.slots) (.slice a3 f.objs.length c3) (.slice a4 f.code.length c4)) (hk : SrcP Any w (.slice ak K.length ck) K) :
    Calls Try.prog 29 #[.agg #[.slice ag p.glob.length cg, .slice az p.shapes.length cs, .slice af p.funcs.length cf, .slice a0 f.args.length c0, .int .i64 f.res, .int .i64 f.slots, .slice a3 f.objs.length c3, .slice a4 f.code.length c4, .int .i64 io, .int .i64 ia, .int .i64 ib, .int .i64 ic, .slice ak K.length ck]] w fun e w' => e = .returned (.bool s) ∧ Below w.heap.size w w' := by
  subst ho
  obtain ⟨wa, hwa⟩ : ∃ wa, w.alloc (.cells #[.slice ag p.glob.length cg, .slice az p.shapes.length cs, .slice af p.funcs.length cf, .slice a0 f.args.length c0, .int .i64 f.res, .int .i64 f.slots, .slice a3 f.objs.length c3, .slice a4 f.code.length c4, .int .i64 3, .int .i64 ia, .int .i64 ib, .int .i64 ic, .slice ak K.length ck] 66) = wa := ⟨_, rfl⟩
  have HT : Hid (OnT w wa w.heap.size p f 3 ia ib ic ag az af cg cs cf a0 a3 a4 c0 c3 c4 K ak ck) := onT_start p f 3 ia ib ic ag az af cg cs cf a0 a3 a4 c0 c3 c4 K ak ck hwa hp hf hk
  have HB : Hid (Below w.heap.size w (wa.alloc (.cells #[.int .i64 3, .int .i64 ia, .int .i64 ib, .int .i64 ic] 47)) ∧ OnT w (wa.alloc (.cells #[.int .i64 3, .int .i64 ia, .int .i64 ib, .int .i64 ic] 47)) w.heap.size p f 3 ia ib ic ag az af cg cs cf a0 a3 a4 c0 c3 c4 K ak ck) := ⟨HT.out.low.alloc HT.out.low.size _, HT.out.below ((Below.refl _ _).alloc (Nat.le_refl _) _)⟩
  have HI : Hid ((wa.alloc (.cells #[.int .i64 3, .int .i64 ia, .int .i64 ib, .int .i64 ic] 47)).cell? ⟨wa.heap.size, 0, none⟩ = some (.int .i64 3) ∧ (wa.alloc (.cells #[.int .i64 3, .int .i64 ia, .int .i64 ib, .int .i64 ic] 47)).cell? ⟨wa.heap.size, 1, none⟩ = some (.int .i64 ia) ∧
      (wa.alloc (.cells #[.int .i64 3, .int .i64 ia, .int .i64 ib, .int .i64 ic] 47)).cell? ⟨wa.heap.size, 2, none⟩ = some (.int .i64 ib) ∧ (wa.alloc (.cells #[.int .i64 3, .int .i64 ia, .int .i64 ib, .int .i64 ic] 47)).cell? ⟨wa.heap.size, 3, none⟩ = some (.int .i64 ic)) := ⟨cell_new wa _ _ rfl, cell_new wa _ _ rfl, cell_new wa _ _ rfl, cell_new wa _ _ rfl⟩
  obtain ⟨d0, d1, d2, d3, d4, d5, d6, d7, d8, d9, d10, d11⟩ := HT.out.box.c
  have d12 := HT.out.k12
  have hpl := plac_and hi.out
  clear hp hf hk
  go_enter Try.func29, Try.ntmps29
  go_upto_region 2 with (fail)
  clear d0 d1 d2 d3 d4 d5 d6 d7 d8 d9 d10 d11 d12 HT hwa
  generalize wa.alloc (.cells #[.int .i64 3, .int .i64 ia, .int .i64 ib, .int .i64 ic] 47) = wb at *
  generalize wa.heap.size = gi at *
  clear wa
  obtain ⟨i0, i1, i2, i3⟩ := HI.out
  obtain ⟨d0, d1, d2, d3, d4, d5, d6, d7, d8, d9, d10, d11⟩ := HB.out.2.box.c
  have d12 := HB.out.2.k12
  have h1 : inB ib f.slots = true := hpl.2.1
  have h2 : inB ic f.slots = true := hpl.2.2
  obtain ⟨m, rfl, hm⟩ := slot_of hK.out.1 h1
  obtain ⟨m', rfl, hm'⟩ := slot_of hK.out.1 h2
  obtain ⟨b, off, rfl, kc⟩ := HB.out.2.kk.kat hm
  obtain ⟨_, _, hbb, kc'⟩ := HB.out.2.kk.kat hm'
  cases hbb
  have hmI : (m : Int) < (K.length : Int) := by omega
  have hmI' : (m' : Int) < (K.length : Int) := by omega
  have HS : Hid ((kat K (m : Int) == 1 && kat K (m' : Int) == 1) = s) := hs.out
  generalize kat K (m : Int) = k at *
  generalize kat K (m' : Int) = k' at *
  clear hs hpl h1 h2
  by_cases hk1 : k = 1
  · have hd : (k == 1) = true := by simpa using hk1
    have HS2 : Hid ((k' == 1) = s) := by
      have := HS.out
      rw [hd] at this
      exact this
    clear hk1
    go_wp2_with fail
    go_ret
    exact ⟨ret_bool HS2.out, HB.out.1⟩
  · have hd : (k == 1) = false := by simpa using hk1
    have HS2 : Hid (false = s) := by
      have := HS.out
      rw [hd] at this
      exact this
    clear hk1
    go_wp2_with fail
    go_ret
    exact ⟨ret_bool HS2.out, HB.out.1⟩

set_option maxRecDepth 100000 in
set_option maxHeartbeats 4000000 in
theorem rd_4 (p : Pg) (f : Fn) (io ia ib ic : Int) (ag az af : Option Addr) (cg cs cf : Nat) (a0 a3 a4 : Option Addr) (c0 c3 c4 : Nat) (K : List Int) (ak : Option Addr) (ck : Nat) {s : Bool} (ho : io = 4) (hs : Hid (rdB p f ⟨io, ia, ib, ic⟩ K = s)) (hi : Hid (OkI p f ⟨io, ia, ib, ic⟩)) (hK : Hid ((K.length : Int) = f.slots ∧ K.length ≤ ck ∧ K.length ≤ 3000)) (w : World) (hp : PgV Any w (.slice ag p.glob.length cg) (.slice az p.shapes.length cs) (.slice af p.funcs.length cf) p) (hf : FnC Any w f (.slice a0 f.args.length c0) (.int .i64 f.res) (.int .i64 f.slots) (.slice a3 f.objs.length c3) (.slice a4 f.code.length c4)) (hk : SrcP Any w (.slice ak K.length ck) K) :
    Calls Try.prog 29 #[.agg #[.slice ag p.glob.length cg, .slice az p.shapes.length cs, .slice af p.funcs.length cf, .slice a0 f.args.length c0, .int .i64 f.res, .int .i64 f.slots, .slice a3 f.objs.length c3, .slice a4 f.code.length c4, .int .i64 io, .int .i64 ia, .int .i64 ib, .int .i64 ic, .slice ak K.length ck]] w fun e w' => e = .returned (.bool s) ∧ Below w.heap.size w w' := by
  subst ho
  obtain ⟨wa, hwa⟩ : ∃ wa, w.alloc (.cells #[.slice ag p.glob.length cg, .slice az p.shapes.length cs, .slice af p.funcs.length cf, .slice a0 f.args.length c0, .int .i64 f.res, .int .i64 f.slots, .slice a3 f.objs.length c3, .slice a4 f.code.length c4, .int .i64 4, .int .i64 ia, .int .i64 ib, .int .i64 ic, .slice ak K.length ck] 66) = wa := ⟨_, rfl⟩
  have HT : Hid (OnT w wa w.heap.size p f 4 ia ib ic ag az af cg cs cf a0 a3 a4 c0 c3 c4 K ak ck) := onT_start p f 4 ia ib ic ag az af cg cs cf a0 a3 a4 c0 c3 c4 K ak ck hwa hp hf hk
  have HB : Hid (Below w.heap.size w (wa.alloc (.cells #[.int .i64 4, .int .i64 ia, .int .i64 ib, .int .i64 ic] 47)) ∧ OnT w (wa.alloc (.cells #[.int .i64 4, .int .i64 ia, .int .i64 ib, .int .i64 ic] 47)) w.heap.size p f 4 ia ib ic ag az af cg cs cf a0 a3 a4 c0 c3 c4 K ak ck) := ⟨HT.out.low.alloc HT.out.low.size _, HT.out.below ((Below.refl _ _).alloc (Nat.le_refl _) _)⟩
  have HI : Hid ((wa.alloc (.cells #[.int .i64 4, .int .i64 ia, .int .i64 ib, .int .i64 ic] 47)).cell? ⟨wa.heap.size, 0, none⟩ = some (.int .i64 4) ∧ (wa.alloc (.cells #[.int .i64 4, .int .i64 ia, .int .i64 ib, .int .i64 ic] 47)).cell? ⟨wa.heap.size, 1, none⟩ = some (.int .i64 ia) ∧
      (wa.alloc (.cells #[.int .i64 4, .int .i64 ia, .int .i64 ib, .int .i64 ic] 47)).cell? ⟨wa.heap.size, 2, none⟩ = some (.int .i64 ib) ∧ (wa.alloc (.cells #[.int .i64 4, .int .i64 ia, .int .i64 ib, .int .i64 ic] 47)).cell? ⟨wa.heap.size, 3, none⟩ = some (.int .i64 ic)) := ⟨cell_new wa _ _ rfl, cell_new wa _ _ rfl, cell_new wa _ _ rfl, cell_new wa _ _ rfl⟩
  obtain ⟨d0, d1, d2, d3, d4, d5, d6, d7, d8, d9, d10, d11⟩ := HT.out.box.c
  have d12 := HT.out.k12
  have hpl := plac_and hi.out
  clear hp hf hk
  go_enter Try.func29, Try.ntmps29
  go_upto_region 2 with (fail)
  clear d0 d1 d2 d3 d4 d5 d6 d7 d8 d9 d10 d11 d12 HT hwa
  generalize wa.alloc (.cells #[.int .i64 4, .int .i64 ia, .int .i64 ib, .int .i64 ic] 47) = wb at *
  generalize wa.heap.size = gi at *
  clear wa
  obtain ⟨i0, i1, i2, i3⟩ := HI.out
  obtain ⟨d0, d1, d2, d3, d4, d5, d6, d7, d8, d9, d10, d11⟩ := HB.out.2.box.c
  have d12 := HB.out.2.k12
  have h1 : inB ib f.slots = true := hpl.2.1
  have h2 : inB ic f.slots = true := hpl.2.2
  obtain ⟨m, rfl, hm⟩ := slot_of hK.out.1 h1
  obtain ⟨m', rfl, hm'⟩ := slot_of hK.out.1 h2
  obtain ⟨b, off, rfl, kc⟩ := HB.out.2.kk.kat hm
  obtain ⟨_, _, hbb, kc'⟩ := HB.out.2.kk.kat hm'
  cases hbb
  have hmI : (m : Int) < (K.length : Int) := by omega
  have hmI' : (m' : Int) < (K.length : Int) := by omega
  have HS : Hid ((kat K (m : Int) == 1 && kat K (m' : Int) == 1) = s) := hs.out
  generalize kat K (m : Int) = k at *
  generalize kat K (m' : Int) = k' at *
  clear hs hpl h1 h2
  by_cases hk1 : k = 1
  · have hd : (k == 1) = true := by simpa using hk1
    have HS2 : Hid ((k' == 1) = s) := by
      have := HS.out
      rw [hd] at this
      exact this
    clear hk1
    go_wp2_with fail
    go_ret
    exact ⟨ret_bool HS2.out, HB.out.1⟩
  · have hd : (k == 1) = false := by simpa using hk1
    have HS2 : Hid (false = s) := by
      have := HS.out
      rw [hd] at this
      exact this
    clear hk1
    go_wp2_with fail
    go_ret
    exact ⟨ret_bool HS2.out, HB.out.1⟩

set_option maxRecDepth 100000 in
set_option maxHeartbeats 4000000 in
theorem rd_5 (p : Pg) (f : Fn) (io ia ib ic : Int) (ag az af : Option Addr) (cg cs cf : Nat) (a0 a3 a4 : Option Addr) (c0 c3 c4 : Nat) (K : List Int) (ak : Option Addr) (ck : Nat) {s : Bool} (ho : io = 5) (hs : Hid (rdB p f ⟨io, ia, ib, ic⟩ K = s)) (hi : Hid (OkI p f ⟨io, ia, ib, ic⟩)) (hK : Hid ((K.length : Int) = f.slots ∧ K.length ≤ ck ∧ K.length ≤ 3000)) (w : World) (hp : PgV Any w (.slice ag p.glob.length cg) (.slice az p.shapes.length cs) (.slice af p.funcs.length cf) p) (hf : FnC Any w f (.slice a0 f.args.length c0) (.int .i64 f.res) (.int .i64 f.slots) (.slice a3 f.objs.length c3) (.slice a4 f.code.length c4)) (hk : SrcP Any w (.slice ak K.length ck) K) :
    Calls Try.prog 29 #[.agg #[.slice ag p.glob.length cg, .slice az p.shapes.length cs, .slice af p.funcs.length cf, .slice a0 f.args.length c0, .int .i64 f.res, .int .i64 f.slots, .slice a3 f.objs.length c3, .slice a4 f.code.length c4, .int .i64 io, .int .i64 ia, .int .i64 ib, .int .i64 ic, .slice ak K.length ck]] w fun e w' => e = .returned (.bool s) ∧ Below w.heap.size w w' := by
  subst ho
  obtain ⟨wa, hwa⟩ : ∃ wa, w.alloc (.cells #[.slice ag p.glob.length cg, .slice az p.shapes.length cs, .slice af p.funcs.length cf, .slice a0 f.args.length c0, .int .i64 f.res, .int .i64 f.slots, .slice a3 f.objs.length c3, .slice a4 f.code.length c4, .int .i64 5, .int .i64 ia, .int .i64 ib, .int .i64 ic, .slice ak K.length ck] 66) = wa := ⟨_, rfl⟩
  have HT : Hid (OnT w wa w.heap.size p f 5 ia ib ic ag az af cg cs cf a0 a3 a4 c0 c3 c4 K ak ck) := onT_start p f 5 ia ib ic ag az af cg cs cf a0 a3 a4 c0 c3 c4 K ak ck hwa hp hf hk
  have HB : Hid (Below w.heap.size w (wa.alloc (.cells #[.int .i64 5, .int .i64 ia, .int .i64 ib, .int .i64 ic] 47)) ∧ OnT w (wa.alloc (.cells #[.int .i64 5, .int .i64 ia, .int .i64 ib, .int .i64 ic] 47)) w.heap.size p f 5 ia ib ic ag az af cg cs cf a0 a3 a4 c0 c3 c4 K ak ck) := ⟨HT.out.low.alloc HT.out.low.size _, HT.out.below ((Below.refl _ _).alloc (Nat.le_refl _) _)⟩
  have HI : Hid ((wa.alloc (.cells #[.int .i64 5, .int .i64 ia, .int .i64 ib, .int .i64 ic] 47)).cell? ⟨wa.heap.size, 0, none⟩ = some (.int .i64 5) ∧ (wa.alloc (.cells #[.int .i64 5, .int .i64 ia, .int .i64 ib, .int .i64 ic] 47)).cell? ⟨wa.heap.size, 1, none⟩ = some (.int .i64 ia) ∧
      (wa.alloc (.cells #[.int .i64 5, .int .i64 ia, .int .i64 ib, .int .i64 ic] 47)).cell? ⟨wa.heap.size, 2, none⟩ = some (.int .i64 ib) ∧ (wa.alloc (.cells #[.int .i64 5, .int .i64 ia, .int .i64 ib, .int .i64 ic] 47)).cell? ⟨wa.heap.size, 3, none⟩ = some (.int .i64 ic)) := ⟨cell_new wa _ _ rfl, cell_new wa _ _ rfl, cell_new wa _ _ rfl, cell_new wa _ _ rfl⟩
  obtain ⟨d0, d1, d2, d3, d4, d5, d6, d7, d8, d9, d10, d11⟩ := HT.out.box.c
  have d12 := HT.out.k12
  have hpl := plac_and hi.out
  clear hp hf hk
  go_enter Try.func29, Try.ntmps29
  go_upto_region 2 with (fail)
  clear d0 d1 d2 d3 d4 d5 d6 d7 d8 d9 d10 d11 d12 HT hwa
  generalize wa.alloc (.cells #[.int .i64 5, .int .i64 ia, .int .i64 ib, .int .i64 ic] 47) = wb at *
  generalize wa.heap.size = gi at *
  clear wa
  obtain ⟨i0, i1, i2, i3⟩ := HI.out
  obtain ⟨d0, d1, d2, d3, d4, d5, d6, d7, d8, d9, d10, d11⟩ := HB.out.2.box.c
  have d12 := HB.out.2.k12
  have h1 : inB ib f.slots = true := hpl.2.1
  have h2 : inB ic f.slots = true := hpl.2.2
  obtain ⟨m, rfl, hm⟩ := slot_of hK.out.1 h1
  obtain ⟨m', rfl, hm'⟩ := slot_of hK.out.1 h2
  obtain ⟨b, off, rfl, kc⟩ := HB.out.2.kk.kat hm
  obtain ⟨_, _, hbb, kc'⟩ := HB.out.2.kk.kat hm'
  cases hbb
  have hmI : (m : Int) < (K.length : Int) := by omega
  have hmI' : (m' : Int) < (K.length : Int) := by omega
  have HS : Hid ((kat K (m : Int) == 1 && kat K (m' : Int) == 1) = s) := hs.out
  generalize kat K (m : Int) = k at *
  generalize kat K (m' : Int) = k' at *
  clear hs hpl h1 h2
  by_cases hk1 : k = 1
  · have hd : (k == 1) = true := by simpa using hk1
    have HS2 : Hid ((k' == 1) = s) := by
      have := HS.out
      rw [hd] at this
      exact this
    clear hk1
    go_wp2_with fail
    go_ret
    exact ⟨ret_bool HS2.out, HB.out.1⟩
  · have hd : (k == 1) = false := by simpa using hk1
    have HS2 : Hid (false = s) := by
      have := HS.out
      rw [hd] at this
      exact this
    clear hk1
    go_wp2_with fail
    go_ret
    exact ⟨ret_bool HS2.out, HB.out.1⟩

set_option maxRecDepth 100000 in
set_option maxHeartbeats 4000000 in
theorem rd_6 (p : Pg) (f : Fn) (io ia ib ic : Int) (ag az af : Option Addr) (cg cs cf : Nat) (a0 a3 a4 : Option Addr) (c0 c3 c4 : Nat) (K : List Int) (ak : Option Addr) (ck : Nat) {s : Bool} (ho : io = 6) (hs : Hid (rdB p f ⟨io, ia, ib, ic⟩ K = s)) (hi : Hid (OkI p f ⟨io, ia, ib, ic⟩)) (hK : Hid ((K.length : Int) = f.slots ∧ K.length ≤ ck ∧ K.length ≤ 3000)) (w : World) (hp : PgV Any w (.slice ag p.glob.length cg) (.slice az p.shapes.length cs) (.slice af p.funcs.length cf) p) (hf : FnC Any w f (.slice a0 f.args.length c0) (.int .i64 f.res) (.int .i64 f.slots) (.slice a3 f.objs.length c3) (.slice a4 f.code.length c4)) (hk : SrcP Any w (.slice ak K.length ck) K) :
    Calls Try.prog 29 #[.agg #[.slice ag p.glob.length cg, .slice az p.shapes.length cs, .slice af p.funcs.length cf, .slice a0 f.args.length c0, .int .i64 f.res, .int .i64 f.slots, .slice a3 f.objs.length c3, .slice a4 f.code.length c4, .int .i64 io, .int .i64 ia, .int .i64 ib, .int .i64 ic, .slice ak K.length ck]] w fun e w' => e = .returned (.bool s) ∧ Below w.heap.size w w' := by
  subst ho
  obtain ⟨wa, hwa⟩ : ∃ wa, w.alloc (.cells #[.slice ag p.glob.length cg, .slice az p.shapes.length cs, .slice af p.funcs.length cf, .slice a0 f.args.length c0, .int .i64 f.res, .int .i64 f.slots, .slice a3 f.objs.length c3, .slice a4 f.code.length c4, .int .i64 6, .int .i64 ia, .int .i64 ib, .int .i64 ic, .slice ak K.length ck] 66) = wa := ⟨_, rfl⟩
  have HT : Hid (OnT w wa w.heap.size p f 6 ia ib ic ag az af cg cs cf a0 a3 a4 c0 c3 c4 K ak ck) := onT_start p f 6 ia ib ic ag az af cg cs cf a0 a3 a4 c0 c3 c4 K ak ck hwa hp hf hk
  have HB : Hid (Below w.heap.size w (wa.alloc (.cells #[.int .i64 6, .int .i64 ia, .int .i64 ib, .int .i64 ic] 47)) ∧ OnT w (wa.alloc (.cells #[.int .i64 6, .int .i64 ia, .int .i64 ib, .int .i64 ic] 47)) w.heap.size p f 6 ia ib ic ag az af cg cs cf a0 a3 a4 c0 c3 c4 K ak ck) := ⟨HT.out.low.alloc HT.out.low.size _, HT.out.below ((Below.refl _ _).alloc (Nat.le_refl _) _)⟩
  have HI : Hid ((wa.alloc (.cells #[.int .i64 6, .int .i64 ia, .int .i64 ib, .int .i64 ic] 47)).cell? ⟨wa.heap.size, 0, none⟩ = some (.int .i64 6) ∧ (wa.alloc (.cells #[.int .i64 6, .int .i64 ia, .int .i64 ib, .int .i64 ic] 47)).cell? ⟨wa.heap.size, 1, none⟩ = some (.int .i64 ia) ∧
      (wa.alloc (.cells #[.int .i64 6, .int .i64 ia, .int .i64 ib, .int .i64 ic] 47)).cell? ⟨wa.heap.size, 2, none⟩ = some (.int .i64 ib) ∧ (wa.alloc (.cells #[.int .i64 6, .int .i64 ia, .int .i64 ib, .int .i64 ic] 47)).cell? ⟨wa.heap.size, 3, none⟩ = some (.int .i64 ic)) := ⟨cell_new wa _ _ rfl, cell_new wa _ _ rfl, cell_new wa _ _ rfl, cell_new wa _ _ rfl⟩
  obtain ⟨d0, d1, d2, d3, d4, d5, d6, d7, d8, d9, d10, d11⟩ := HT.out.box.c
  have d12 := HT.out.k12
  have hpl := plac_and hi.out
  clear hp hf hk
  go_enter Try.func29, Try.ntmps29
  go_upto_region 2 with (fail)
  clear d0 d1 d2 d3 d4 d5 d6 d7 d8 d9 d10 d11 d12 HT hwa
  generalize wa.alloc (.cells #[.int .i64 6, .int .i64 ia, .int .i64 ib, .int .i64 ic] 47) = wb at *
  generalize wa.heap.size = gi at *
  clear wa
  obtain ⟨i0, i1, i2, i3⟩ := HI.out
  obtain ⟨d0, d1, d2, d3, d4, d5, d6, d7, d8, d9, d10, d11⟩ := HB.out.2.box.c
  have d12 := HB.out.2.k12
  have h1 : inB ib f.slots = true := hpl.2.1
  have h2 : inB ic f.slots = true := hpl.2.2
  obtain ⟨m, rfl, hm⟩ := slot_of hK.out.1 h1
  obtain ⟨m', rfl, hm'⟩ := slot_of hK.out.1 h2
  obtain ⟨b, off, rfl, kc⟩ := HB.out.2.kk.kat hm
  obtain ⟨_, _, hbb, kc'⟩ := HB.out.2.kk.kat hm'
  cases hbb
  have hmI : (m : Int) < (K.length : Int) := by omega
  have hmI' : (m' : Int) < (K.length : Int) := by omega
  have HS : Hid ((kat K (m : Int) == 1 && kat K (m' : Int) == 1) = s) := hs.out
  generalize kat K (m : Int) = k at *
  generalize kat K (m' : Int) = k' at *
  clear hs hpl h1 h2
  by_cases hk1 : k = 1
  · have hd : (k == 1) = true := by simpa using hk1
    have HS2 : Hid ((k' == 1) = s) := by
      have := HS.out
      rw [hd] at this
      exact this
    clear hk1
    go_wp2_with fail
    go_ret
    exact ⟨ret_bool HS2.out, HB.out.1⟩
  · have hd : (k == 1) = false := by simpa using hk1
    have HS2 : Hid (false = s) := by
      have := HS.out
      rw [hd] at this
      exact this
    clear hk1
    go_wp2_with fail
    go_ret
    exact ⟨ret_bool HS2.out, HB.out.1⟩

set_option maxRecDepth 100000 in
set_option maxHeartbeats 4000000 in
theorem rd_7 (p : Pg) (f : Fn) (io ia ib ic : Int) (ag az af : Option Addr) (cg cs cf : Nat) (a0 a3 a4 : Option Addr) (c0 c3 c4 : Nat) (K : List Int) (ak : Option Addr) (ck : Nat) {s : Bool} (ho : io = 7) (hs : Hid (rdB p f ⟨io, ia, ib, ic⟩ K = s)) (hi : Hid (OkI p f ⟨io, ia, ib, ic⟩)) (hK : Hid ((K.length : Int) = f.slots ∧ K.length ≤ ck ∧ K.length ≤ 3000)) (w : World) (hp : PgV Any w (.slice ag p.glob.length cg) (.slice az p.shapes.length cs) (.slice af p.funcs.length cf) p) (hf : FnC Any w f (.slice a0 f.args.length c0) (.int .i64 f.res) (.int .i64 f.slots) (.slice a3 f.objs.length c3) (.slice a4 f.code.length c4)) (hk : SrcP Any w (.slice ak K.length ck) K) :
    Calls Try.prog 29 #[.agg #[.slice ag p.glob.length cg, .slice az p.shapes.length cs, .slice af p.funcs.length cf, .slice a0 f.args.length c0, .int .i64 f.res, .int .i64 f.slots, .slice a3 f.objs.length c3, .slice a4 f.code.length c4, .int .i64 io, .int .i64 ia, .int .i64 ib, .int .i64 ic, .slice ak K.length ck]] w fun e w' => e = .returned (.bool s) ∧ Below w.heap.size w w' := by
  subst ho
  obtain ⟨wa, hwa⟩ : ∃ wa, w.alloc (.cells #[.slice ag p.glob.length cg, .slice az p.shapes.length cs, .slice af p.funcs.length cf, .slice a0 f.args.length c0, .int .i64 f.res, .int .i64 f.slots, .slice a3 f.objs.length c3, .slice a4 f.code.length c4, .int .i64 7, .int .i64 ia, .int .i64 ib, .int .i64 ic, .slice ak K.length ck] 66) = wa := ⟨_, rfl⟩
  have HT : Hid (OnT w wa w.heap.size p f 7 ia ib ic ag az af cg cs cf a0 a3 a4 c0 c3 c4 K ak ck) := onT_start p f 7 ia ib ic ag az af cg cs cf a0 a3 a4 c0 c3 c4 K ak ck hwa hp hf hk
  have HB : Hid (Below w.heap.size w (wa.alloc (.cells #[.int .i64 7, .int .i64 ia, .int .i64 ib, .int .i64 ic] 47)) ∧ OnT w (wa.alloc (.cells #[.int .i64 7, .int .i64 ia, .int .i64 ib, .int .i64 ic] 47)) w.heap.size p f 7 ia ib ic ag az af cg cs cf a0 a3 a4 c0 c3 c4 K ak ck) := ⟨HT.out.low.alloc HT.out.low.size _, HT.out.below ((Below.refl _ _).alloc (Nat.le_refl _) _)⟩
  have HI : Hid ((wa.alloc (.cells #[.int .i64 7, .int .i64 ia, .int .i64 ib, .int .i64 ic] 47)).cell? ⟨wa.heap.size, 0, none⟩ = some (.int .i64 7) ∧ (wa.alloc (.cells #[.int .i64 7, .int .i64 ia, .int .i64 ib, .int .i64 ic] 47)).cell? ⟨wa.heap.size, 1, none⟩ = some (.int .i64 ia) ∧
      (wa.alloc (.cells #[.int .i64 7, .int .i64 ia, .int .i64 ib, .int .i64 ic] 47)).cell? ⟨wa.heap.size, 2, none⟩ = some (.int .i64 ib) ∧ (wa.alloc (.cells #[.int .i64 7, .int .i64 ia, .int .i64 ib, .int .i64 ic] 47)).cell? ⟨wa.heap.size, 3, none⟩ = some (.int .i64 ic)) := ⟨cell_new wa _ _ rfl, cell_new wa _ _ rfl, cell_new wa _ _ rfl, cell_new wa _ _ rfl⟩
  obtain ⟨d0, d1, d2, d3, d4, d5, d6, d7, d8, d9, d10, d11⟩ := HT.out.box.c
  have d12 := HT.out.k12
  have hpl := plac_and hi.out
  clear hp hf hk
  go_enter Try.func29, Try.ntmps29
  go_upto_region 2 with (fail)
  clear d0 d1 d2 d3 d4 d5 d6 d7 d8 d9 d10 d11 d12 HT hwa
  generalize wa.alloc (.cells #[.int .i64 7, .int .i64 ia, .int .i64 ib, .int .i64 ic] 47) = wb at *
  generalize wa.heap.size = gi at *
  clear wa
  obtain ⟨i0, i1, i2, i3⟩ := HI.out
  obtain ⟨d0, d1, d2, d3, d4, d5, d6, d7, d8, d9, d10, d11⟩ := HB.out.2.box.c
  have d12 := HB.out.2.k12
  have h1 : inB ib f.slots = true := hpl.2.1
  have h2 : inB ic f.slots = true := hpl.2.2
  obtain ⟨m, rfl, hm⟩ := slot_of hK.out.1 h1
  obtain ⟨m', rfl, hm'⟩ := slot_of hK.out.1 h2
  obtain ⟨b, off, rfl, kc⟩ := HB.out.2.kk.kat hm
  obtain ⟨_, _, hbb, kc'⟩ := HB.out.2.kk.kat hm'
  cases hbb
  have hmI : (m : Int) < (K.length : Int) := by omega
  have hmI' : (m' : Int) < (K.length : Int) := by omega
  have HS : Hid ((kat K (m : Int) == 1 && kat K (m' : Int) == 1) = s) := hs.out
  generalize kat K (m : Int) = k at *
  generalize kat K (m' : Int) = k' at *
  clear hs hpl h1 h2
  by_cases hk1 : k = 1
  · have hd : (k == 1) = true := by simpa using hk1
    have HS2 : Hid ((k' == 1) = s) := by
      have := HS.out
      rw [hd] at this
      exact this
    clear hk1
    go_wp2_with fail
    go_ret
    exact ⟨ret_bool HS2.out, HB.out.1⟩
  · have hd : (k == 1) = false := by simpa using hk1
    have HS2 : Hid (false = s) := by
      have := HS.out
      rw [hd] at this
      exact this
    clear hk1
    go_wp2_with fail
    go_ret
    exact ⟨ret_bool HS2.out, HB.out.1⟩

set_option maxRecDepth 100000 in
set_option maxHeartbeats 4000000 in
theorem rd_8 (p : Pg) (f : Fn) (io ia ib ic : Int) (ag az af : Option Addr) (cg cs cf : Nat) (a0 a3 a4 : Option Addr) (c0 c3 c4 : Nat) (K : List Int) (ak : Option Addr) (ck : Nat) {s : Bool} (ho : io = 8) (hs : Hid (rdB p f ⟨io, ia, ib, ic⟩ K = s)) (hi : Hid (OkI p f ⟨io, ia, ib, ic⟩)) (hK : Hid ((K.length : Int) = f.slots ∧ K.length ≤ ck ∧ K.length ≤ 3000)) (w : World) (hp : PgV Any w (.slice ag p.glob.length cg) (.slice az p.shapes.length cs) (.slice af p.funcs.length cf) p) (hf : FnC Any w f (.slice a0 f.args.length c0) (.int .i64 f.res) (.int .i64 f.slots) (.slice a3 f.objs.length c3) (.slice a4 f.code.length c4)) (hk : SrcP Any w (.slice ak K.length ck) K) :
    Calls Try.prog 29 #[.agg #[.slice ag p.glob.length cg, .slice az p.shapes.length cs, .slice af p.funcs.length cf, .slice a0 f.args.length c0, .int .i64 f.res, .int .i64 f.slots, .slice a3 f.objs.length c3, .slice a4 f.code.length c4, .int .i64 io, .int .i64 ia, .int .i64 ib, .int .i64 ic, .slice ak K.length ck]] w fun e w' => e = .returned (.bool s) ∧ Below w.heap.size w w' := by
  subst ho
  obtain ⟨wa, hwa⟩ : ∃ wa, w.alloc (.cells #[.slice ag p.glob.length cg, .slice az p.shapes.length cs, .slice af p.funcs.length cf, .slice a0 f.args.length c0, .int .i64 f.res, .int .i64 f.slots, .slice a3 f.objs.length c3, .slice a4 f.code.length c4, .int .i64 8, .int .i64 ia, .int .i64 ib, .int .i64 ic, .slice ak K.length ck] 66) = wa := ⟨_, rfl⟩
  have HT : Hid (OnT w wa w.heap.size p f 8 ia ib ic ag az af cg cs cf a0 a3 a4 c0 c3 c4 K ak ck) := onT_start p f 8 ia ib ic ag az af cg cs cf a0 a3 a4 c0 c3 c4 K ak ck hwa hp hf hk
  have HB : Hid (Below w.heap.size w (wa.alloc (.cells #[.int .i64 8, .int .i64 ia, .int .i64 ib, .int .i64 ic] 47)) ∧ OnT w (wa.alloc (.cells #[.int .i64 8, .int .i64 ia, .int .i64 ib, .int .i64 ic] 47)) w.heap.size p f 8 ia ib ic ag az af cg cs cf a0 a3 a4 c0 c3 c4 K ak ck) := ⟨HT.out.low.alloc HT.out.low.size _, HT.out.below ((Below.refl _ _).alloc (Nat.le_refl _) _)⟩
  have HI : Hid ((wa.alloc (.cells #[.int .i64 8, .int .i64 ia, .int .i64 ib, .int .i64 ic] 47)).cell? ⟨wa.heap.size, 0, none⟩ = some (.int .i64 8) ∧ (wa.alloc (.cells #[.int .i64 8, .int .i64 ia, .int .i64 ib, .int .i64 ic] 47)).cell? ⟨wa.heap.size, 1, none⟩ = some (.int .i64 ia) ∧
      (wa.alloc (.cells #[.int .i64 8, .int .i64 ia, .int .i64 ib, .int .i64 ic] 47)).cell? ⟨wa.heap.size, 2, none⟩ = some (.int .i64 ib) ∧ (wa.alloc (.cells #[.int .i64 8, .int .i64 ia, .int .i64 ib, .int .i64 ic] 47)).cell? ⟨wa.heap.size, 3, none⟩ = some (.int .i64 ic)) := ⟨cell_new wa _ _ rfl, cell_new wa _ _ rfl, cell_new wa _ _ rfl, cell_new wa _ _ rfl⟩
  obtain ⟨d0, d1, d2, d3, d4, d5, d6, d7, d8, d9, d10, d11⟩ := HT.out.box.c
  have d12 := HT.out.k12
  have hpl := plac_and hi.out
  clear hp hf hk
  go_enter Try.func29, Try.ntmps29
  go_upto_region 2 with (fail)
  clear d0 d1 d2 d3 d4 d5 d6 d7 d8 d9 d10 d11 d12 HT hwa
  generalize wa.alloc (.cells #[.int .i64 8, .int .i64 ia, .int .i64 ib, .int .i64 ic] 47) = wb at *
  generalize wa.heap.size = gi at *
  clear wa
  obtain ⟨i0, i1, i2, i3⟩ := HI.out
  obtain ⟨d0, d1, d2, d3, d4, d5, d6, d7, d8, d9, d10, d11⟩ := HB.out.2.box.c
  have d12 := HB.out.2.k12
  have h1 : inB ib f.slots = true := hpl.2.1
  have h2 : inB ic f.slots = true := hpl.2.2
  obtain ⟨m, rfl, hm⟩ := slot_of hK.out.1 h1
  obtain ⟨m', rfl, hm'⟩ := slot_of hK.out.1 h2
  obtain ⟨b, off, rfl, kc⟩ := HB.out.2.kk.kat hm
  obtain ⟨_, _, hbb, kc'⟩ := HB.out.2.kk.kat hm'
  cases hbb
  have hmI : (m : Int) < (K.length : Int) := by omega
  have hmI' : (m' : Int) < (K.length : Int) := by omega
  have HS : Hid ((kat K (m : Int) == 1 && kat K (m' : Int) == 1) = s) := hs.out
  generalize kat K (m : Int) = k at *
  generalize kat K (m' : Int) = k' at *
  clear hs hpl h1 h2
  by_cases hk1 : k = 1
  · have hd : (k == 1) = true := by simpa using hk1
    have HS2 : Hid ((k' == 1) = s) := by
      have := HS.out
      rw [hd] at this
      exact this
    clear hk1
    go_wp2_with fail
    go_ret
    exact ⟨ret_bool HS2.out, HB.out.1⟩
  · have hd : (k == 1) = false := by simpa using hk1
    have HS2 : Hid (false = s) := by
      have := HS.out
      rw [hd] at this
      exact this
    clear hk1
    go_wp2_with fail
    go_ret
    exact ⟨ret_bool HS2.out, HB.out.1⟩

set_option maxRecDepth 100000 in
set_option maxHeartbeats 4000000 in
theorem rd_10 (p : Pg) (f : Fn) (io ia ib ic : Int) (ag az af : Option Addr) (cg cs cf : Nat) (a0 a3 a4 : Option Addr) (c0 c3 c4 : Nat) (K : List Int) (ak : Option Addr) (ck : Nat) {s : Bool} (ho : io = 10) (hs : Hid (rdB p f ⟨io, ia, ib, ic⟩ K = s)) (hi : Hid (OkI p f ⟨io, ia, ib, ic⟩)) (hK : Hid ((K.length : Int) = f.slots ∧ K.length ≤ ck ∧ K.length ≤ 3000)) (w : World) (hp : PgV Any w (.slice ag p.glob.length cg) (.slice az p.shapes.length cs) (.slice af p.funcs.length cf) p) (hf : FnC Any w f (.slice a0 f.args.length c0) (.int .i64 f.res) (.int .i64 f.slots) (.slice a3 f.objs.length c3) (.slice a4 f.code.length c4)) (hk : SrcP Any w (.slice ak K.length ck) K) :
    Calls Try.prog 29 #[.agg #[.slice ag p.glob.length cg, .slice az p.shapes.length cs, .slice af p.funcs.length cf, .slice a0 f.args.length c0, .int .i64 f.res, .int .i64 f.slots, .slice a3 f.objs.length c3, .slice a4 f.code.length c4, .int .i64 io, .int .i64 ia, .int .i64 ib, .int .i64 ic, .slice ak K.length ck]] w fun e w' => e = .returned (.bool s) ∧ Below w.heap.size w w' := by
  subst ho
  obtain ⟨wa, hwa⟩ : ∃ wa, w.alloc (.cells #[.slice ag p.glob.length cg, .slice az p.shapes.length cs, .slice af p.funcs.length cf, .slice a0 f.args.length c0, .int .i64 f.res, .int .i64 f.slots, .slice a3 f.objs.length c3, .slice a4 f.code.length c4, .int .i64 10, .int .i64 ia, .int .i64 ib, .int .i64 ic, .slice ak K.length ck] 66) = wa := ⟨_, rfl⟩
  have HT : Hid (OnT w wa w.heap.size p f 10 ia ib ic ag az af cg cs cf a0 a3 a4 c0 c3 c4 K ak ck) := onT_start p f 10 ia ib ic ag az af cg cs cf a0 a3 a4 c0 c3 c4 K ak ck hwa hp hf hk
  have HB : Hid (Below w.heap.size w (wa.alloc (.cells #[.int .i64 10, .int .i64 ia, .int .i64 ib, .int .i64 ic] 47)) ∧ OnT w (wa.alloc (.cells #[.int .i64 10, .int .i64 ia, .int .i64 ib, .int .i64 ic] 47)) w.heap.size p f 10 ia ib ic ag az af cg cs cf a0 a3 a4 c0 c3 c4 K ak ck) := ⟨HT.out.low.alloc HT.out.low.size _, HT.out.below ((Below.refl _ _).alloc (Nat.le_refl _) _)⟩
  have HI : Hid ((wa.alloc (.cells #[.int .i64 10, .int .i64 ia, .int .i64 ib, .int .i64 ic] 47)).cell? ⟨wa.heap.size, 0, none⟩ = some (.int .i64 10) ∧ (wa.alloc (.cells #[.int .i64 10, .int .i64 ia, .int .i64 ib, .int .i64 ic] 47)).cell? ⟨wa.heap.size, 1, none⟩ = some (.int .i64 ia) ∧
      (wa.alloc (.cells #[.int .i64 10, .int .i64 ia, .int .i64 ib, .int .i64 ic] 47)).cell? ⟨wa.heap.size, 2, none⟩ = some (.int .i64 ib) ∧ (wa.alloc (.cells #[.int .i64 10, .int .i64 ia, .int .i64 ib, .int .i64 ic] 47)).cell? ⟨wa.heap.size, 3, none⟩ = some (.int .i64 ic)) := ⟨cell_new wa _ _ rfl, cell_new wa _ _ rfl, cell_new wa _ _ rfl, cell_new wa _ _ rfl⟩
  obtain ⟨d0, d1, d2, d3, d4, d5, d6, d7, d8, d9, d10, d11⟩ := HT.out.box.c
  have d12 := HT.out.k12
  have hpl := plac_and hi.out
  clear hp hf hk
  go_enter Try.func29, Try.ntmps29
  go_upto_region 2 with (fail)
  clear d0 d1 d2 d3 d4 d5 d6 d7 d8 d9 d10 d11 d12 HT hwa
  generalize wa.alloc (.cells #[.int .i64 10, .int .i64 ia, .int .i64 ib, .int .i64 ic] 47) = wb at *
  generalize wa.heap.size = gi at *
  clear wa
  obtain ⟨i0, i1, i2, i3⟩ := HI.out
  obtain ⟨d0, d1, d2, d3, d4, d5, d6, d7, d8, d9, d10, d11⟩ := HB.out.2.box.c
  have d12 := HB.out.2.k12
  have h1 : inB ia f.slots = true := hpl.1
  obtain ⟨m, rfl, hm⟩ := slot_of hK.out.1 h1
  obtain ⟨b, off, rfl, kc⟩ := HB.out.2.kk.kat hm
  have hmI : (m : Int) < (K.length : Int) := by omega
  have HS : Hid ((kat K (m : Int) == 1) = s) := hs.out
  generalize kat K (m : Int) = k at *
  clear hs hpl h1
  go_wp2_with fail
  go_ret
  exact ⟨ret_bool HS.out, HB.out.1⟩

set_option maxRecDepth 100000 in
set_option maxHeartbeats 4000000 in
theorem rd_29 (p : Pg) (f : Fn) (io ia ib ic : Int) (ag az af : Option Addr) (cg cs cf : Nat) (a0 a3 a4 : Option Addr) (c0 c3 c4 : Nat) (K : List Int) (ak : Option Addr) (ck : Nat) {s : Bool} (ho : io = 29) (hs : Hid (rdB p f ⟨io, ia, ib, ic⟩ K = s)) (hi : Hid (OkI p f ⟨io, ia, ib, ic⟩)) (hK : Hid ((K.length : Int) = f.slots ∧ K.length ≤ ck ∧ K.length ≤ 3000)) (w : World) (hp : PgV Any w (.slice ag p.glob.length cg) (.slice az p.shapes.length cs) (.slice af p.funcs.length cf) p) (hf : FnC Any w f (.slice a0 f.args.length c0) (.int .i64 f.res) (.int .i64 f.slots) (.slice a3 f.objs.length c3) (.slice a4 f.code.length c4)) (hk : SrcP Any w (.slice ak K.length ck) K) :
    Calls Try.prog 29 #[.agg #[.slice ag p.glob.length cg, .slice az p.shapes.length cs, .slice af p.funcs.length cf, .slice a0 f.args.length c0, .int .i64 f.res, .int .i64 f.slots, .slice a3 f.objs.length c3, .slice a4 f.code.length c4, .int .i64 io, .int .i64 ia, .int .i64 ib, .int .i64 ic, .slice ak K.length ck]] w fun e w' => e = .returned (.bool s) ∧ Below w.heap.size w w' := by
  subst ho
  obtain ⟨wa, hwa⟩ : ∃ wa, w.alloc (.cells #[.slice ag p.glob.length cg, .slice az p.shapes.length cs, .slice af p.funcs.length cf, .slice a0 f.args.length c0, .int .i64 f.res, .int .i64 f.slots, .slice a3 f.objs.length c3, .slice a4 f.code.length c4, .int .i64 29, .int .i64 ia, .int .i64 ib, .int .i64 ic, .slice ak K.length ck] 66) = wa := ⟨_, rfl⟩
  have HT : Hid (OnT w wa w.heap.size p f 29 ia ib ic ag az af cg cs cf a0 a3 a4 c0 c3 c4 K ak ck) := onT_start p f 29 ia ib ic ag az af cg cs cf a0 a3 a4 c0 c3 c4 K ak ck hwa hp hf hk
  have HB : Hid (Below w.heap.size w (wa.alloc (.cells #[.int .i64 29, .int .i64 ia, .int .i64 ib, .int .i64 ic] 47)) ∧ OnT w (wa.alloc (.cells #[.int .i64 29, .int .i64 ia, .int .i64 ib, .int .i64 ic] 47)) w.heap.size p f 29 ia ib ic ag az af cg cs cf a0 a3 a4 c0 c3 c4 K ak ck) := ⟨HT.out.low.alloc HT.out.low.size _, HT.out.below ((Below.refl _ _).alloc (Nat.le_refl _) _)⟩
  have HI : Hid ((wa.alloc (.cells #[.int .i64 29, .int .i64 ia, .int .i64 ib, .int .i64 ic] 47)).cell? ⟨wa.heap.size, 0, none⟩ = some (.int .i64 29) ∧ (wa.alloc (.cells #[.int .i64 29, .int .i64 ia, .int .i64 ib, .int .i64 ic] 47)).cell? ⟨wa.heap.size, 1, none⟩ = some (.int .i64 ia) ∧
      (wa.alloc (.cells #[.int .i64 29, .int .i64 ia, .int .i64 ib, .int .i64 ic] 47)).cell? ⟨wa.heap.size, 2, none⟩ = some (.int .i64 ib) ∧ (wa.alloc (.cells #[.int .i64 29, .int .i64 ia, .int .i64 ib, .int .i64 ic] 47)).cell? ⟨wa.heap.size, 3, none⟩ = some (.int .i64 ic)) := ⟨cell_new wa _ _ rfl, cell_new wa _ _ rfl, cell_new wa _ _ rfl, cell_new wa _ _ rfl⟩
  obtain ⟨d0, d1, d2, d3, d4, d5, d6, d7, d8, d9, d10, d11⟩ := HT.out.box.c
  have d12 := HT.out.k12
  have hpl := plac_and hi.out
  clear hp hf hk
  go_enter Try.func29, Try.ntmps29
  go_upto_region 2 with (fail)
  clear d0 d1 d2 d3 d4 d5 d6 d7 d8 d9 d10 d11 d12 HT hwa
  generalize wa.alloc (.cells #[.int .i64 29, .int .i64 ia, .int .i64 ib, .int .i64 ic] 47) = wb at *
  generalize wa.heap.size = gi at *
  clear wa
  obtain ⟨i0, i1, i2, i3⟩ := HI.out
  obtain ⟨d0, d1, d2, d3, d4, d5, d6, d7, d8, d9, d10, d11⟩ := HB.out.2.box.c
  have d12 := HB.out.2.k12
  have h1 : inB ia f.slots = true := hpl.1
  obtain ⟨m, rfl, hm⟩ := slot_of hK.out.1 h1
  obtain ⟨b, off, rfl, kc⟩ := HB.out.2.kk.kat hm
  have hmI : (m : Int) < (K.length : Int) := by omega
  have HS : Hid ((kat K (m : Int) == 1) = s) := hs.out
  generalize kat K (m : Int) = k at *
  clear hs hpl h1
  go_wp2_with fail
  go_ret
  exact ⟨ret_bool HS.out, HB.out.1⟩

set_option maxRecDepth 100000 in
set_option maxHeartbeats 4000000 in
theorem rd_12 (p : Pg) (f : Fn) (io ia ib ic : Int) (ag az af : Option Addr) (cg cs cf : Nat) (a0 a3 a4 : Option Addr) (c0 c3 c4 : Nat) (K : List Int) (ak : Option Addr) (ck : Nat) {s : Bool} (ho : io = 12) (hs : Hid (rdB p f ⟨io, ia, ib, ic⟩ K = s)) (hi : Hid (OkI p f ⟨io, ia, ib, ic⟩)) (hK : Hid ((K.length : Int) = f.slots ∧ K.length ≤ ck ∧ K.length ≤ 3000)) (w : World) (hp : PgV Any w (.slice ag p.glob.length cg) (.slice az p.shapes.length cs) (.slice af p.funcs.length cf) p) (hf : FnC Any w f (.slice a0 f.args.length c0) (.int .i64 f.res) (.int .i64 f.slots) (.slice a3 f.objs.length c3) (.slice a4 f.code.length c4)) (hk : SrcP Any w (.slice ak K.length ck) K) :
    Calls Try.prog 29 #[.agg #[.slice ag p.glob.length cg, .slice az p.shapes.length cs, .slice af p.funcs.length cf, .slice a0 f.args.length c0, .int .i64 f.res, .int .i64 f.slots, .slice a3 f.objs.length c3, .slice a4 f.code.length c4, .int .i64 io, .int .i64 ia, .int .i64 ib, .int .i64 ic, .slice ak K.length ck]] w fun e w' => e = .returned (.bool s) ∧ Below w.heap.size w w' := by
  subst ho
  obtain ⟨wa, hwa⟩ : ∃ wa, w.alloc (.cells #[.slice ag p.glob.length cg, .slice az p.shapes.length cs, .slice af p.funcs.length cf, .slice a0 f.args.length c0, .int .i64 f.res, .int .i64 f.slots, .slice a3 f.objs.length c3, .slice a4 f.code.length c4, .int .i64 12, .int .i64 ia, .int .i64 ib, .int .i64 ic, .slice ak K.length ck] 66) = wa := ⟨_, rfl⟩
  have HT : Hid (OnT w wa w.heap.size p f 12 ia ib ic ag az af cg cs cf a0 a3 a4 c0 c3 c4 K ak ck) := onT_start p f 12 ia ib ic ag az af cg cs cf a0 a3 a4 c0 c3 c4 K ak ck hwa hp hf hk
  have HB : Hid (Below w.heap.size w (wa.alloc (.cells #[.int .i64 12, .int .i64 ia, .int .i64 ib, .int .i64 ic] 47)) ∧ OnT w (wa.alloc (.cells #[.int .i64 12, .int .i64 ia, .int .i64 ib, .int .i64 ic] 47)) w.heap.size p f 12 ia ib ic ag az af cg cs cf a0 a3 a4 c0 c3 c4 K ak ck) := ⟨HT.out.low.alloc HT.out.low.size _, HT.out.below ((Below.refl _ _).alloc (Nat.le_refl _) _)⟩
  have HI : Hid ((wa.alloc (.cells #[.int .i64 12, .int .i64 ia, .int .i64 ib, .int .i64 ic] 47)).cell? ⟨wa.heap.size, 0, none⟩ = some (.int .i64 12) ∧ (wa.alloc (.cells #[.int .i64 12, .int .i64 ia, .int .i64 ib, .int .i64 ic] 47)).cell? ⟨wa.heap.size, 1, none⟩ = some (.int .i64 ia) ∧
      (wa.alloc (.cells #[.int .i64 12, .int .i64 ia, .int .i64 ib, .int .i64 ic] 47)).cell? ⟨wa.heap.size, 2, none⟩ = some (.int .i64 ib) ∧ (wa.alloc (.cells #[.int .i64 12, .int .i64 ia, .int .i64 ib, .int .i64 ic] 47)).cell? ⟨wa.heap.size, 3, none⟩ = some (.int .i64 ic)) := ⟨cell_new wa _ _ rfl, cell_new wa _ _ rfl, cell_new wa _ _ rfl, cell_new wa _ _ rfl⟩
  obtain ⟨d0, d1, d2, d3, d4, d5, d6, d7, d8, d9, d10, d11⟩ := HT.out.box.c
  have d12 := HT.out.k12
  have hpl := plac_and hi.out
  clear hp hf hk
  go_enter Try.func29, Try.ntmps29
  go_upto_region 2 with (fail)
  clear d0 d1 d2 d3 d4 d5 d6 d7 d8 d9 d10 d11 d12 HT hwa
  generalize wa.alloc (.cells #[.int .i64 12, .int .i64 ia, .int .i64 ib, .int .i64 ic] 47) = wb at *
  generalize wa.heap.size = gi at *
  clear wa
  obtain ⟨i0, i1, i2, i3⟩ := HI.out
  obtain ⟨d0, d1, d2, d3, d4, d5, d6, d7, d8, d9, d10, d11⟩ := HB.out.2.box.c
  have d12 := HB.out.2.k12
  have h1 : inB ib f.slots = true := hpl.2.1
  obtain ⟨m, rfl, hm⟩ := slot_of hK.out.1 h1
  obtain ⟨b, off, rfl, kc⟩ := HB.out.2.kk.kat hm
  have hmI : (m : Int) < (K.length : Int) := by omega
  have HS : Hid (upB 16 (kat K (m : Int)) = s) := hs.out
  generalize kat K (m : Int) = k at *
  obtain ⟨n, HU⟩ : ∃ n, Hid (upN 16 k = n) := ⟨_, rfl⟩
  clear hs hpl h1
  go_wp2_with fail
  refine (points_any HU HS _).mono ?_
  rintro e w1 ⟨rfl, rfl⟩
  go_wp2_with fail
  go_ret
  exact ⟨rfl, HB.out.1⟩

set_option maxRecDepth 100000 in
set_option maxHeartbeats 4000000 in
theorem rd_14 (p : Pg) (f : Fn) (io ia ib ic : Int) (ag az af : Option Addr) (cg cs cf : Nat) (a0 a3 a4 : Option Addr) (c0 c3 c4 : Nat) (K : List Int) (ak : Option Addr) (ck : Nat) {s : Bool} (ho : io = 14) (hs : Hid (rdB p f ⟨io, ia, ib, ic⟩ K = s)) (hi : Hid (OkI p f ⟨io, ia, ib, ic⟩)) (hK : Hid ((K.length : Int) = f.slots ∧ K.length ≤ ck ∧ K.length ≤ 3000)) (w : World) (hp : PgV Any w (.slice ag p.glob.length cg) (.slice az p.shapes.length cs) (.slice af p.funcs.length cf) p) (hf : FnC Any w f (.slice a0 f.args.length c0) (.int .i64 f.res) (.int .i64 f.slots) (.slice a3 f.objs.length c3) (.slice a4 f.code.length c4)) (hk : SrcP Any w (.slice ak K.length ck) K) :
    Calls Try.prog 29 #[.agg #[.slice ag p.glob.length cg, .slice az p.shapes.length cs, .slice af p.funcs.length cf, .slice a0 f.args.length c0, .int .i64 f.res, .int .i64 f.slots, .slice a3 f.objs.length c3, .slice a4 f.code.length c4, .int .i64 io, .int .i64 ia, .int .i64 ib, .int .i64 ic, .slice ak K.length ck]] w fun e w' => e = .returned (.bool s) ∧ Below w.heap.size w w' := by
  subst ho
  obtain ⟨wa, hwa⟩ : ∃ wa, w.alloc (.cells #[.slice ag p.glob.length cg, .slice az p.shapes.length cs, .slice af p.funcs.length cf, .slice a0 f.args.length c0, .int .i64 f.res, .int .i64 f.slots, .slice a3 f.objs.length c3, .slice a4 f.code.length c4, .int .i64 14, .int .i64 ia, .int .i64 ib, .int .i64 ic, .slice ak K.length ck] 66) = wa := ⟨_, rfl⟩
  have HT : Hid (OnT w wa w.heap.size p f 14 ia ib ic ag az af cg cs cf a0 a3 a4 c0 c3 c4 K ak ck) := onT_start p f 14 ia ib ic ag az af cg cs cf a0 a3 a4 c0 c3 c4 K ak ck hwa hp hf hk
  have HB : Hid (Below w.heap.size w (wa.alloc (.cells #[.int .i64 14, .int .i64 ia, .int .i64 ib, .int .i64 ic] 47)) ∧ OnT w (wa.alloc (.cells #[.int .i64 14, .int .i64 ia, .int .i64 ib, .int .i64 ic] 47)) w.heap.size p f 14 ia ib ic ag az af cg cs cf a0 a3 a4 c0 c3 c4 K ak ck) := ⟨HT.out.low.alloc HT.out.low.size _, HT.out.below ((Below.refl _ _).alloc (Nat.le_refl _) _)⟩
  have HI : Hid ((wa.alloc (.cells #[.int .i64 14, .int .i64 ia, .int .i64 ib, .int .i64 ic] 47)).cell? ⟨wa.heap.size, 0, none⟩ = some (.int .i64 14) ∧ (wa.alloc (.cells #[.int .i64 14, .int .i64 ia, .int .i64 ib, .int .i64 ic] 47)).cell? ⟨wa.heap.size, 1, none⟩ = some (.int .i64 ia) ∧
      (wa.alloc (.cells #[.int .i64 14, .int .i64 ia, .int .i64 ib, .int .i64 ic] 47)).cell? ⟨wa.heap.size, 2, none⟩ = some (.int .i64 ib) ∧ (wa.alloc (.cells #[.int .i64 14, .int .i64 ia, .int .i64 ib, .int .i64 ic] 47)).cell? ⟨wa.heap.size, 3, none⟩ = some (.int .i64 ic)) := ⟨cell_new wa _ _ rfl, cell_new wa _ _ rfl, cell_new wa _ _ rfl, cell_new wa _ _ rfl⟩
  obtain ⟨d0, d1, d2, d3, d4, d5, d6, d7, d8, d9, d10, d11⟩ := HT.out.box.c
  have d12 := HT.out.k12
  have hpl := plac_and hi.out
  clear hp hf hk
  go_enter Try.func29, Try.ntmps29
  go_upto_region 2 with (fail)
  clear d0 d1 d2 d3 d4 d5 d6 d7 d8 d9 d10 d11 d12 HT hwa
  generalize wa.alloc (.cells #[.int .i64 14, .int .i64 ia, .int .i64 ib, .int .i64 ic] 47) = wb at *
  generalize wa.heap.size = gi at *
  clear wa
  obtain ⟨i0, i1, i2, i3⟩ := HI.out
  obtain ⟨d0, d1, d2, d3, d4, d5, d6, d7, d8, d9, d10, d11⟩ := HB.out.2.box.c
  have d12 := HB.out.2.k12
  have h1 : inB ib f.slots = true := hpl.2.1
  have h2 : inB ic 16 = true := hpl.2.2
  obtain ⟨m, rfl, hm⟩ := slot_of hK.out.1 h1
  obtain ⟨c, rfl, hc⟩ := fld_of h2
  obtain ⟨r, hr⟩ : ∃ r, Hid (fieldO p 16 (kat K (m : Int)) (c : Int) = r) := ⟨_, rfl⟩
  have HS : Hid (r.isSome = s) := by
    have : (fieldO p 16 (kat K (m : Int)) (c : Int)).isSome = s := hs.out
    rw [hr.out] at this
    exact this
  have HM : Hid (m < K.length) := hm
  clear hs hpl h1 h2 hm hc
  go_wp2_with fail
  refine (field_ptr p f 14 ia (m : Int) (c : Int) ag az af cg cs cf a0 a3 a4 c0 c3 c4 K ak ck (by decide) (by decide) hr HM.out _ HB.out.2.pp HB.out.2.ff HB.out.2.kk).mono ?_
  rintro e w1 ⟨rfl, hb⟩
  have HB2 : Hid (Below w.heap.size w w1) := HB.out.1.trans (hb.mono HB.out.1.size)
  clear hb d0 d1 d2 d3 d4 d5 d6 d7 d8 d9 d10 d11 d12 i0 i1 i2 i3 HI
  go_wp2_with fail
  go_ret
  exact ⟨ret_bool HS.out, HB2.out⟩

set_option maxRecDepth 100000 in
set_option maxHeartbeats 4000000 in
theorem rd_19 (p : Pg) (f : Fn) (io ia ib ic : Int) (ag az af : Option Addr) (cg cs cf : Nat) (a0 a3 a4 : Option Addr) (c0 c3 c4 : Nat) (K : List Int) (ak : Option Addr) (ck : Nat) {s : Bool} (ho : io = 19) (hs : Hid (rdB p f ⟨io, ia, ib, ic⟩ K = s)) (hi : Hid (OkI p f ⟨io, ia, ib, ic⟩)) (hK : Hid ((K.length : Int) = f.slots ∧ K.length ≤ ck ∧ K.length ≤ 3000)) (w : World) (hp : PgV Any w (.slice ag p.glob.length cg) (.slice az p.shapes.length cs) (.slice af p.funcs.length cf) p) (hf : FnC Any w f (.slice a0 f.args.length c0) (.int .i64 f.res) (.int .i64 f.slots) (.slice a3 f.objs.length c3) (.slice a4 f.code.length c4)) (hk : SrcP Any w (.slice ak K.length ck) K) :
    Calls Try.prog 29 #[.agg #[.slice ag p.glob.length cg, .slice az p.shapes.length cs, .slice af p.funcs.length cf, .slice a0 f.args.length c0, .int .i64 f.res, .int .i64 f.slots, .slice a3 f.objs.length c3, .slice a4 f.code.length c4, .int .i64 io, .int .i64 ia, .int .i64 ib, .int .i64 ic, .slice ak K.length ck]] w fun e w' => e = .returned (.bool s) ∧ Below w.heap.size w w' := by
  subst ho
  obtain ⟨wa, hwa⟩ : ∃ wa, w.alloc (.cells #[.slice ag p.glob.length cg, .slice az p.shapes.length cs, .slice af p.funcs.length cf, .slice a0 f.args.length c0, .int .i64 f.res, .int .i64 f.slots, .slice a3 f.objs.length c3, .slice a4 f.code.length c4, .int .i64 19, .int .i64 ia, .int .i64 ib, .int .i64 ic, .slice ak K.length ck] 66) = wa := ⟨_, rfl⟩
  have HT : Hid (OnT w wa w.heap.size p f 19 ia ib ic ag az af cg cs cf a0 a3 a4 c0 c3 c4 K ak ck) := onT_start p f 19 ia ib ic ag az af cg cs cf a0 a3 a4 c0 c3 c4 K ak ck hwa hp hf hk
  have HB : Hid (Below w.heap.size w (wa.alloc (.cells #[.int .i64 19, .int .i64 ia, .int .i64 ib, .int .i64 ic] 47)) ∧ OnT w (wa.alloc (.cells #[.int .i64 19, .int .i64 ia, .int .i64 ib, .int .i64 ic] 47)) w.heap.size p f 19 ia ib ic ag az af cg cs cf a0 a3 a4 c0 c3 c4 K ak ck) := ⟨HT.out.low.alloc HT.out.low.size _, HT.out.below ((Below.refl _ _).alloc (Nat.le_refl _) _)⟩
  have HI : Hid ((wa.alloc (.cells #[.int .i64 19, .int .i64 ia, .int .i64 ib, .int .i64 ic] 47)).cell? ⟨wa.heap.size, 0, none⟩ = some (.int .i64 19) ∧ (wa.alloc (.cells #[.int .i64 19, .int .i64 ia, .int .i64 ib, .int .i64 ic] 47)).cell? ⟨wa.heap.size, 1, none⟩ = some (.int .i64 ia) ∧
      (wa.alloc (.cells #[.int .i64 19, .int .i64 ia, .int .i64 ib, .int .i64 ic] 47)).cell? ⟨wa.heap.size, 2, none⟩ = some (.int .i64 ib) ∧ (wa.alloc (.cells #[.int .i64 19, .int .i64 ia, .int .i64 ib, .int .i64 ic] 47)).cell? ⟨wa.heap.size, 3, none⟩ = some (.int .i64 ic)) := ⟨cell_new wa _ _ rfl, cell_new wa _ _ rfl, cell_new wa _ _ rfl, cell_new wa _ _ rfl⟩
  obtain ⟨d0, d1, d2, d3, d4, d5, d6, d7, d8, d9, d10, d11⟩ := HT.out.box.c
  have d12 := HT.out.k12
  have hpl := plac_and hi.out
  clear hp hf hk
  go_enter Try.func29, Try.ntmps29
  go_upto_region 2 with (fail)
  clear d0 d1 d2 d3 d4 d5 d6 d7 d8 d9 d10 d11 d12 HT hwa
  generalize wa.alloc (.cells #[.int .i64 19, .int .i64 ia, .int .i64 ib, .int .i64 ic] 47) = wb at *
  generalize wa.heap.size = gi at *
  clear wa
  obtain ⟨i0, i1, i2, i3⟩ := HI.out
  obtain ⟨d0, d1, d2, d3, d4, d5, d6, d7, d8, d9, d10, d11⟩ := HB.out.2.box.c
  have d12 := HB.out.2.k12
  have h1 : inB ib f.slots = true := hpl.2.1
  have h2 : inB ic 16 = true := hpl.2.2
  obtain ⟨m, rfl, hm⟩ := slot_of hK.out.1 h1
  obtain ⟨c, rfl, hc⟩ := fld_of h2
  obtain ⟨r, hr⟩ : ∃ r, Hid (fieldO p 64 (kat K (m : Int)) (c : Int) = r) := ⟨_, rfl⟩
  have HS : Hid (r.isSome = s) := by
    have : (fieldO p 64 (kat K (m : Int)) (c : Int)).isSome = s := hs.out
    rw [hr.out] at this
    exact this
  have HM : Hid (m < K.length) := hm
  clear hs hpl h1 h2 hm hc
  go_wp2_with fail
  refine (field_19 p f 19 ia (m : Int) (c : Int) ag az af cg cs cf a0 a3 a4 c0 c3 c4 K ak ck rfl hr HM.out _ HB.out.2.pp HB.out.2.ff HB.out.2.kk).mono ?_
  rintro e w1 ⟨rfl, hb⟩
  have HB2 : Hid (Below w.heap.size w w1) := HB.out.1.trans (hb.mono HB.out.1.size)
  clear hb d0 d1 d2 d3 d4 d5 d6 d7 d8 d9 d10 d11 d12 i0 i1 i2 i3 HI
  go_wp2_with fail
  go_ret
  exact ⟨ret_bool HS.out, HB2.out⟩

end Go.Proofs.Ytmjappcjfjajmaa

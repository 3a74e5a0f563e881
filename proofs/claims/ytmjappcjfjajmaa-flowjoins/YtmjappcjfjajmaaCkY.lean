/- A site's box; the walks of namesOf, resultless, holdsArgs, has. -/
import Derived.Test.YtmjappcjfjajmaaCkX
import Derived.BigRegion
import Derived.Deep.RegionHeld3
namespace Go.Proofs.Ytmjappcjfjajmaa
open Go.RowKit

set_option maxHeartbeats 4000000 in
set_option maxRecDepth 100000 in
theorem names_known (op : Int) (h : kn op = true) (w : World) :
    Calls Try.prog 67 #[.int .i64 op] w fun e w' => e = .returned (.agg #[.int .i64 (nm op).1, .int .i64 (nm op).2.1, .int .i64 (nm op).2.2]) ∧ Below w.heap.size w w' := by
  rcases kn_cases h with rfl | rfl | rfl | rfl | rfl | rfl | rfl | rfl | rfl | rfl | rfl | rfl | rfl | rfl | rfl | rfl | rfl | rfl | rfl | rfl | rfl | rfl | rfl | rfl | rfl | rfl | rfl | rfl | rfl | rfl <;> (as_aux_lemma =>
    clear h
    go_enter Try.func67, Try.ntmps67
    go_wp2_with fail
    refine bodyPost_ret (by simp [results, go_sem]; rfl) rfl ?_
    exact ⟨rfl, (Below.refl _ _).alloc (Nat.le_refl _) _⟩)
theorem names_any {op n0 n1 n2 : Int} (h : kn op = true) (hn : Hid (nm op = (n0, n1, n2))) (w : World) :
    Calls Try.prog 67 #[.int .i64 op] w fun e w' => e = .returned (.agg #[.int .i64 n0, .int .i64 n1, .int .i64 n2]) ∧ Below w.heap.size w w' := by
  have := names_known op h w
  rw [hn.out] at this
  exact this

/-- THE SITE AT BLOCK bs. -/
structure SiC (wk : World) (bs : Nat) (p : Pg) (f : Fn) (io ia ib ic : Int) (ag az af : Option Addr) (cg cs cf : Nat) (a0 a3 a4 : Option Addr) (c0 c3 c4 : Nat) : Prop where
  k0 : wk.cell? ⟨bs, 0, none⟩ = some (.slice ag p.glob.length cg)
  k1 : wk.cell? ⟨bs, 1, none⟩ = some (.slice az p.shapes.length cs)
  k2 : wk.cell? ⟨bs, 2, none⟩ = some (.slice af p.funcs.length cf)
  k3 : wk.cell? ⟨bs, 3, none⟩ = some (.slice a0 f.args.length c0)
  k4 : wk.cell? ⟨bs, 4, none⟩ = some (.int .i64 f.res)
  k5 : wk.cell? ⟨bs, 5, none⟩ = some (.int .i64 f.slots)
  k6 : wk.cell? ⟨bs, 6, none⟩ = some (.slice a3 f.objs.length c3)
  k7 : wk.cell? ⟨bs, 7, none⟩ = some (.slice a4 f.code.length c4)
  k8 : wk.cell? ⟨bs, 8, none⟩ = some (.int .i64 io)
  k9 : wk.cell? ⟨bs, 9, none⟩ = some (.int .i64 ia)
  k10 : wk.cell? ⟨bs, 10, none⟩ = some (.int .i64 ib)
  k11 : wk.cell? ⟨bs, 11, none⟩ = some (.int .i64 ic)
section
variable {p : Pg} {f : Fn} {io ia ib ic : Int} {ag az af a0 a3 a4 : Option Addr} {cg cs cf c0 c3 c4 : Nat} {w wk w2 : World} {bs : Nat}
theorem SiC.lt (h : SiC wk bs p f io ia ib ic ag az af cg cs cf a0 a3 a4 c0 c3 c4) : bs < wk.heap.size := (cell_lt h.k0).1
theorem SiC.below (h : SiC wk bs p f io ia ib ic ag az af cg cs cf a0 a3 a4 c0 c3 c4) {B : Nat} (hb : Below B wk w2) (hB : bs < B) : SiC w2 bs p f io ia ib ic ag az af cg cs cf a0 a3 a4 c0 c3 c4 := by
  have k := fun o => hb.cell (p := ⟨bs, o, none⟩) hB
  exact ⟨(k _).trans h.k0, (k _).trans h.k1, (k _).trans h.k2, (k _).trans h.k3, (k _).trans h.k4, (k _).trans h.k5, (k _).trans h.k6, (k _).trans h.k7, (k _).trans h.k8, (k _).trans h.k9, (k _).trans h.k10, (k _).trans h.k11⟩
theorem SiC.c (h : SiC wk bs p f io ia ib ic ag az af cg cs cf a0 a3 a4 c0 c3 c4) : wk.cell? ⟨bs, 0, none⟩ = some (.slice ag p.glob.length cg) ∧ wk.cell? ⟨bs, 1, none⟩ = some (.slice az p.shapes.length cs) ∧ wk.cell? ⟨bs, 2, none⟩ = some (.slice af p.funcs.length cf) ∧
    wk.cell? ⟨bs, 3, none⟩ = some (.slice a0 f.args.length c0) ∧ wk.cell? ⟨bs, 4, none⟩ = some (.int .i64 f.res) ∧ wk.cell? ⟨bs, 5, none⟩ = some (.int .i64 f.slots) ∧ wk.cell? ⟨bs, 6, none⟩ = some (.slice a3 f.objs.length c3) ∧ wk.cell? ⟨bs, 7, none⟩ = some (.slice a4 f.code.length c4) ∧
    wk.cell? ⟨bs, 8, none⟩ = some (.int .i64 io) ∧ wk.cell? ⟨bs, 9, none⟩ = some (.int .i64 ia) ∧ wk.cell? ⟨bs, 10, none⟩ = some (.int .i64 ib) ∧ wk.cell? ⟨bs, 11, none⟩ = some (.int .i64 ic) :=
  ⟨h.k0, h.k1, h.k2, h.k3, h.k4, h.k5, h.k6, h.k7, h.k8, h.k9, h.k10, h.k11⟩
end
/-- A site's box, laid since w, and what it leads to. -/
structure OnS (w wk : World) (bs : Nat) (p : Pg) (f : Fn) (io ia ib ic : Int) (ag az af : Option Addr) (cg cs cf : Nat) (a0 a3 a4 : Option Addr) (c0 c3 c4 : Nat) : Prop where
  low : Below w.heap.size w wk
  box : SiC wk bs p f io ia ib ic ag az af cg cs cf a0 a3 a4 c0 c3 c4
  pp : PgV Any wk (.slice ag p.glob.length cg) (.slice az p.shapes.length cs) (.slice af p.funcs.length cf) p
  ff : FnC Any wk f (.slice a0 f.args.length c0) (.int .i64 f.res) (.int .i64 f.slots) (.slice a3 f.objs.length c3) (.slice a4 f.code.length c4)
theorem OnS.below {p : Pg} {f : Fn} {io ia ib ic : Int} {ag az af a0 a3 a4 : Option Addr} {cg cs cf c0 c3 c4 : Nat} {w wk w2 : World} {bs : Nat} (h : OnS w wk bs p f io ia ib ic ag az af cg cs cf a0 a3 a4 c0 c3 c4) (hb : Below wk.heap.size wk w2) : OnS w w2 bs p f io ia ib ic ag az af cg cs cf a0 a3 a4 c0 c3 c4 :=
  ⟨h.low.trans (hb.mono h.low.size), h.box.below hb h.box.lt, h.pp.below hb, h.ff.below hb⟩
theorem OnS.drewN {p : Pg} {f : Fn} {io ia ib ic : Int} {ag az af a0 a3 a4 : Option Addr} {cg cs cf c0 c3 c4 : Nat} {w wk : World} {bs : Nat} (h : OnS w wk bs p f io ia ib ic ag az af cg cs cf a0 a3 a4 c0 c3 c4) (q : Nat) : OnS w (wk.drewN q) bs p f io ia ib ic ag az af cg cs cf a0 a3 a4 c0 c3 c4 := h.below (below_drewN (Below.refl _ _) q)
theorem onS_start (p : Pg) (f : Fn) (io ia ib ic : Int) (ag az af : Option Addr) (cg cs cf : Nat) (a0 a3 a4 : Option Addr) (c0 c3 c4 : Nat) {w wa : World} (hwa : w.alloc (.cells #[.slice ag p.glob.length cg, .slice az p.shapes.length cs, .slice af p.funcs.length cf, .slice a0 f.args.length c0, .int .i64 f.res, .int .i64 f.slots, .slice a3 f.objs.length c3, .slice a4 f.code.length c4, .int .i64 io, .int .i64 ia, .int .i64 ib, .int .i64 ic] 83) = wa) (hp : PgV Any w (.slice ag p.glob.length cg) (.slice az p.shapes.length cs) (.slice af p.funcs.length cf) p) (hf : FnC Any w f (.slice a0 f.args.length c0) (.int .i64 f.res) (.int .i64 f.slots) (.slice a3 f.objs.length c3) (.slice a4 f.code.length c4)) : OnS w wa w.heap.size p f io ia ib ic ag az af cg cs cf a0 a3 a4 c0 c3 c4 := by
  have hA : Below w.heap.size w wa := hwa ▸ (Below.refl _ _).alloc (Nat.le_refl _) _
  subst hwa
  exact ⟨hA, ⟨cell_new w _ _ rfl, cell_new w _ _ rfl, cell_new w _ _ rfl, cell_new w _ _ rfl, cell_new w _ _ rfl, cell_new w _ _ rfl, cell_new w _ _ rfl, cell_new w _ _ rfl, cell_new w _ _ rfl, cell_new w _ _ rfl, cell_new w _ _ rfl, cell_new w _ _ rfl⟩, hp.below hA, hf.below hA⟩

theorem not_ne (x : Int) : (!(x != 0)) = (x == 0) := by simp [bne]
theorem resl_call {p : Pg} {f g : Fn} {ia ib ic : Int} (h : fnAt p ib = some g) : resl p f ⟨21, ia, ib, ic⟩ = (g.res == 0) := by
  show (if (21 : Int) = 22 then f.res == 0 else if (21 : Int) = 21 then (match fnAt p ib with | some g => g.res == 0 | none => false) else false) = _
  rw [h]
  rfl
theorem resl_none {p : Pg} {f : Fn} {ia ib ic : Int} (h : fnAt p ib = none) : resl p f ⟨21, ia, ib, ic⟩ = false := by
  show (if (21 : Int) = 22 then f.res == 0 else if (21 : Int) = 21 then (match fnAt p ib with | some g => g.res == 0 | none => false) else false) = _
  rw [h]
  rfl
set_option maxHeartbeats 1000000 in
theorem resl_any (p : Pg) (f : Fn) (io ia ib ic : Int) (ag az af : Option Addr) (cg cs cf : Nat) (a0 a3 a4 : Option Addr) (c0 c3 c4 : Nat) {s : Bool} (hs : Hid (resl p f ⟨io, ia, ib, ic⟩ = s)) (w : World) (hp : PgV Any w (.slice ag p.glob.length cg) (.slice az p.shapes.length cs) (.slice af p.funcs.length cf) p) (hf : FnC Any w f (.slice a0 f.args.length c0) (.int .i64 f.res) (.int .i64 f.slots) (.slice a3 f.objs.length c3) (.slice a4 f.code.length c4)) :
    Calls Try.prog 66 #[.agg #[.slice ag p.glob.length cg, .slice az p.shapes.length cs, .slice af p.funcs.length cf, .slice a0 f.args.length c0, .int .i64 f.res, .int .i64 f.slots, .slice a3 f.objs.length c3, .slice a4 f.code.length c4, .int .i64 io, .int .i64 ia, .int .i64 ib, .int .i64 ic]] w fun e w' => e = .returned (.bool s) ∧ Below w.heap.size w w' := by
  obtain rfl := hs.out
  clear hs
  obtain ⟨wa, hwa⟩ : ∃ wa, w.alloc (.cells #[.slice ag p.glob.length cg, .slice az p.shapes.length cs, .slice af p.funcs.length cf, .slice a0 f.args.length c0, .int .i64 f.res, .int .i64 f.slots, .slice a3 f.objs.length c3, .slice a4 f.code.length c4, .int .i64 io, .int .i64 ia, .int .i64 ib, .int .i64 ic] 83) = wa := ⟨_, rfl⟩
  have HT : Hid (OnS w wa w.heap.size p f io ia ib ic ag az af cg cs cf a0 a3 a4 c0 c3 c4) := onS_start p f io ia ib ic ag az af cg cs cf a0 a3 a4 c0 c3 c4 hwa hp hf
  obtain ⟨d0, d1, d2, d3, d4, d5, d6, d7, d8, d9, d10, d11⟩ := HT.out.box.c
  clear hp hf
  by_cases h22 : io = 22
  · subst h22
    obtain ⟨r, hr⟩ : ∃ r, Hid ((f.res != 0) = r) := ⟨_, rfl⟩
    have HR : Hid (resl p f ⟨22, ia, ib, ic⟩ = !r) := by unfold Hid resl; rw [if_pos rfl, ← hr.out, not_ne]
    rw [HR.out]
    clear HR
    go_enter Try.func66, Try.ntmps66
    go_wp2_with fail
    refine (hasRes_any f a0 a3 a4 c0 c3 c4 hr _).mono ?_
    rintro e w' ⟨rfl, hb⟩
    have HB : Hid (Below w.heap.size w w') := HT.out.low.trans (hb.mono HT.out.low.size)
    clear hb
    go_wp2_with fail
    go_ret
    exact ⟨rfl, HB.out⟩
  · by_cases h21 : io = 21
    · subst h21
      clear h22
      cases hfn : fnAt p ib with
      | none =>
        have HR : Hid (resl p f ⟨21, ia, ib, ic⟩ = false) := resl_none hfn
        rw [HR.out]
        have HF : Hid (fnAt p ib = none) := hfn
        clear HR hfn
        go_enter Try.func66, Try.ntmps66
        go_wp2_with fail
        refine (function_none p ag az af cg cs cf HF _).mono ?_
        rintro e w' ⟨rfl, hb⟩
        have HB : Hid (Below w.heap.size w (w'.alloc (.cells #[.slice none 0 0, .int .i64 0, .int .i64 0, .slice none 0 0, .slice none 0 0] 41))) := (HT.out.low.trans (hb.mono HT.out.low.size)).alloc (Nat.le_trans HT.out.low.size hb.size) _
        clear hb
        go_wp2_with fail
        go_ret
        exact ⟨rfl, HB.out⟩
      | some g =>
        obtain ⟨r, hr⟩ : ∃ r, Hid ((g.res != 0) = r) := ⟨_, rfl⟩
        have HR : Hid (resl p f ⟨21, ia, ib, ic⟩ = !r) := by
          unfold Hid
          rw [resl_call hfn, ← hr.out, not_ne]
        rw [HR.out]
        have HF : Hid (fnAt p ib = some g) := hfn
        clear HR hfn
        go_enter Try.func66, Try.ntmps66
        go_wp2_with fail
        refine (function_some p ag az af cg cs cf HF _ HT.out.pp).mono ?_
        rintro e w1 ⟨b0, b3, b4, e0, e3, e4, rfl, _, hb⟩
        have HB : Hid (Below w.heap.size w (w1.alloc (.cells #[.slice b0 g.args.length e0, .int .i64 g.res, .int .i64 g.slots, .slice b3 g.objs.length e3, .slice b4 g.code.length e4] 41))) := (HT.out.low.trans (hb.mono HT.out.low.size)).alloc (Nat.le_trans HT.out.low.size hb.size) _
        clear hb d0 d1 d2 d3 d4 d5 d6 d7 d8 d9 d10 d11
        go_wp2_with fail
        refine (hasRes_any g b0 b3 b4 e0 e3 e4 hr _).mono ?_
        rintro e w' ⟨rfl, hb⟩
        have HB2 : Hid (Below w.heap.size w w') := HB.out.trans (hb.mono HB.out.size)
        clear hb
        go_wp2_with fail
        go_ret
        exact ⟨rfl, HB2.out⟩
    · have HR : Hid (resl p f ⟨io, ia, ib, ic⟩ = false) := by unfold Hid resl; rw [if_neg h22, if_neg h21]
      rw [HR.out]
      have e1 : (io == 22) = false := by simpa using h22
      have e2 : (io == 21) = false := by simpa using h21
      clear HR h22 h21
      go_enter Try.func66, Try.ntmps66
      go_wp2_with fail
      go_ret
      exact ⟨rfl, HT.out.low⟩

end Go.Proofs.Ytmjappcjfjajmaa

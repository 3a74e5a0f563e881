/- What more a program of a form that may be has; slices.Clone of ints; the walks of flow's kindSet, settings. -/
import Derived.Test.YtmjappcjfjajmaaFlE
import Derived.Lib.SliceRun
namespace Go.Proofs.Ytmjappcjfjajmaa
open Go.RowKit

theorem head_of {p : Pg} (h : (progE p).1 = 0) : ∀ f ∈ p.funcs, headE p f = 0 := by
  unfold progE at h
  by_cases h0 : topE p = 0
  · rw [if_pos h0] at h
    cases hb : badAt (fun k => (funE p (k : Int)).1) p.funcs.length with
    | some k => exact absurd (by simpa [hb] using h) (bad_is hb).2.2
    | none =>
      intro f hf
      obtain ⟨j, hj⟩ := List.mem_iff_getElem?.1 hf
      have hq := bad_all hb j (List.getElem?_eq_some_iff.1 hj).1
      unfold funE at hq
      rw [fnAt_nat hj] at hq
      simp only at hq
      by_cases hh : headE p f = 0
      · exact hh
      · rw [if_neg hh] at hq
        exact absurd hq hh
  · rw [if_neg h0] at h
    exact absurd h h0
/-- A function of a program of a form that may be: what it has of numbers. -/
structure OkF (p : Pg) (f : Fn) : Prop where
  n16 : p.shapes.length ≤ 16
  objs : ∀ x ∈ f.objs, 0 ≤ x ∧ x < 16
  lim : limB f = true
  res : ∀ g ∈ p.funcs, g.res = 0 ∨ (0 ≤ g.res ∧ g.res ≤ 1000)
theorem okF_of {p : Pg} (h : (progE p).1 = 0) {f : Fn} (hf : f ∈ p.funcs) : OkF p f := by
  have hp := ok_of h
  refine ⟨hp.n16, fun x hx => ?_, hp.lim f hf, fun g hg => ?_⟩
  · have hh := head_of h f hf
    unfold headE at hh
    split at hh
    · split at hh
      · split at hh
        · split at hh
          · rename_i h4
            have := inB_iff.1 (List.all_eq_true.1 h4 x hx)
            have := hp.n16
            omega
          · cases hh
        · cases hh
      · cases hh
    · cases hh
  · have hh := head_of h g hg
    unfold headE at hh
    split at hh
    · split at hh
      · split at hh
        · rename_i h3
          rcases h3 with h3 | h3
          · exact Or.inl h3
          · right
            unfold fldB at h3
            have h4 := of_decide_eq_true h3
            have := hp.n16
            omega
        · cases hh
      · cases hh
    · cases hh

/-- Ints in a row of its own. -/
def OwnK (w : World) (base : Nat) (v : Value) (L : List Int) : Prop := w.ownsRow base 3 1 v L.length (L.map (Value.int .i64))
theorem OwnK.src {w : World} {base : Nat} {v : Value} {L : List Int} (h : OwnK w base v L) : SrcAt w v L := src_of_own h
theorem OwnK.cap {w : World} {base : Nat} {a : Option Addr} {n c : Nat} {L : List Int} (h : OwnK w base (.slice a n c) L) : L.length ≤ c := by
  rcases h.2 with ⟨h', h0⟩ | ⟨g', cap', cur, h', _, _, hc, _⟩
  · omega
  · cases h'; exact hc

/-- A new row of nothing. -/
theorem own_none (w : World) (e : TypeId) (k : Nat) (base : Nat) (hb : base ≤ w.heap.size) : (w.alloc (.cells #[] e)).ownsRow base e k (.slice (some ⟨w.heap.size, 0, none⟩) 0 0) 0 [] := by
  refine ⟨by simp, Or.inr ⟨w.heap.size, 0, #[], rfl, hb, ?_, Nat.le_refl _, by unfold maxLen; omega, by simp, by simp⟩⟩
  show (w.heap.push _)[w.heap.size]? = _
  simp

set_option maxRecDepth 100000 in
set_option maxHeartbeats 1000000 in
theorem cloneK_any (L : List Int) (v : Value) (w : World) (hl : L.length ≤ 3000) (h : SrcAt w v L) :
    Calls Try.prog 37 #[v] w fun e w' => ∃ v', e = .returned v' ∧ OwnK w' w.heap.size v' L ∧ Below w.heap.size w w' := by
  obtain ⟨i0, hi, hz0, hz1, hz2⟩ := info_parts Try.info3
  have hO : Hid ((w.alloc (.cells #[] 3)).ownsRow w.heap.size 3 1 (.slice (some ⟨w.heap.size, 0, none⟩) 0 0) 0 []) := own_none w 3 1 w.heap.size (Nat.le_refl _)
  have hA : Hid (Below w.heap.size w (w.alloc (.cells #[] 3))) := (Below.refl _ _).alloc (Nat.le_refl _) _
  have hnil : ∀ (w : World) (a : Option Addr) (n c : Nat), (binOp .eql 22 (.slice a n c) (.slice none 0 0)).run Try.prog w = .ok (.bool a.isNone) w := fun w a n c => Lib.run_eql_slice_nil w _ _ a n c 0 0 Try.underlying22
  rcases h with ⟨rfl, rfl | ⟨ad, c, rfl⟩⟩ | ⟨b, off, c, rfl, h2, h3⟩
  · go_enter Try.func37, Try.ntmps37
    go_wp2_with fail
    go_ret
    exact ⟨_, rfl, World.ownsRow_nil _ _ _ _, Below.refl _ _⟩
  · go_enter Try.func37, Try.ntmps37
    go_wp2_with (at_builtin; refine wpList_append_own _ rfl _ _ 22 rfl w.heap.size 3 i0 (.int .i64 0) 1 8 Try.underlying22 hi hz0 hz1 hz2 rfl (by decide) _ _ _ rfl hO.out ad 0 c [] rfl rfl ?c1 ?c2 ?c3 ?c4 ?c5 ?_)
    case c1 => intro j u hj; simp at hj
    case c2 => intro u hu; simp at hu
    case c3 => unfold maxLen; omega
    case c4 => omega
    case c5 => simp
    · intro v' w1 hown' hgrow _
      obtain ⟨a5, c5, rfl⟩ := own_len hown'
      have HB : Hid (Below w.heap.size w w1) := hA.out.grown hgrow (by simp) (fun k hk => (hO.out.lt k hk).1)
      clear hgrow
      go_wp2_with fail
      go_ret
      exact ⟨_, rfl, by unfold OwnK; simpa using hown', HB.out⟩
  · have hn := ints_cells (h3)
    have HN : Hid (∀ j u, (L.map (Value.int .i64))[j]? = some u → (w.alloc (.cells #[] 3)).cell? ((⟨b, off, none⟩ : Addr).add j) = some u) := fun j u hj => by
      have := hn j u hj
      rw [Go.WideShapes.add_plain] at this ⊢
      rw [cell_old h2]
      exact this
    clear hn
    go_enter Try.func37, Try.ntmps37
    go_wp2_with (at_builtin; refine wpList_append_own _ rfl _ _ 22 rfl w.heap.size 3 i0 (.int .i64 0) 1 8 Try.underlying22 hi hz0 hz1 hz2 rfl (by decide) _ _ _ rfl hO.out ⟨b, off, none⟩ L.length c (L.map (Value.int .i64)) rfl (by simp) HN.out (ints_one L) ?c3 ?c4 ?c5 ?_)
    case c3 => unfold maxLen; omega
    case c4 => omega
    case c5 => simp
    · intro v' w1 hown' hgrow _
      obtain ⟨a5, c5, rfl⟩ := own_len hown'
      have HB : Hid (Below w.heap.size w w1) := hA.out.grown hgrow (by simp) (fun k hk => (hO.out.lt k hk).1)
      have HO1 : Hid (OwnK w1 w.heap.size (.slice a5 L.length c5) L) := by
        unfold Hid OwnK
        simpa using hown'
      clear hgrow hown'
      go_wp2_with fail
      go_ret
      exact ⟨_, rfl, HO1.out, HB.out⟩


set_option maxRecDepth 100000 in
set_option maxHeartbeats 4000000 in
theorem ks_1 (p : Pg) (f : Fn) (io ia ib ic : Int) (ag az af : Option Addr) (cg cs cf : Nat) (a0 a3 a4 : Option Addr) (c0 c3 c4 : Nat) (K : List Int) (ak : Option Addr) (ck : Nat) {v : Int} (ho : io = 1) (hs : Hid (stA p f ⟨io, ia, ib, ic⟩ K = some v)) (hi : Hid (OkI p f ⟨io, ia, ib, ic⟩)) (_hF : Hid (OkF p f)) (_hK : Hid ((K.length : Int) = f.slots ∧ K.length ≤ ck ∧ K.length ≤ 3000)) (w : World) (hp : PgV Any w (.slice ag p.glob.length cg) (.slice az p.shapes.length cs) (.slice af p.funcs.length cf) p) (hf : FnC Any w f (.slice a0 f.args.length c0) (.int .i64 f.res) (.int .i64 f.slots) (.slice a3 f.objs.length c3) (.slice a4 f.code.length c4)) (hk : SrcP Any w (.slice ak K.length ck) K) :
    Calls Try.prog 77 #[.agg #[.slice ag p.glob.length cg, .slice az p.shapes.length cs, .slice af p.funcs.length cf, .slice a0 f.args.length c0, .int .i64 f.res, .int .i64 f.slots, .slice a3 f.objs.length c3, .slice a4 f.code.length c4, .int .i64 io, .int .i64 ia, .int .i64 ib, .int .i64 ic, .slice ak K.length ck]] w fun e w' => e = .returned (.int .i64 v) ∧ Below w.heap.size w w' := by
  subst ho
  obtain ⟨wa, hwa⟩ : ∃ wa, w.alloc (.cells #[.slice ag p.glob.length cg, .slice az p.shapes.length cs, .slice af p.funcs.length cf, .slice a0 f.args.length c0, .int .i64 f.res, .int .i64 f.slots, .slice a3 f.objs.length c3, .slice a4 f.code.length c4, .int .i64 1, .int .i64 ia, .int .i64 ib, .int .i64 ic, .slice ak K.length ck] 66) = wa := ⟨_, rfl⟩
  have HT : Hid (OnT w wa w.heap.size p f 1 ia ib ic ag az af cg cs cf a0 a3 a4 c0 c3 c4 K ak ck) := onT_start p f 1 ia ib ic ag az af cg cs cf a0 a3 a4 c0 c3 c4 K ak ck hwa hp hf hk
  have HB : Hid (Below w.heap.size w (wa.alloc (.cells #[.int .i64 1, .int .i64 ia, .int .i64 ib, .int .i64 ic] 47)) ∧ OnT w (wa.alloc (.cells #[.int .i64 1, .int .i64 ia, .int .i64 ib, .int .i64 ic] 47)) w.heap.size p f 1 ia ib ic ag az af cg cs cf a0 a3 a4 c0 c3 c4 K ak ck) := ⟨HT.out.low.alloc HT.out.low.size _, HT.out.below ((Below.refl _ _).alloc (Nat.le_refl _) _)⟩
  have HI : Hid ((wa.alloc (.cells #[.int .i64 1, .int .i64 ia, .int .i64 ib, .int .i64 ic] 47)).cell? ⟨wa.heap.size, 0, none⟩ = some (.int .i64 1) ∧ (wa.alloc (.cells #[.int .i64 1, .int .i64 ia, .int .i64 ib, .int .i64 ic] 47)).cell? ⟨wa.heap.size, 1, none⟩ = some (.int .i64 ia) ∧
      (wa.alloc (.cells #[.int .i64 1, .int .i64 ia, .int .i64 ib, .int .i64 ic] 47)).cell? ⟨wa.heap.size, 2, none⟩ = some (.int .i64 ib) ∧ (wa.alloc (.cells #[.int .i64 1, .int .i64 ia, .int .i64 ib, .int .i64 ic] 47)).cell? ⟨wa.heap.size, 3, none⟩ = some (.int .i64 ic)) := ⟨cell_new wa _ _ rfl, cell_new wa _ _ rfl, cell_new wa _ _ rfl, cell_new wa _ _ rfl⟩
  obtain ⟨d0, d1, d2, d3, d4, d5, d6, d7, d8, d9, d10, d11⟩ := HT.out.box.c
  have d12 := HT.out.k12
  have hpl := plac_and hi.out
  clear hp hf hk
  go_enter Try.func77, Try.ntmps77
  go_upto_region 2 with (fail)
  clear d0 d1 d2 d3 d4 d5 d6 d7 d8 d9 d10 d11 d12 HT hwa
  generalize wa.alloc (.cells #[.int .i64 1, .int .i64 ia, .int .i64 ib, .int .i64 ic] 47) = wb at *
  generalize wa.heap.size = gi at *
  clear wa
  obtain ⟨i0, i1, i2, i3⟩ := HI.out
  obtain ⟨d0, d1, d2, d3, d4, d5, d6, d7, d8, d9, d10, d11⟩ := HB.out.2.box.c
  have d12 := HB.out.2.k12
  have HS : Hid (1 = v) := Option.some.inj hs.out
  clear hs hpl
  go_wp2_with fail
  go_ret
  exact ⟨ret_int HS.out, HB.out.1⟩

set_option maxRecDepth 100000 in
set_option maxHeartbeats 4000000 in
theorem ks_3 (p : Pg) (f : Fn) (io ia ib ic : Int) (ag az af : Option Addr) (cg cs cf : Nat) (a0 a3 a4 : Option Addr) (c0 c3 c4 : Nat) (K : List Int) (ak : Option Addr) (ck : Nat) {v : Int} (ho : io = 3) (hs : Hid (stA p f ⟨io, ia, ib, ic⟩ K = some v)) (hi : Hid (OkI p f ⟨io, ia, ib, ic⟩)) (_hF : Hid (OkF p f)) (_hK : Hid ((K.length : Int) = f.slots ∧ K.length ≤ ck ∧ K.length ≤ 3000)) (w : World) (hp : PgV Any w (.slice ag p.glob.length cg) (.slice az p.shapes.length cs) (.slice af p.funcs.length cf) p) (hf : FnC Any w f (.slice a0 f.args.length c0) (.int .i64 f.res) (.int .i64 f.slots) (.slice a3 f.objs.length c3) (.slice a4 f.code.length c4)) (hk : SrcP Any w (.slice ak K.length ck) K) :
    Calls Try.prog 77 #[.agg #[.slice ag p.glob.length cg, .slice az p.shapes.length cs, .slice af p.funcs.length cf, .slice a0 f.args.length c0, .int .i64 f.res, .int .i64 f.slots, .slice a3 f.objs.length c3, .slice a4 f.code.length c4, .int .i64 io, .int .i64 ia, .int .i64 ib, .int .i64 ic, .slice ak K.length ck]] w fun e w' => e = .returned (.int .i64 v) ∧ Below w.heap.size w w' := by
  subst ho
  obtain ⟨wa, hwa⟩ : ∃ wa, w.alloc (.cells #[.slice ag p.glob.length cg, .slice az p.shapes.length cs, .slice af p.funcs.length cf, .slice a0 f.args.length c0, .int .i64 f.res, .int .i64 f.slots, .slice a3 f.objs.length c3, .slice a4 f.code.length c4, .int .i64 3, .int .i64 ia, .int .i64 ib, .int .i64 ic, .slice ak K.length ck] 66) = wa := ⟨_, rfl⟩
  have HT : Hid (OnT w wa w.heap.size p f 3 ia ib ic ag az af cg cs cf a0 a3 a4 c0 c3 c4 K ak ck) := onT_start p f 3 ia ib ic ag az af cg cs cf a0 a3 a4 c0 c3 c4 K ak ck hwa hp hf hk
  have HB : Hid (Below w.heap.size w (wa.alloc (.cells #[.int .i64 3, .int .i64 ia, .int .i64 ib, .int .i64 ic] 47)) ∧ OnT w (wa.alloc (.cells #[.int .i64 3, .int .i64 ia, .int .i64 ib, .int .i64 ic] 47)) w.heap.size p f 3 ia ib ic ag az af cg cs cf a0 a3 a4 c0 c3 c4 K ak ck) := ⟨HT.out.low.alloc HT.out.low.size _, HT.out.below ((Below.refl _ _).alloc (Nat.le_refl _) _)⟩
  have HI : Hid ((wa.alloc (.cells #[.int .i64 3, .int .i64 ia, .int .i64 ib, .int .i64 ic] 47)).cell? ⟨wa.heap.size, 0, none⟩ = some (.int .i64 3) ∧ (wa.alloc (.cells #[.int .i64 3, .int .i64 ia, .int .i64 ib, .int .i64 ic] 47)).cell? ⟨wa.heap.size, 1, none⟩ = some (.int .i64 ia) ∧
      (wa.alloc (.cells #[.int .i64 3, .int .i64 ia, .int .i64 ib, .int .i64 ic] 47)).cell? ⟨wa.heap.size, 2, none⟩ = some (.int .i64 ib) ∧ (wa.alloc (.cells #[.int .i64 3, .int .i64 ia, .int .i64 ib, .int .i64 ic] 47)).cell? ⟨wa.heap.size, 3, none⟩ = some (.int .i64 ic)) := ⟨cell_new wa _ _ rfl, cell_new wa _ _ rfl, cell_new wa _ _ rfl, cell_new wa _ _ rfl⟩
  obtain ⟨d0, d1, d2, d3, d4, d5, d6, d7, d8, d9, d10, d11⟩ := HT.out.box.c
  have d12 := HT.out.k12
  have hpl := plac_and hi.out
  clear hp hf hk
  go_enter Try.func77, Try.ntmps77
  go_upto_region 2 with (fail)
  clear d0 d1 d2 d3 d4 d5 d6 d7 d8 d9 d10 d11 d12 HT hwa
  generalize wa.alloc (.cells #[.int .i64 3, .int .i64 ia, .int .i64 ib, .int .i64 ic] 47) = wb at *
  generalize wa.heap.size = gi at *
  clear wa
  obtain ⟨i0, i1, i2, i3⟩ := HI.out
  obtain ⟨d0, d1, d2, d3, d4, d5, d6, d7, d8, d9, d10, d11⟩ := HB.out.2.box.c
  have d12 := HB.out.2.k12
  have HS : Hid (1 = v) := Option.some.inj hs.out
  clear hs hpl
  go_wp2_with fail
  go_ret
  exact ⟨ret_int HS.out, HB.out.1⟩

set_option maxRecDepth 100000 in
set_option maxHeartbeats 4000000 in
theorem ks_4 (p : Pg) (f : Fn) (io ia ib ic : Int) (ag az af : Option Addr) (cg cs cf : Nat) (a0 a3 a4 : Option Addr) (c0 c3 c4 : Nat) (K : List Int) (ak : Option Addr) (ck : Nat) {v : Int} (ho : io = 4) (hs : Hid (stA p f ⟨io, ia, ib, ic⟩ K = some v)) (hi : Hid (OkI p f ⟨io, ia, ib, ic⟩)) (_hF : Hid (OkF p f)) (_hK : Hid ((K.length : Int) = f.slots ∧ K.length ≤ ck ∧ K.length ≤ 3000)) (w : World) (hp : PgV Any w (.slice ag p.glob.length cg) (.slice az p.shapes.length cs) (.slice af p.funcs.length cf) p) (hf : FnC Any w f (.slice a0 f.args.length c0) (.int .i64 f.res) (.int .i64 f.slots) (.slice a3 f.objs.length c3) (.slice a4 f.code.length c4)) (hk : SrcP Any w (.slice ak K.length ck) K) :
    Calls Try.prog 77 #[.agg #[.slice ag p.glob.length cg, .slice az p.shapes.length cs, .slice af p.funcs.length cf, .slice a0 f.args.length c0, .int .i64 f.res, .int .i64 f.slots, .slice a3 f.objs.length c3, .slice a4 f.code.length c4, .int .i64 io, .int .i64 ia, .int .i64 ib, .int .i64 ic, .slice ak K.length ck]] w fun e w' => e = .returned (.int .i64 v) ∧ Below w.heap.size w w' := by
  subst ho
  obtain ⟨wa, hwa⟩ : ∃ wa, w.alloc (.cells #[.slice ag p.glob.length cg, .slice az p.shapes.length cs, .slice af p.funcs.length cf, .slice a0 f.args.length c0, .int .i64 f.res, .int .i64 f.slots, .slice a3 f.objs.length c3, .slice a4 f.code.length c4, .int .i64 4, .int .i64 ia, .int .i64 ib, .int .i64 ic, .slice ak K.length ck] 66) = wa := ⟨_, rfl⟩
  have HT : Hid (OnT w wa w.heap.size p f 4 ia ib ic ag az af cg cs cf a0 a3 a4 c0 c3 c4 K ak ck) := onT_start p f 4 ia ib ic ag az af cg cs cf a0 a3 a4 c0 c3 c4 K ak ck hwa hp hf hk
  have HB : Hid (Below w.heap.size w (wa.alloc (.cells #[.int .i64 4, .int .i64 ia, .int .i64 ib, .int .i64 ic] 47)) ∧ OnT w (wa.alloc (.cells #[.int .i64 4, .int .i64 ia, .int .i64 ib, .int .i64 ic] 47)) w.heap.size p f 4 ia ib ic ag az af cg cs cf a0 a3 a4 c0 c3 c4 K ak ck) := ⟨HT.out.low.alloc HT.out.low.size _, HT.out.below ((Below.refl _ _).alloc (Nat.le_refl _) _)⟩
  have HI : Hid ((wa.alloc (.cells #[.int .i64 4, .int .i64 ia, .int .i64 ib, .int .i64 ic] 47)).cell? ⟨wa.heap.size, 0, none⟩ = some (.int .i64 4) ∧ (wa.alloc (.cells #[.int .i64 4, .int .i64 ia, .int .i64 ib, .int .i64 ic] 47)).cell? ⟨wa.heap.size, 1, none⟩ = some (.int .i64 ia) ∧
      (wa.alloc (.cells #[.int .i64 4, .int .i64 ia, .int .i64 ib, .int .i64 ic] 47)).cell? ⟨wa.heap.size, 2, none⟩ = some (.int .i64 ib) ∧ (wa.alloc (.cells #[.int .i64 4, .int .i64 ia, .int .i64 ib, .int .i64 ic] 47)).cell? ⟨wa.heap.size, 3, none⟩ = some (.int .i64 ic)) := ⟨cell_new wa _ _ rfl, cell_new wa _ _ rfl, cell_new wa _ _ rfl, cell_new wa _ _ rfl⟩
  obtain ⟨d0, d1, d2, d3, d4, d5, d6, d7, d8, d9, d10, d11⟩ := HT.out.box.c
  have d12 := HT.out.k12
  have hpl := plac_and hi.out
  clear hp hf hk
  go_enter Try.func77, Try.ntmps77
  go_upto_region 2 with (fail)
  clear d0 d1 d2 d3 d4 d5 d6 d7 d8 d9 d10 d11 d12 HT hwa
  generalize wa.alloc (.cells #[.int .i64 4, .int .i64 ia, .int .i64 ib, .int .i64 ic] 47) = wb at *
  generalize wa.heap.size = gi at *
  clear wa
  obtain ⟨i0, i1, i2, i3⟩ := HI.out
  obtain ⟨d0, d1, d2, d3, d4, d5, d6, d7, d8, d9, d10, d11⟩ := HB.out.2.box.c
  have d12 := HB.out.2.k12
  have HS : Hid (1 = v) := Option.some.inj hs.out
  clear hs hpl
  go_wp2_with fail
  go_ret
  exact ⟨ret_int HS.out, HB.out.1⟩

set_option maxRecDepth 100000 in
set_option maxHeartbeats 4000000 in
theorem ks_5 (p : Pg) (f : Fn) (io ia ib ic : Int) (ag az af : Option Addr) (cg cs cf : Nat) (a0 a3 a4 : Option Addr) (c0 c3 c4 : Nat) (K : List Int) (ak : Option Addr) (ck : Nat) {v : Int} (ho : io = 5) (hs : Hid (stA p f ⟨io, ia, ib, ic⟩ K = some v)) (hi : Hid (OkI p f ⟨io, ia, ib, ic⟩)) (_hF : Hid (OkF p f)) (_hK : Hid ((K.length : Int) = f.slots ∧ K.length ≤ ck ∧ K.length ≤ 3000)) (w : World) (hp : PgV Any w (.slice ag p.glob.length cg) (.slice az p.shapes.length cs) (.slice af p.funcs.length cf) p) (hf : FnC Any w f (.slice a0 f.args.length c0) (.int .i64 f.res) (.int .i64 f.slots) (.slice a3 f.objs.length c3) (.slice a4 f.code.length c4)) (hk : SrcP Any w (.slice ak K.length ck) K) :
    Calls Try.prog 77 #[.agg #[.slice ag p.glob.length cg, .slice az p.shapes.length cs, .slice af p.funcs.length cf, .slice a0 f.args.length c0, .int .i64 f.res, .int .i64 f.slots, .slice a3 f.objs.length c3, .slice a4 f.code.length c4, .int .i64 io, .int .i64 ia, .int .i64 ib, .int .i64 ic, .slice ak K.length ck]] w fun e w' => e = .returned (.int .i64 v) ∧ Below w.heap.size w w' := by
  subst ho
  obtain ⟨wa, hwa⟩ : ∃ wa, w.alloc (.cells #[.slice ag p.glob.length cg, .slice az p.shapes.length cs, .slice af p.funcs.length cf, .slice a0 f.args.length c0, .int .i64 f.res, .int .i64 f.slots, .slice a3 f.objs.length c3, .slice a4 f.code.length c4, .int .i64 5, .int .i64 ia, .int .i64 ib, .int .i64 ic, .slice ak K.length ck] 66) = wa := ⟨_, rfl⟩
  have HT : Hid (OnT w wa w.heap.size p f 5 ia ib ic ag az af cg cs cf a0 a3 a4 c0 c3 c4 K ak ck) := onT_start p f 5 ia ib ic ag az af cg cs cf a0 a3 a4 c0 c3 c4 K ak ck hwa hp hf hk
  have HB : Hid (Below w.heap.size w (wa.alloc (.cells #[.int .i64 5, .int .i64 ia, .int .i64 ib, .int .i64 ic] 47)) ∧ OnT w (wa.alloc (.cells #[.int .i64 5, .int .i64 ia, .int .i64 ib, .int .i64 ic] 47)) w.heap.size p f 5 ia ib ic ag az af cg cs cf a0 a3 a4 c0 c3 c4 K ak ck) := ⟨HT.out.low.alloc HT.out.low.size _, HT.out.below ((Below.refl _ _).alloc (Nat.le_refl _) _)⟩
  have HI : Hid ((wa.alloc (.cells #[.int .i64 5, .int .i64 ia, .int .i64 ib, .int .i64 ic] 47)).cell? ⟨wa.heap.size, 0, none⟩ = some (.int .i64 5) ∧ (wa.alloc (.cells #[.int .i64 5, .int .i64 ia, .int .i64 ib, .int .i64 ic] 47)).cell? ⟨wa.heap.size, 1, none⟩ = some (.int .i64 ia) ∧
      (wa.alloc (.cells #[.int .i64 5, .int .i64 ia, .int .i64 ib, .int .i64 ic] 47)).cell? ⟨wa.heap.size, 2, none⟩ = some (.int .i64 ib) ∧ (wa.alloc (.cells #[.int .i64 5, .int .i64 ia, .int .i64 ib, .int .i64 ic] 47)).cell? ⟨wa.heap.size, 3, none⟩ = some (.int .i64 ic)) := ⟨cell_new wa _ _ rfl, cell_new wa _ _ rfl, cell_new wa _ _ rfl, cell_new wa _ _ rfl⟩
  obtain ⟨d0, d1, d2, d3, d4, d5, d6, d7, d8, d9, d10, d11⟩ := HT.out.box.c
  have d12 := HT.out.k12
  have hpl := plac_and hi.out
  clear hp hf hk
  go_enter Try.func77, Try.ntmps77
  go_upto_region 2 with (fail)
  clear d0 d1 d2 d3 d4 d5 d6 d7 d8 d9 d10 d11 d12 HT hwa
  generalize wa.alloc (.cells #[.int .i64 5, .int .i64 ia, .int .i64 ib, .int .i64 ic] 47) = wb at *
  generalize wa.heap.size = gi at *
  clear wa
  obtain ⟨i0, i1, i2, i3⟩ := HI.out
  obtain ⟨d0, d1, d2, d3, d4, d5, d6, d7, d8, d9, d10, d11⟩ := HB.out.2.box.c
  have d12 := HB.out.2.k12
  have HS : Hid (1 = v) := Option.some.inj hs.out
  clear hs hpl
  go_wp2_with fail
  go_ret
  exact ⟨ret_int HS.out, HB.out.1⟩

set_option maxRecDepth 100000 in
set_option maxHeartbeats 4000000 in
theorem ks_6 (p : Pg) (f : Fn) (io ia ib ic : Int) (ag az af : Option Addr) (cg cs cf : Nat) (a0 a3 a4 : Option Addr) (c0 c3 c4 : Nat) (K : List Int) (ak : Option Addr) (ck : Nat) {v : Int} (ho : io = 6) (hs : Hid (stA p f ⟨io, ia, ib, ic⟩ K = some v)) (hi : Hid (OkI p f ⟨io, ia, ib, ic⟩)) (_hF : Hid (OkF p f)) (_hK : Hid ((K.length : Int) = f.slots ∧ K.length ≤ ck ∧ K.length ≤ 3000)) (w : World) (hp : PgV Any w (.slice ag p.glob.length cg) (.slice az p.shapes.length cs) (.slice af p.funcs.length cf) p) (hf : FnC Any w f (.slice a0 f.args.length c0) (.int .i64 f.res) (.int .i64 f.slots) (.slice a3 f.objs.length c3) (.slice a4 f.code.length c4)) (hk : SrcP Any w (.slice ak K.length ck) K) :
    Calls Try.prog 77 #[.agg #[.slice ag p.glob.length cg, .slice az p.shapes.length cs, .slice af p.funcs.length cf, .slice a0 f.args.length c0, .int .i64 f.res, .int .i64 f.slots, .slice a3 f.objs.length c3, .slice a4 f.code.length c4, .int .i64 io, .int .i64 ia, .int .i64 ib, .int .i64 ic, .slice ak K.length ck]] w fun e w' => e = .returned (.int .i64 v) ∧ Below w.heap.size w w' := by
  subst ho
  obtain ⟨wa, hwa⟩ : ∃ wa, w.alloc (.cells #[.slice ag p.glob.length cg, .slice az p.shapes.length cs, .slice af p.funcs.length cf, .slice a0 f.args.length c0, .int .i64 f.res, .int .i64 f.slots, .slice a3 f.objs.length c3, .slice a4 f.code.length c4, .int .i64 6, .int .i64 ia, .int .i64 ib, .int .i64 ic, .slice ak K.length ck] 66) = wa := ⟨_, rfl⟩
  have HT : Hid (OnT w wa w.heap.size p f 6 ia ib ic ag az af cg cs cf a0 a3 a4 c0 c3 c4 K ak ck) := onT_start p f 6 ia ib ic ag az af cg cs cf a0 a3 a4 c0 c3 c4 K ak ck hwa hp hf hk
  have HB : Hid (Below w.heap.size w (wa.alloc (.cells #[.int .i64 6, .int .i64 ia, .int .i64 ib, .int .i64 ic] 47)) ∧ OnT w (wa.alloc (.cells #[.int .i64 6, .int .i64 ia, .int .i64 ib, .int .i64 ic] 47)) w.heap.size p f 6 ia ib ic ag az af cg cs cf a0 a3 a4 c0 c3 c4 K ak ck) := ⟨HT.out.low.alloc HT.out.low.size _, HT.out.below ((Below.refl _ _).alloc (Nat.le_refl _) _)⟩
  have HI : Hid ((wa.alloc (.cells #[.int .i64 6, .int .i64 ia, .int .i64 ib, .int .i64 ic] 47)).cell? ⟨wa.heap.size, 0, none⟩ = some (.int .i64 6) ∧ (wa.alloc (.cells #[.int .i64 6, .int .i64 ia, .int .i64 ib, .int .i64 ic] 47)).cell? ⟨wa.heap.size, 1, none⟩ = some (.int .i64 ia) ∧
      (wa.alloc (.cells #[.int .i64 6, .int .i64 ia, .int .i64 ib, .int .i64 ic] 47)).cell? ⟨wa.heap.size, 2, none⟩ = some (.int .i64 ib) ∧ (wa.alloc (.cells #[.int .i64 6, .int .i64 ia, .int .i64 ib, .int .i64 ic] 47)).cell? ⟨wa.heap.size, 3, none⟩ = some (.int .i64 ic)) := ⟨cell_new wa _ _ rfl, cell_new wa _ _ rfl, cell_new wa _ _ rfl, cell_new wa _ _ rfl⟩
  obtain ⟨d0, d1, d2, d3, d4, d5, d6, d7, d8, d9, d10, d11⟩ := HT.out.box.c
  have d12 := HT.out.k12
  have hpl := plac_and hi.out
  clear hp hf hk
  go_enter Try.func77, Try.ntmps77
  go_upto_region 2 with (fail)
  clear d0 d1 d2 d3 d4 d5 d6 d7 d8 d9 d10 d11 d12 HT hwa
  generalize wa.alloc (.cells #[.int .i64 6, .int .i64 ia, .int .i64 ib, .int .i64 ic] 47) = wb at *
  generalize wa.heap.size = gi at *
  clear wa
  obtain ⟨i0, i1, i2, i3⟩ := HI.out
  obtain ⟨d0, d1, d2, d3, d4, d5, d6, d7, d8, d9, d10, d11⟩ := HB.out.2.box.c
  have d12 := HB.out.2.k12
  have HS : Hid (1 = v) := Option.some.inj hs.out
  clear hs hpl
  go_wp2_with fail
  go_ret
  exact ⟨ret_int HS.out, HB.out.1⟩

set_option maxRecDepth 100000 in
set_option maxHeartbeats 4000000 in
theorem ks_7 (p : Pg) (f : Fn) (io ia ib ic : Int) (ag az af : Option Addr) (cg cs cf : Nat) (a0 a3 a4 : Option Addr) (c0 c3 c4 : Nat) (K : List Int) (ak : Option Addr) (ck : Nat) {v : Int} (ho : io = 7) (hs : Hid (stA p f ⟨io, ia, ib, ic⟩ K = some v)) (hi : Hid (OkI p f ⟨io, ia, ib, ic⟩)) (_hF : Hid (OkF p f)) (_hK : Hid ((K.length : Int) = f.slots ∧ K.length ≤ ck ∧ K.length ≤ 3000)) (w : World) (hp : PgV Any w (.slice ag p.glob.length cg) (.slice az p.shapes.length cs) (.slice af p.funcs.length cf) p) (hf : FnC Any w f (.slice a0 f.args.length c0) (.int .i64 f.res) (.int .i64 f.slots) (.slice a3 f.objs.length c3) (.slice a4 f.code.length c4)) (hk : SrcP Any w (.slice ak K.length ck) K) :
    Calls Try.prog 77 #[.agg #[.slice ag p.glob.length cg, .slice az p.shapes.length cs, .slice af p.funcs.length cf, .slice a0 f.args.length c0, .int .i64 f.res, .int .i64 f.slots, .slice a3 f.objs.length c3, .slice a4 f.code.length c4, .int .i64 io, .int .i64 ia, .int .i64 ib, .int .i64 ic, .slice ak K.length ck]] w fun e w' => e = .returned (.int .i64 v) ∧ Below w.heap.size w w' := by
  subst ho
  obtain ⟨wa, hwa⟩ : ∃ wa, w.alloc (.cells #[.slice ag p.glob.length cg, .slice az p.shapes.length cs, .slice af p.funcs.length cf, .slice a0 f.args.length c0, .int .i64 f.res, .int .i64 f.slots, .slice a3 f.objs.length c3, .slice a4 f.code.length c4, .int .i64 7, .int .i64 ia, .int .i64 ib, .int .i64 ic, .slice ak K.length ck] 66) = wa := ⟨_, rfl⟩
  have HT : Hid (OnT w wa w.heap.size p f 7 ia ib ic ag az af cg cs cf a0 a3 a4 c0 c3 c4 K ak ck) := onT_start p f 7 ia ib ic ag az af cg cs cf a0 a3 a4 c0 c3 c4 K ak ck hwa hp hf hk
  have HB : Hid (Below w.heap.size w (wa.alloc (.cells #[.int .i64 7, .int .i64 ia, .int .i64 ib, .int .i64 ic] 47)) ∧ OnT w (wa.alloc (.cells #[.int .i64 7, .int .i64 ia, .int .i64 ib, .int .i64 ic] 47)) w.heap.size p f 7 ia ib ic ag az af cg cs cf a0 a3 a4 c0 c3 c4 K ak ck) := ⟨HT.out.low.alloc HT.out.low.size _, HT.out.below ((Below.refl _ _).alloc (Nat.le_refl _) _)⟩
  have HI : Hid ((wa.alloc (.cells #[.int .i64 7, .int .i64 ia, .int .i64 ib, .int .i64 ic] 47)).cell? ⟨wa.heap.size, 0, none⟩ = some (.int .i64 7) ∧ (wa.alloc (.cells #[.int .i64 7, .int .i64 ia, .int .i64 ib, .int .i64 ic] 47)).cell? ⟨wa.heap.size, 1, none⟩ = some (.int .i64 ia) ∧
      (wa.alloc (.cells #[.int .i64 7, .int .i64 ia, .int .i64 ib, .int .i64 ic] 47)).cell? ⟨wa.heap.size, 2, none⟩ = some (.int .i64 ib) ∧ (wa.alloc (.cells #[.int .i64 7, .int .i64 ia, .int .i64 ib, .int .i64 ic] 47)).cell? ⟨wa.heap.size, 3, none⟩ = some (.int .i64 ic)) := ⟨cell_new wa _ _ rfl, cell_new wa _ _ rfl, cell_new wa _ _ rfl, cell_new wa _ _ rfl⟩
  obtain ⟨d0, d1, d2, d3, d4, d5, d6, d7, d8, d9, d10, d11⟩ := HT.out.box.c
  have d12 := HT.out.k12
  have hpl := plac_and hi.out
  clear hp hf hk
  go_enter Try.func77, Try.ntmps77
  go_upto_region 2 with (fail)
  clear d0 d1 d2 d3 d4 d5 d6 d7 d8 d9 d10 d11 d12 HT hwa
  generalize wa.alloc (.cells #[.int .i64 7, .int .i64 ia, .int .i64 ib, .int .i64 ic] 47) = wb at *
  generalize wa.heap.size = gi at *
  clear wa
  obtain ⟨i0, i1, i2, i3⟩ := HI.out
  obtain ⟨d0, d1, d2, d3, d4, d5, d6, d7, d8, d9, d10, d11⟩ := HB.out.2.box.c
  have d12 := HB.out.2.k12
  have HS : Hid (1 = v) := Option.some.inj hs.out
  clear hs hpl
  go_wp2_with fail
  go_ret
  exact ⟨ret_int HS.out, HB.out.1⟩

set_option maxRecDepth 100000 in
set_option maxHeartbeats 4000000 in
theorem ks_8 (p : Pg) (f : Fn) (io ia ib ic : Int) (ag az af : Option Addr) (cg cs cf : Nat) (a0 a3 a4 : Option Addr) (c0 c3 c4 : Nat) (K : List Int) (ak : Option Addr) (ck : Nat) {v : Int} (ho : io = 8) (hs : Hid (stA p f ⟨io, ia, ib, ic⟩ K = some v)) (hi : Hid (OkI p f ⟨io, ia, ib, ic⟩)) (_hF : Hid (OkF p f)) (_hK : Hid ((K.length : Int) = f.slots ∧ K.length ≤ ck ∧ K.length ≤ 3000)) (w : World) (hp : PgV Any w (.slice ag p.glob.length cg) (.slice az p.shapes.length cs) (.slice af p.funcs.length cf) p) (hf : FnC Any w f (.slice a0 f.args.length c0) (.int .i64 f.res) (.int .i64 f.slots) (.slice a3 f.objs.length c3) (.slice a4 f.code.length c4)) (hk : SrcP Any w (.slice ak K.length ck) K) :
    Calls Try.prog 77 #[.agg #[.slice ag p.glob.length cg, .slice az p.shapes.length cs, .slice af p.funcs.length cf, .slice a0 f.args.length c0, .int .i64 f.res, .int .i64 f.slots, .slice a3 f.objs.length c3, .slice a4 f.code.length c4, .int .i64 io, .int .i64 ia, .int .i64 ib, .int .i64 ic, .slice ak K.length ck]] w fun e w' => e = .returned (.int .i64 v) ∧ Below w.heap.size w w' := by
  subst ho
  obtain ⟨wa, hwa⟩ : ∃ wa, w.alloc (.cells #[.slice ag p.glob.length cg, .slice az p.shapes.length cs, .slice af p.funcs.length cf, .slice a0 f.args.length c0, .int .i64 f.res, .int .i64 f.slots, .slice a3 f.objs.length c3, .slice a4 f.code.length c4, .int .i64 8, .int .i64 ia, .int .i64 ib, .int .i64 ic, .slice ak K.length ck] 66) = wa := ⟨_, rfl⟩
  have HT : Hid (OnT w wa w.heap.size p f 8 ia ib ic ag az af cg cs cf a0 a3 a4 c0 c3 c4 K ak ck) := onT_start p f 8 ia ib ic ag az af cg cs cf a0 a3 a4 c0 c3 c4 K ak ck hwa hp hf hk
  have HB : Hid (Below w.heap.size w (wa.alloc (.cells #[.int .i64 8, .int .i64 ia, .int .i64 ib, .int .i64 ic] 47)) ∧ OnT w (wa.alloc (.cells #[.int .i64 8, .int .i64 ia, .int .i64 ib, .int .i64 ic] 47)) w.heap.size p f 8 ia ib ic ag az af cg cs cf a0 a3 a4 c0 c3 c4 K ak ck) := ⟨HT.out.low.alloc HT.out.low.size _, HT.out.below ((Below.refl _ _).alloc (Nat.le_refl _) _)⟩
  have HI : Hid ((wa.alloc (.cells #[.int .i64 8, .int .i64 ia, .int .i64 ib, .int .i64 ic] 47)).cell? ⟨wa.heap.size, 0, none⟩ = some (.int .i64 8) ∧ (wa.alloc (.cells #[.int .i64 8, .int .i64 ia, .int .i64 ib, .int .i64 ic] 47)).cell? ⟨wa.heap.size, 1, none⟩ = some (.int .i64 ia) ∧
      (wa.alloc (.cells #[.int .i64 8, .int .i64 ia, .int .i64 ib, .int .i64 ic] 47)).cell? ⟨wa.heap.size, 2, none⟩ = some (.int .i64 ib) ∧ (wa.alloc (.cells #[.int .i64 8, .int .i64 ia, .int .i64 ib, .int .i64 ic] 47)).cell? ⟨wa.heap.size, 3, none⟩ = some (.int .i64 ic)) := ⟨cell_new wa _ _ rfl, cell_new wa _ _ rfl, cell_new wa _ _ rfl, cell_new wa _ _ rfl⟩
  obtain ⟨d0, d1, d2, d3, d4, d5, d6, d7, d8, d9, d10, d11⟩ := HT.out.box.c
  have d12 := HT.out.k12
  have hpl := plac_and hi.out
  clear hp hf hk
  go_enter Try.func77, Try.ntmps77
  go_upto_region 2 with (fail)
  clear d0 d1 d2 d3 d4 d5 d6 d7 d8 d9 d10 d11 d12 HT hwa
  generalize wa.alloc (.cells #[.int .i64 8, .int .i64 ia, .int .i64 ib, .int .i64 ic] 47) = wb at *
  generalize wa.heap.size = gi at *
  clear wa
  obtain ⟨i0, i1, i2, i3⟩ := HI.out
  obtain ⟨d0, d1, d2, d3, d4, d5, d6, d7, d8, d9, d10, d11⟩ := HB.out.2.box.c
  have d12 := HB.out.2.k12
  have HS : Hid (1 = v) := Option.some.inj hs.out
  clear hs hpl
  go_wp2_with fail
  go_ret
  exact ⟨ret_int HS.out, HB.out.1⟩

set_option maxRecDepth 100000 in
set_option maxHeartbeats 4000000 in
theorem ks_12 (p : Pg) (f : Fn) (io ia ib ic : Int) (ag az af : Option Addr) (cg cs cf : Nat) (a0 a3 a4 : Option Addr) (c0 c3 c4 : Nat) (K : List Int) (ak : Option Addr) (ck : Nat) {v : Int} (ho : io = 12) (hs : Hid (stA p f ⟨io, ia, ib, ic⟩ K = some v)) (hi : Hid (OkI p f ⟨io, ia, ib, ic⟩)) (_hF : Hid (OkF p f)) (_hK : Hid ((K.length : Int) = f.slots ∧ K.length ≤ ck ∧ K.length ≤ 3000)) (w : World) (hp : PgV Any w (.slice ag p.glob.length cg) (.slice az p.shapes.length cs) (.slice af p.funcs.length cf) p) (hf : FnC Any w f (.slice a0 f.args.length c0) (.int .i64 f.res) (.int .i64 f.slots) (.slice a3 f.objs.length c3) (.slice a4 f.code.length c4)) (hk : SrcP Any w (.slice ak K.length ck) K) :
    Calls Try.prog 77 #[.agg #[.slice ag p.glob.length cg, .slice az p.shapes.length cs, .slice af p.funcs.length cf, .slice a0 f.args.length c0, .int .i64 f.res, .int .i64 f.slots, .slice a3 f.objs.length c3, .slice a4 f.code.length c4, .int .i64 io, .int .i64 ia, .int .i64 ib, .int .i64 ic, .slice ak K.length ck]] w fun e w' => e = .returned (.int .i64 v) ∧ Below w.heap.size w w' := by
  subst ho
  obtain ⟨wa, hwa⟩ : ∃ wa, w.alloc (.cells #[.slice ag p.glob.length cg, .slice az p.shapes.length cs, .slice af p.funcs.length cf, .slice a0 f.args.length c0, .int .i64 f.res, .int .i64 f.slots, .slice a3 f.objs.length c3, .slice a4 f.code.length c4, .int .i64 12, .int .i64 ia, .int .i64 ib, .int .i64 ic, .slice ak K.length ck] 66) = wa := ⟨_, rfl⟩
  have HT : Hid (OnT w wa w.heap.size p f 12 ia ib ic ag az af cg cs cf a0 a3 a4 c0 c3 c4 K ak ck) := onT_start p f 12 ia ib ic ag az af cg cs cf a0 a3 a4 c0 c3 c4 K ak ck hwa hp hf hk
  have HB : Hid (Below w.heap.size w (wa.alloc (.cells #[.int .i64 12, .int .i64 ia, .int .i64 ib, .int .i64 ic] 47)) ∧ OnT w (wa.alloc (.cells #[.int .i64 12, .int .i64 ia, .int .i64 ib, .int .i64 ic] 47)) w.heap.size p f 12 ia ib ic ag az af cg cs cf a0 a3 a4 c0 c3 c4 K ak ck) := ⟨HT.out.low.alloc HT.out.low.size _, HT.out.below ((Below.refl _ _).alloc (Nat.le_refl _) _)⟩
  have HI : Hid ((wa.alloc (.cells #[.int .i64 12, .int .i64 ia, .int .i64 ib, .int .i64 ic] 47)).cell? ⟨wa.heap.size, 0, none⟩ = some (.int .i64 12) ∧ (wa.alloc (.cells #[.int .i64 12, .int .i64 ia, .int .i64 ib, .int .i64 ic] 47)).cell? ⟨wa.heap.size, 1, none⟩ = some (.int .i64 ia) ∧
      (wa.alloc (.cells #[.int .i64 12, .int .i64 ia, .int .i64 ib, .int .i64 ic] 47)).cell? ⟨wa.heap.size, 2, none⟩ = some (.int .i64 ib) ∧ (wa.alloc (.cells #[.int .i64 12, .int .i64 ia, .int .i64 ib, .int .i64 ic] 47)).cell? ⟨wa.heap.size, 3, none⟩ = some (.int .i64 ic)) := ⟨cell_new wa _ _ rfl, cell_new wa _ _ rfl, cell_new wa _ _ rfl, cell_new wa _ _ rfl⟩
  obtain ⟨d0, d1, d2, d3, d4, d5, d6, d7, d8, d9, d10, d11⟩ := HT.out.box.c
  have d12 := HT.out.k12
  have hpl := plac_and hi.out
  clear hp hf hk
  go_enter Try.func77, Try.ntmps77
  go_upto_region 2 with (fail)
  clear d0 d1 d2 d3 d4 d5 d6 d7 d8 d9 d10 d11 d12 HT hwa
  generalize wa.alloc (.cells #[.int .i64 12, .int .i64 ia, .int .i64 ib, .int .i64 ic] 47) = wb at *
  generalize wa.heap.size = gi at *
  clear wa
  obtain ⟨i0, i1, i2, i3⟩ := HI.out
  obtain ⟨d0, d1, d2, d3, d4, d5, d6, d7, d8, d9, d10, d11⟩ := HB.out.2.box.c
  have d12 := HB.out.2.k12
  have HS : Hid (1 = v) := Option.some.inj hs.out
  clear hs hpl
  go_wp2_with fail
  go_ret
  exact ⟨ret_int HS.out, HB.out.1⟩

set_option maxRecDepth 100000 in
set_option maxHeartbeats 4000000 in
theorem ks_26 (p : Pg) (f : Fn) (io ia ib ic : Int) (ag az af : Option Addr) (cg cs cf : Nat) (a0 a3 a4 : Option Addr) (c0 c3 c4 : Nat) (K : List Int) (ak : Option Addr) (ck : Nat) {v : Int} (ho : io = 26) (hs : Hid (stA p f ⟨io, ia, ib, ic⟩ K = some v)) (hi : Hid (OkI p f ⟨io, ia, ib, ic⟩)) (_hF : Hid (OkF p f)) (_hK : Hid ((K.length : Int) = f.slots ∧ K.length ≤ ck ∧ K.length ≤ 3000)) (w : World) (hp : PgV Any w (.slice ag p.glob.length cg) (.slice az p.shapes.length cs) (.slice af p.funcs.length cf) p) (hf : FnC Any w f (.slice a0 f.args.length c0) (.int .i64 f.res) (.int .i64 f.slots) (.slice a3 f.objs.length c3) (.slice a4 f.code.length c4)) (hk : SrcP Any w (.slice ak K.length ck) K) :
    Calls Try.prog 77 #[.agg #[.slice ag p.glob.length cg, .slice az p.shapes.length cs, .slice af p.funcs.length cf, .slice a0 f.args.length c0, .int .i64 f.res, .int .i64 f.slots, .slice a3 f.objs.length c3, .slice a4 f.code.length c4, .int .i64 io, .int .i64 ia, .int .i64 ib, .int .i64 ic, .slice ak K.length ck]] w fun e w' => e = .returned (.int .i64 v) ∧ Below w.heap.size w w' := by
  subst ho
  obtain ⟨wa, hwa⟩ : ∃ wa, w.alloc (.cells #[.slice ag p.glob.length cg, .slice az p.shapes.length cs, .slice af p.funcs.length cf, .slice a0 f.args.length c0, .int .i64 f.res, .int .i64 f.slots, .slice a3 f.objs.length c3, .slice a4 f.code.length c4, .int .i64 26, .int .i64 ia, .int .i64 ib, .int .i64 ic, .slice ak K.length ck] 66) = wa := ⟨_, rfl⟩
  have HT : Hid (OnT w wa w.heap.size p f 26 ia ib ic ag az af cg cs cf a0 a3 a4 c0 c3 c4 K ak ck) := onT_start p f 26 ia ib ic ag az af cg cs cf a0 a3 a4 c0 c3 c4 K ak ck hwa hp hf hk
  have HB : Hid (Below w.heap.size w (wa.alloc (.cells #[.int .i64 26, .int .i64 ia, .int .i64 ib, .int .i64 ic] 47)) ∧ OnT w (wa.alloc (.cells #[.int .i64 26, .int .i64 ia, .int .i64 ib, .int .i64 ic] 47)) w.heap.size p f 26 ia ib ic ag az af cg cs cf a0 a3 a4 c0 c3 c4 K ak ck) := ⟨HT.out.low.alloc HT.out.low.size _, HT.out.below ((Below.refl _ _).alloc (Nat.le_refl _) _)⟩
  have HI : Hid ((wa.alloc (.cells #[.int .i64 26, .int .i64 ia, .int .i64 ib, .int .i64 ic] 47)).cell? ⟨wa.heap.size, 0, none⟩ = some (.int .i64 26) ∧ (wa.alloc (.cells #[.int .i64 26, .int .i64 ia, .int .i64 ib, .int .i64 ic] 47)).cell? ⟨wa.heap.size, 1, none⟩ = some (.int .i64 ia) ∧
      (wa.alloc (.cells #[.int .i64 26, .int .i64 ia, .int .i64 ib, .int .i64 ic] 47)).cell? ⟨wa.heap.size, 2, none⟩ = some (.int .i64 ib) ∧ (wa.alloc (.cells #[.int .i64 26, .int .i64 ia, .int .i64 ib, .int .i64 ic] 47)).cell? ⟨wa.heap.size, 3, none⟩ = some (.int .i64 ic)) := ⟨cell_new wa _ _ rfl, cell_new wa _ _ rfl, cell_new wa _ _ rfl, cell_new wa _ _ rfl⟩
  obtain ⟨d0, d1, d2, d3, d4, d5, d6, d7, d8, d9, d10, d11⟩ := HT.out.box.c
  have d12 := HT.out.k12
  have hpl := plac_and hi.out
  clear hp hf hk
  go_enter Try.func77, Try.ntmps77
  go_upto_region 2 with (fail)
  clear d0 d1 d2 d3 d4 d5 d6 d7 d8 d9 d10 d11 d12 HT hwa
  generalize wa.alloc (.cells #[.int .i64 26, .int .i64 ia, .int .i64 ib, .int .i64 ic] 47) = wb at *
  generalize wa.heap.size = gi at *
  clear wa
  obtain ⟨i0, i1, i2, i3⟩ := HI.out
  obtain ⟨d0, d1, d2, d3, d4, d5, d6, d7, d8, d9, d10, d11⟩ := HB.out.2.box.c
  have d12 := HB.out.2.k12
  have HS : Hid (1 = v) := Option.some.inj hs.out
  clear hs hpl
  go_wp2_with fail
  go_ret
  exact ⟨ret_int HS.out, HB.out.1⟩

set_option maxRecDepth 100000 in
set_option maxHeartbeats 4000000 in
theorem ks_2 (p : Pg) (f : Fn) (io ia ib ic : Int) (ag az af : Option Addr) (cg cs cf : Nat) (a0 a3 a4 : Option Addr) (c0 c3 c4 : Nat) (K : List Int) (ak : Option Addr) (ck : Nat) {v : Int} (ho : io = 2) (hs : Hid (stA p f ⟨io, ia, ib, ic⟩ K = some v)) (hi : Hid (OkI p f ⟨io, ia, ib, ic⟩)) (_hF : Hid (OkF p f)) (hK : Hid ((K.length : Int) = f.slots ∧ K.length ≤ ck ∧ K.length ≤ 3000)) (w : World) (hp : PgV Any w (.slice ag p.glob.length cg) (.slice az p.shapes.length cs) (.slice af p.funcs.length cf) p) (hf : FnC Any w f (.slice a0 f.args.length c0) (.int .i64 f.res) (.int .i64 f.slots) (.slice a3 f.objs.length c3) (.slice a4 f.code.length c4)) (hk : SrcP Any w (.slice ak K.length ck) K) :
    Calls Try.prog 77 #[.agg #[.slice ag p.glob.length cg, .slice az p.shapes.length cs, .slice af p.funcs.length cf, .slice a0 f.args.length c0, .int .i64 f.res, .int .i64 f.slots, .slice a3 f.objs.length c3, .slice a4 f.code.length c4, .int .i64 io, .int .i64 ia, .int .i64 ib, .int .i64 ic, .slice ak K.length ck]] w fun e w' => e = .returned (.int .i64 v) ∧ Below w.heap.size w w' := by
  subst ho
  obtain ⟨wa, hwa⟩ : ∃ wa, w.alloc (.cells #[.slice ag p.glob.length cg, .slice az p.shapes.length cs, .slice af p.funcs.length cf, .slice a0 f.args.length c0, .int .i64 f.res, .int .i64 f.slots, .slice a3 f.objs.length c3, .slice a4 f.code.length c4, .int .i64 2, .int .i64 ia, .int .i64 ib, .int .i64 ic, .slice ak K.length ck] 66) = wa := ⟨_, rfl⟩
  have HT : Hid (OnT w wa w.heap.size p f 2 ia ib ic ag az af cg cs cf a0 a3 a4 c0 c3 c4 K ak ck) := onT_start p f 2 ia ib ic ag az af cg cs cf a0 a3 a4 c0 c3 c4 K ak ck hwa hp hf hk
  have HB : Hid (Below w.heap.size w (wa.alloc (.cells #[.int .i64 2, .int .i64 ia, .int .i64 ib, .int .i64 ic] 47)) ∧ OnT w (wa.alloc (.cells #[.int .i64 2, .int .i64 ia, .int .i64 ib, .int .i64 ic] 47)) w.heap.size p f 2 ia ib ic ag az af cg cs cf a0 a3 a4 c0 c3 c4 K ak ck) := ⟨HT.out.low.alloc HT.out.low.size _, HT.out.below ((Below.refl _ _).alloc (Nat.le_refl _) _)⟩
  have HI : Hid ((wa.alloc (.cells #[.int .i64 2, .int .i64 ia, .int .i64 ib, .int .i64 ic] 47)).cell? ⟨wa.heap.size, 0, none⟩ = some (.int .i64 2) ∧ (wa.alloc (.cells #[.int .i64 2, .int .i64 ia, .int .i64 ib, .int .i64 ic] 47)).cell? ⟨wa.heap.size, 1, none⟩ = some (.int .i64 ia) ∧
      (wa.alloc (.cells #[.int .i64 2, .int .i64 ia, .int .i64 ib, .int .i64 ic] 47)).cell? ⟨wa.heap.size, 2, none⟩ = some (.int .i64 ib) ∧ (wa.alloc (.cells #[.int .i64 2, .int .i64 ia, .int .i64 ib, .int .i64 ic] 47)).cell? ⟨wa.heap.size, 3, none⟩ = some (.int .i64 ic)) := ⟨cell_new wa _ _ rfl, cell_new wa _ _ rfl, cell_new wa _ _ rfl, cell_new wa _ _ rfl⟩
  obtain ⟨d0, d1, d2, d3, d4, d5, d6, d7, d8, d9, d10, d11⟩ := HT.out.box.c
  have d12 := HT.out.k12
  have hpl := plac_and hi.out
  clear hp hf hk
  go_enter Try.func77, Try.ntmps77
  go_upto_region 2 with (fail)
  clear d0 d1 d2 d3 d4 d5 d6 d7 d8 d9 d10 d11 d12 HT hwa
  generalize wa.alloc (.cells #[.int .i64 2, .int .i64 ia, .int .i64 ib, .int .i64 ic] 47) = wb at *
  generalize wa.heap.size = gi at *
  clear wa
  obtain ⟨i0, i1, i2, i3⟩ := HI.out
  obtain ⟨d0, d1, d2, d3, d4, d5, d6, d7, d8, d9, d10, d11⟩ := HB.out.2.box.c
  have d12 := HB.out.2.k12
  have h1 : inB ib f.slots = true := hpl.2.1
  obtain ⟨m, rfl, hm⟩ := slot_of hK.out.1 h1
  obtain ⟨b, off, rfl, kc⟩ := HB.out.2.kk.kat hm
  have hmI : (m : Int) < (K.length : Int) := by omega
  have HS : Hid (kat K (m : Int) = v) := Option.some.inj hs.out
  generalize kat K (m : Int) = k at *
  clear hs hpl h1
  go_wp2_with fail
  go_ret
  exact ⟨ret_int HS.out, HB.out.1⟩

set_option maxRecDepth 100000 in
set_option maxHeartbeats 4000000 in
theorem ks_11 (p : Pg) (f : Fn) (io ia ib ic : Int) (ag az af : Option Addr) (cg cs cf : Nat) (a0 a3 a4 : Option Addr) (c0 c3 c4 : Nat) (K : List Int) (ak : Option Addr) (ck : Nat) {v : Int} (ho : io = 11) (hs : Hid (stA p f ⟨io, ia, ib, ic⟩ K = some v)) (hi : Hid (OkI p f ⟨io, ia, ib, ic⟩)) (_hF : Hid (OkF p f)) (_hK : Hid ((K.length : Int) = f.slots ∧ K.length ≤ ck ∧ K.length ≤ 3000)) (w : World) (hp : PgV Any w (.slice ag p.glob.length cg) (.slice az p.shapes.length cs) (.slice af p.funcs.length cf) p) (hf : FnC Any w f (.slice a0 f.args.length c0) (.int .i64 f.res) (.int .i64 f.slots) (.slice a3 f.objs.length c3) (.slice a4 f.code.length c4)) (hk : SrcP Any w (.slice ak K.length ck) K) :
    Calls Try.prog 77 #[.agg #[.slice ag p.glob.length cg, .slice az p.shapes.length cs, .slice af p.funcs.length cf, .slice a0 f.args.length c0, .int .i64 f.res, .int .i64 f.slots, .slice a3 f.objs.length c3, .slice a4 f.code.length c4, .int .i64 io, .int .i64 ia, .int .i64 ib, .int .i64 ic, .slice ak K.length ck]] w fun e w' => e = .returned (.int .i64 v) ∧ Below w.heap.size w w' := by
  subst ho
  obtain ⟨wa, hwa⟩ : ∃ wa, w.alloc (.cells #[.slice ag p.glob.length cg, .slice az p.shapes.length cs, .slice af p.funcs.length cf, .slice a0 f.args.length c0, .int .i64 f.res, .int .i64 f.slots, .slice a3 f.objs.length c3, .slice a4 f.code.length c4, .int .i64 11, .int .i64 ia, .int .i64 ib, .int .i64 ic, .slice ak K.length ck] 66) = wa := ⟨_, rfl⟩
  have HT : Hid (OnT w wa w.heap.size p f 11 ia ib ic ag az af cg cs cf a0 a3 a4 c0 c3 c4 K ak ck) := onT_start p f 11 ia ib ic ag az af cg cs cf a0 a3 a4 c0 c3 c4 K ak ck hwa hp hf hk
  have HB : Hid (Below w.heap.size w (wa.alloc (.cells #[.int .i64 11, .int .i64 ia, .int .i64 ib, .int .i64 ic] 47)) ∧ OnT w (wa.alloc (.cells #[.int .i64 11, .int .i64 ia, .int .i64 ib, .int .i64 ic] 47)) w.heap.size p f 11 ia ib ic ag az af cg cs cf a0 a3 a4 c0 c3 c4 K ak ck) := ⟨HT.out.low.alloc HT.out.low.size _, HT.out.below ((Below.refl _ _).alloc (Nat.le_refl _) _)⟩
  have HI : Hid ((wa.alloc (.cells #[.int .i64 11, .int .i64 ia, .int .i64 ib, .int .i64 ic] 47)).cell? ⟨wa.heap.size, 0, none⟩ = some (.int .i64 11) ∧ (wa.alloc (.cells #[.int .i64 11, .int .i64 ia, .int .i64 ib, .int .i64 ic] 47)).cell? ⟨wa.heap.size, 1, none⟩ = some (.int .i64 ia) ∧
      (wa.alloc (.cells #[.int .i64 11, .int .i64 ia, .int .i64 ib, .int .i64 ic] 47)).cell? ⟨wa.heap.size, 2, none⟩ = some (.int .i64 ib) ∧ (wa.alloc (.cells #[.int .i64 11, .int .i64 ia, .int .i64 ib, .int .i64 ic] 47)).cell? ⟨wa.heap.size, 3, none⟩ = some (.int .i64 ic)) := ⟨cell_new wa _ _ rfl, cell_new wa _ _ rfl, cell_new wa _ _ rfl, cell_new wa _ _ rfl⟩
  obtain ⟨d0, d1, d2, d3, d4, d5, d6, d7, d8, d9, d10, d11⟩ := HT.out.box.c
  have d12 := HT.out.k12
  have hpl := plac_and hi.out
  clear hp hf hk
  go_enter Try.func77, Try.ntmps77
  go_upto_region 2 with (fail)
  clear d0 d1 d2 d3 d4 d5 d6 d7 d8 d9 d10 d11 d12 HT hwa
  generalize wa.alloc (.cells #[.int .i64 11, .int .i64 ia, .int .i64 ib, .int .i64 ic] 47) = wb at *
  generalize wa.heap.size = gi at *
  clear wa
  obtain ⟨i0, i1, i2, i3⟩ := HI.out
  obtain ⟨d0, d1, d2, d3, d4, d5, d6, d7, d8, d9, d10, d11⟩ := HB.out.2.box.c
  have d12 := HB.out.2.k12
  have h1 : inB ib p.shapes.length = true := hpl.2.1
  obtain ⟨m, rfl, hm⟩ := num_of h1
  have h16 := _hF.out.n16
  have HS : Hid (16 + (m : Int) = v) := Option.some.inj hs.out
  have hadd : IntKind.i64.wrap (16 + (m : Int)) = 16 + (m : Int) := by rw [IntKind.wrap_i64]; omega
  clear hs hpl h1
  go_wp2_with fail
  go_ret
  exact ⟨ret_int HS.out, HB.out.1⟩

set_option maxRecDepth 100000 in
set_option maxHeartbeats 4000000 in
theorem ks_13 (p : Pg) (f : Fn) (io ia ib ic : Int) (ag az af : Option Addr) (cg cs cf : Nat) (a0 a3 a4 : Option Addr) (c0 c3 c4 : Nat) (K : List Int) (ak : Option Addr) (ck : Nat) {v : Int} (ho : io = 13) (hs : Hid (stA p f ⟨io, ia, ib, ic⟩ K = some v)) (hi : Hid (OkI p f ⟨io, ia, ib, ic⟩)) (_hF : Hid (OkF p f)) (_hK : Hid ((K.length : Int) = f.slots ∧ K.length ≤ ck ∧ K.length ≤ 3000)) (w : World) (hp : PgV Any w (.slice ag p.glob.length cg) (.slice az p.shapes.length cs) (.slice af p.funcs.length cf) p) (hf : FnC Any w f (.slice a0 f.args.length c0) (.int .i64 f.res) (.int .i64 f.slots) (.slice a3 f.objs.length c3) (.slice a4 f.code.length c4)) (hk : SrcP Any w (.slice ak K.length ck) K) :
    Calls Try.prog 77 #[.agg #[.slice ag p.glob.length cg, .slice az p.shapes.length cs, .slice af p.funcs.length cf, .slice a0 f.args.length c0, .int .i64 f.res, .int .i64 f.slots, .slice a3 f.objs.length c3, .slice a4 f.code.length c4, .int .i64 io, .int .i64 ia, .int .i64 ib, .int .i64 ic, .slice ak K.length ck]] w fun e w' => e = .returned (.int .i64 v) ∧ Below w.heap.size w w' := by
  subst ho
  obtain ⟨wa, hwa⟩ : ∃ wa, w.alloc (.cells #[.slice ag p.glob.length cg, .slice az p.shapes.length cs, .slice af p.funcs.length cf, .slice a0 f.args.length c0, .int .i64 f.res, .int .i64 f.slots, .slice a3 f.objs.length c3, .slice a4 f.code.length c4, .int .i64 13, .int .i64 ia, .int .i64 ib, .int .i64 ic, .slice ak K.length ck] 66) = wa := ⟨_, rfl⟩
  have HT : Hid (OnT w wa w.heap.size p f 13 ia ib ic ag az af cg cs cf a0 a3 a4 c0 c3 c4 K ak ck) := onT_start p f 13 ia ib ic ag az af cg cs cf a0 a3 a4 c0 c3 c4 K ak ck hwa hp hf hk
  have HB : Hid (Below w.heap.size w (wa.alloc (.cells #[.int .i64 13, .int .i64 ia, .int .i64 ib, .int .i64 ic] 47)) ∧ OnT w (wa.alloc (.cells #[.int .i64 13, .int .i64 ia, .int .i64 ib, .int .i64 ic] 47)) w.heap.size p f 13 ia ib ic ag az af cg cs cf a0 a3 a4 c0 c3 c4 K ak ck) := ⟨HT.out.low.alloc HT.out.low.size _, HT.out.below ((Below.refl _ _).alloc (Nat.le_refl _) _)⟩
  have HI : Hid ((wa.alloc (.cells #[.int .i64 13, .int .i64 ia, .int .i64 ib, .int .i64 ic] 47)).cell? ⟨wa.heap.size, 0, none⟩ = some (.int .i64 13) ∧ (wa.alloc (.cells #[.int .i64 13, .int .i64 ia, .int .i64 ib, .int .i64 ic] 47)).cell? ⟨wa.heap.size, 1, none⟩ = some (.int .i64 ia) ∧
      (wa.alloc (.cells #[.int .i64 13, .int .i64 ia, .int .i64 ib, .int .i64 ic] 47)).cell? ⟨wa.heap.size, 2, none⟩ = some (.int .i64 ib) ∧ (wa.alloc (.cells #[.int .i64 13, .int .i64 ia, .int .i64 ib, .int .i64 ic] 47)).cell? ⟨wa.heap.size, 3, none⟩ = some (.int .i64 ic)) := ⟨cell_new wa _ _ rfl, cell_new wa _ _ rfl, cell_new wa _ _ rfl, cell_new wa _ _ rfl⟩
  obtain ⟨d0, d1, d2, d3, d4, d5, d6, d7, d8, d9, d10, d11⟩ := HT.out.box.c
  have d12 := HT.out.k12
  have hpl := plac_and hi.out
  clear hp hf hk
  go_enter Try.func77, Try.ntmps77
  go_upto_region 2 with (fail)
  clear d0 d1 d2 d3 d4 d5 d6 d7 d8 d9 d10 d11 d12 HT hwa
  generalize wa.alloc (.cells #[.int .i64 13, .int .i64 ia, .int .i64 ib, .int .i64 ic] 47) = wb at *
  generalize wa.heap.size = gi at *
  clear wa
  obtain ⟨i0, i1, i2, i3⟩ := HI.out
  obtain ⟨d0, d1, d2, d3, d4, d5, d6, d7, d8, d9, d10, d11⟩ := HB.out.2.box.c
  have d12 := HB.out.2.k12
  have h1 : inB ib p.shapes.length = true := hpl.2.1
  obtain ⟨m, rfl, hm⟩ := num_of h1
  have h16 := _hF.out.n16
  have HS : Hid (16 + (m : Int) = v) := Option.some.inj hs.out
  have hadd : IntKind.i64.wrap (16 + (m : Int)) = 16 + (m : Int) := by rw [IntKind.wrap_i64]; omega
  clear hs hpl h1
  go_wp2_with fail
  go_ret
  exact ⟨ret_int HS.out, HB.out.1⟩

set_option maxRecDepth 100000 in
set_option maxHeartbeats 4000000 in
theorem ks_14 (p : Pg) (f : Fn) (io ia ib ic : Int) (ag az af : Option Addr) (cg cs cf : Nat) (a0 a3 a4 : Option Addr) (c0 c3 c4 : Nat) (K : List Int) (ak : Option Addr) (ck : Nat) {v : Int} (ho : io = 14) (hs : Hid (stA p f ⟨io, ia, ib, ic⟩ K = some v)) (hi : Hid (OkI p f ⟨io, ia, ib, ic⟩)) (_hF : Hid (OkF p f)) (hK : Hid ((K.length : Int) = f.slots ∧ K.length ≤ ck ∧ K.length ≤ 3000)) (w : World) (hp : PgV Any w (.slice ag p.glob.length cg) (.slice az p.shapes.length cs) (.slice af p.funcs.length cf) p) (hf : FnC Any w f (.slice a0 f.args.length c0) (.int .i64 f.res) (.int .i64 f.slots) (.slice a3 f.objs.length c3) (.slice a4 f.code.length c4)) (hk : SrcP Any w (.slice ak K.length ck) K) :
    Calls Try.prog 77 #[.agg #[.slice ag p.glob.length cg, .slice az p.shapes.length cs, .slice af p.funcs.length cf, .slice a0 f.args.length c0, .int .i64 f.res, .int .i64 f.slots, .slice a3 f.objs.length c3, .slice a4 f.code.length c4, .int .i64 io, .int .i64 ia, .int .i64 ib, .int .i64 ic, .slice ak K.length ck]] w fun e w' => e = .returned (.int .i64 v) ∧ Below w.heap.size w w' := by
  subst ho
  obtain ⟨wa, hwa⟩ : ∃ wa, w.alloc (.cells #[.slice ag p.glob.length cg, .slice az p.shapes.length cs, .slice af p.funcs.length cf, .slice a0 f.args.length c0, .int .i64 f.res, .int .i64 f.slots, .slice a3 f.objs.length c3, .slice a4 f.code.length c4, .int .i64 14, .int .i64 ia, .int .i64 ib, .int .i64 ic, .slice ak K.length ck] 66) = wa := ⟨_, rfl⟩
  have HT : Hid (OnT w wa w.heap.size p f 14 ia ib ic ag az af cg cs cf a0 a3 a4 c0 c3 c4 K ak ck) := onT_start p f 14 ia ib ic ag az af cg cs cf a0 a3 a4 c0 c3 c4 K ak ck hwa hp hf hk
  have HB : Hid (Below w.heap.size w (wa.alloc (.cells #[.int .i64 14, .int .i64 ia, .int .i64 ib, .int .i64 ic] 47)) ∧ OnT w (wa.alloc (.cells #[.int .i64 14, .int .i64 ia, .int .i64 ib, .int .i64 ic] 47)) w.heap.size p f 14 ia ib ic ag az af cg cs cf a0 a3 a4 c0 c3 c4 K ak ck) := ⟨HT.out.low.alloc HT.out.low.size _, HT.out.below ((Below.refl _ _).alloc (Nat.le_refl _) _)⟩
  have HI : Hid ((wa.alloc (.cells #[.int .i64 14, .int .i64 ia, .int .i64 ib, .int .i64 ic] 47)).cell? ⟨wa.heap.size, 0, none⟩ = some (.int .i64 14) ∧ (wa.alloc (.cells #[.int .i64 14, .int .i64 ia, .int .i64 ib, .int .i64 ic] 47)).cell? ⟨wa.heap.size, 1, none⟩ = some (.int .i64 ia) ∧
      (wa.alloc (.cells #[.int .i64 14, .int .i64 ia, .int .i64 ib, .int .i64 ic] 47)).cell? ⟨wa.heap.size, 2, none⟩ = some (.int .i64 ib) ∧ (wa.alloc (.cells #[.int .i64 14, .int .i64 ia, .int .i64 ib, .int .i64 ic] 47)).cell? ⟨wa.heap.size, 3, none⟩ = some (.int .i64 ic)) := ⟨cell_new wa _ _ rfl, cell_new wa _ _ rfl, cell_new wa _ _ rfl, cell_new wa _ _ rfl⟩
  obtain ⟨d0, d1, d2, d3, d4, d5, d6, d7, d8, d9, d10, d11⟩ := HT.out.box.c
  have d12 := HT.out.k12
  have hpl := plac_and hi.out
  clear hp hf hk
  go_enter Try.func77, Try.ntmps77
  go_upto_region 2 with (fail)
  clear d0 d1 d2 d3 d4 d5 d6 d7 d8 d9 d10 d11 d12 HT hwa
  generalize wa.alloc (.cells #[.int .i64 14, .int .i64 ia, .int .i64 ib, .int .i64 ic] 47) = wb at *
  generalize wa.heap.size = gi at *
  clear wa
  obtain ⟨i0, i1, i2, i3⟩ := HI.out
  obtain ⟨d0, d1, d2, d3, d4, d5, d6, d7, d8, d9, d10, d11⟩ := HB.out.2.box.c
  have d12 := HB.out.2.k12
  have h1 : inB ib f.slots = true := hpl.2.1
  have h2 : inB ic 16 = true := hpl.2.2
  obtain ⟨m, rfl, hm⟩ := slot_of hK.out.1 h1
  obtain ⟨c, rfl, hc⟩ := fld_of h2
  obtain ⟨r, hr⟩ : ∃ r, Hid (fieldO p 16 (kat K (m : Int)) (c : Int) = r) := ⟨_, rfl⟩
  have HS : Hid (r.getD 0 = v) := by
    have : (fieldO p 16 (kat K (m : Int)) (c : Int)).getD 0 = v := Option.some.inj hs.out
    rw [hr.out] at this
    exact this
  have HM : Hid (m < K.length) := hm
  clear hs hpl h1 h2 hm hc
  go_wp2_with fail
  refine (field_ptr p f 14 ia (m : Int) (c : Int) ag az af cg cs cf a0 a3 a4 c0 c3 c4 K ak ck (by decide) (by decide) hr HM.out _ HB.out.2.pp HB.out.2.ff HB.out.2.kk).mono ?_
  rintro e w1 ⟨he, hb⟩
  unfold fldIs at he
  rw [HS.out] at he
  subst he
  have HB2 : Hid (Below w.heap.size w w1) := HB.out.1.trans (hb.mono HB.out.1.size)
  clear hb d0 d1 d2 d3 d4 d5 d6 d7 d8 d9 d10 d11 d12 i0 i1 i2 i3 HI
  go_wp2_with fail
  go_ret
  exact ⟨rfl, HB2.out⟩

set_option maxRecDepth 100000 in
set_option maxHeartbeats 4000000 in
theorem ks_19 (p : Pg) (f : Fn) (io ia ib ic : Int) (ag az af : Option Addr) (cg cs cf : Nat) (a0 a3 a4 : Option Addr) (c0 c3 c4 : Nat) (K : List Int) (ak : Option Addr) (ck : Nat) {v : Int} (ho : io = 19) (hs : Hid (stA p f ⟨io, ia, ib, ic⟩ K = some v)) (hi : Hid (OkI p f ⟨io, ia, ib, ic⟩)) (_hF : Hid (OkF p f)) (hK : Hid ((K.length : Int) = f.slots ∧ K.length ≤ ck ∧ K.length ≤ 3000)) (w : World) (hp : PgV Any w (.slice ag p.glob.length cg) (.slice az p.shapes.length cs) (.slice af p.funcs.length cf) p) (hf : FnC Any w f (.slice a0 f.args.length c0) (.int .i64 f.res) (.int .i64 f.slots) (.slice a3 f.objs.length c3) (.slice a4 f.code.length c4)) (hk : SrcP Any w (.slice ak K.length ck) K) :
    Calls Try.prog 77 #[.agg #[.slice ag p.glob.length cg, .slice az p.shapes.length cs, .slice af p.funcs.length cf, .slice a0 f.args.length c0, .int .i64 f.res, .int .i64 f.slots, .slice a3 f.objs.length c3, .slice a4 f.code.length c4, .int .i64 io, .int .i64 ia, .int .i64 ib, .int .i64 ic, .slice ak K.length ck]] w fun e w' => e = .returned (.int .i64 v) ∧ Below w.heap.size w w' := by
  subst ho
  obtain ⟨wa, hwa⟩ : ∃ wa, w.alloc (.cells #[.slice ag p.glob.length cg, .slice az p.shapes.length cs, .slice af p.funcs.length cf, .slice a0 f.args.length c0, .int .i64 f.res, .int .i64 f.slots, .slice a3 f.objs.length c3, .slice a4 f.code.length c4, .int .i64 19, .int .i64 ia, .int .i64 ib, .int .i64 ic, .slice ak K.length ck] 66) = wa := ⟨_, rfl⟩
  have HT : Hid (OnT w wa w.heap.size p f 19 ia ib ic ag az af cg cs cf a0 a3 a4 c0 c3 c4 K ak ck) := onT_start p f 19 ia ib ic ag az af cg cs cf a0 a3 a4 c0 c3 c4 K ak ck hwa hp hf hk
  have HB : Hid (Below w.heap.size w (wa.alloc (.cells #[.int .i64 19, .int .i64 ia, .int .i64 ib, .int .i64 ic] 47)) ∧ OnT w (wa.alloc (.cells #[.int .i64 19, .int .i64 ia, .int .i64 ib, .int .i64 ic] 47)) w.heap.size p f 19 ia ib ic ag az af cg cs cf a0 a3 a4 c0 c3 c4 K ak ck) := ⟨HT.out.low.alloc HT.out.low.size _, HT.out.below ((Below.refl _ _).alloc (Nat.le_refl _) _)⟩
  have HI : Hid ((wa.alloc (.cells #[.int .i64 19, .int .i64 ia, .int .i64 ib, .int .i64 ic] 47)).cell? ⟨wa.heap.size, 0, none⟩ = some (.int .i64 19) ∧ (wa.alloc (.cells #[.int .i64 19, .int .i64 ia, .int .i64 ib, .int .i64 ic] 47)).cell? ⟨wa.heap.size, 1, none⟩ = some (.int .i64 ia) ∧
      (wa.alloc (.cells #[.int .i64 19, .int .i64 ia, .int .i64 ib, .int .i64 ic] 47)).cell? ⟨wa.heap.size, 2, none⟩ = some (.int .i64 ib) ∧ (wa.alloc (.cells #[.int .i64 19, .int .i64 ia, .int .i64 ib, .int .i64 ic] 47)).cell? ⟨wa.heap.size, 3, none⟩ = some (.int .i64 ic)) := ⟨cell_new wa _ _ rfl, cell_new wa _ _ rfl, cell_new wa _ _ rfl, cell_new wa _ _ rfl⟩
  obtain ⟨d0, d1, d2, d3, d4, d5, d6, d7, d8, d9, d10, d11⟩ := HT.out.box.c
  have d12 := HT.out.k12
  have hpl := plac_and hi.out
  clear hp hf hk
  go_enter Try.func77, Try.ntmps77
  go_upto_region 2 with (fail)
  clear d0 d1 d2 d3 d4 d5 d6 d7 d8 d9 d10 d11 d12 HT hwa
  generalize wa.alloc (.cells #[.int .i64 19, .int .i64 ia, .int .i64 ib, .int .i64 ic] 47) = wb at *
  generalize wa.heap.size = gi at *
  clear wa
  obtain ⟨i0, i1, i2, i3⟩ := HI.out
  obtain ⟨d0, d1, d2, d3, d4, d5, d6, d7, d8, d9, d10, d11⟩ := HB.out.2.box.c
  have d12 := HB.out.2.k12
  have h1 : inB ib f.slots = true := hpl.2.1
  have h2 : inB ic 16 = true := hpl.2.2
  obtain ⟨m, rfl, hm⟩ := slot_of hK.out.1 h1
  obtain ⟨c, rfl, hc⟩ := fld_of h2
  obtain ⟨r, hr⟩ : ∃ r, Hid (fieldO p 64 (kat K (m : Int)) (c : Int) = r) := ⟨_, rfl⟩
  have HS : Hid (r.getD 0 = v) := by
    have : (fieldO p 64 (kat K (m : Int)) (c : Int)).getD 0 = v := Option.some.inj hs.out
    rw [hr.out] at this
    exact this
  have HM : Hid (m < K.length) := hm
  clear hs hpl h1 h2 hm hc
  go_wp2_with fail
  refine (field_19 p f 19 ia (m : Int) (c : Int) ag az af cg cs cf a0 a3 a4 c0 c3 c4 K ak ck rfl hr HM.out _ HB.out.2.pp HB.out.2.ff HB.out.2.kk).mono ?_
  rintro e w1 ⟨he, hb⟩
  unfold fldIs at he
  rw [HS.out] at he
  subst he
  have HB2 : Hid (Below w.heap.size w w1) := HB.out.1.trans (hb.mono HB.out.1.size)
  clear hb d0 d1 d2 d3 d4 d5 d6 d7 d8 d9 d10 d11 d12 i0 i1 i2 i3 HI
  go_wp2_with fail
  go_ret
  exact ⟨rfl, HB2.out⟩

set_option maxRecDepth 100000 in
set_option maxHeartbeats 4000000 in
theorem ks_16 (p : Pg) (f : Fn) (io ia ib ic : Int) (ag az af : Option Addr) (cg cs cf : Nat) (a0 a3 a4 : Option Addr) (c0 c3 c4 : Nat) (K : List Int) (ak : Option Addr) (ck : Nat) {v : Int} (ho : io = 16) (hs : Hid (stA p f ⟨io, ia, ib, ic⟩ K = some v)) (hi : Hid (OkI p f ⟨io, ia, ib, ic⟩)) (_hF : Hid (OkF p f)) (_hK : Hid ((K.length : Int) = f.slots ∧ K.length ≤ ck ∧ K.length ≤ 3000)) (w : World) (hp : PgV Any w (.slice ag p.glob.length cg) (.slice az p.shapes.length cs) (.slice af p.funcs.length cf) p) (hf : FnC Any w f (.slice a0 f.args.length c0) (.int .i64 f.res) (.int .i64 f.slots) (.slice a3 f.objs.length c3) (.slice a4 f.code.length c4)) (hk : SrcP Any w (.slice ak K.length ck) K) :
    Calls Try.prog 77 #[.agg #[.slice ag p.glob.length cg, .slice az p.shapes.length cs, .slice af p.funcs.length cf, .slice a0 f.args.length c0, .int .i64 f.res, .int .i64 f.slots, .slice a3 f.objs.length c3, .slice a4 f.code.length c4, .int .i64 io, .int .i64 ia, .int .i64 ib, .int .i64 ic, .slice ak K.length ck]] w fun e w' => e = .returned (.int .i64 v) ∧ Below w.heap.size w w' := by
  subst ho
  obtain ⟨wa, hwa⟩ : ∃ wa, w.alloc (.cells #[.slice ag p.glob.length cg, .slice az p.shapes.length cs, .slice af p.funcs.length cf, .slice a0 f.args.length c0, .int .i64 f.res, .int .i64 f.slots, .slice a3 f.objs.length c3, .slice a4 f.code.length c4, .int .i64 16, .int .i64 ia, .int .i64 ib, .int .i64 ic, .slice ak K.length ck] 66) = wa := ⟨_, rfl⟩
  have HT : Hid (OnT w wa w.heap.size p f 16 ia ib ic ag az af cg cs cf a0 a3 a4 c0 c3 c4 K ak ck) := onT_start p f 16 ia ib ic ag az af cg cs cf a0 a3 a4 c0 c3 c4 K ak ck hwa hp hf hk
  have HB : Hid (Below w.heap.size w (wa.alloc (.cells #[.int .i64 16, .int .i64 ia, .int .i64 ib, .int .i64 ic] 47)) ∧ OnT w (wa.alloc (.cells #[.int .i64 16, .int .i64 ia, .int .i64 ib, .int .i64 ic] 47)) w.heap.size p f 16 ia ib ic ag az af cg cs cf a0 a3 a4 c0 c3 c4 K ak ck) := ⟨HT.out.low.alloc HT.out.low.size _, HT.out.below ((Below.refl _ _).alloc (Nat.le_refl _) _)⟩
  have HI : Hid ((wa.alloc (.cells #[.int .i64 16, .int .i64 ia, .int .i64 ib, .int .i64 ic] 47)).cell? ⟨wa.heap.size, 0, none⟩ = some (.int .i64 16) ∧ (wa.alloc (.cells #[.int .i64 16, .int .i64 ia, .int .i64 ib, .int .i64 ic] 47)).cell? ⟨wa.heap.size, 1, none⟩ = some (.int .i64 ia) ∧
      (wa.alloc (.cells #[.int .i64 16, .int .i64 ia, .int .i64 ib, .int .i64 ic] 47)).cell? ⟨wa.heap.size, 2, none⟩ = some (.int .i64 ib) ∧ (wa.alloc (.cells #[.int .i64 16, .int .i64 ia, .int .i64 ib, .int .i64 ic] 47)).cell? ⟨wa.heap.size, 3, none⟩ = some (.int .i64 ic)) := ⟨cell_new wa _ _ rfl, cell_new wa _ _ rfl, cell_new wa _ _ rfl, cell_new wa _ _ rfl⟩
  obtain ⟨d0, d1, d2, d3, d4, d5, d6, d7, d8, d9, d10, d11⟩ := HT.out.box.c
  have d12 := HT.out.k12
  have hpl := plac_and hi.out
  clear hp hf hk
  go_enter Try.func77, Try.ntmps77
  go_upto_region 2 with (fail)
  clear d0 d1 d2 d3 d4 d5 d6 d7 d8 d9 d10 d11 d12 HT hwa
  generalize wa.alloc (.cells #[.int .i64 16, .int .i64 ia, .int .i64 ib, .int .i64 ic] 47) = wb at *
  generalize wa.heap.size = gi at *
  clear wa
  obtain ⟨i0, i1, i2, i3⟩ := HI.out
  obtain ⟨d0, d1, d2, d3, d4, d5, d6, d7, d8, d9, d10, d11⟩ := HB.out.2.box.c
  have d12 := HB.out.2.k12
  have h1 : inB ib p.glob.length = true := hpl.2.1
  obtain ⟨n, rfl, hn⟩ := num_of h1
  obtain ⟨bg, og, rfl, gc⟩ := HB.out.2.pp.glob.kat (m := n) (by omega)
  have hnI : (n : Int) < (p.glob.length : Int) := by omega
  have HS : Hid (kat p.glob (n : Int) = v) := Option.some.inj hs.out
  generalize kat p.glob (n : Int) = k' at *
  clear hs hpl h1
  go_wp2_with fail
  go_ret
  exact ⟨ret_int HS.out, HB.out.1⟩

set_option maxRecDepth 100000 in
set_option maxHeartbeats 4000000 in
theorem ks_18 (p : Pg) (f : Fn) (io ia ib ic : Int) (ag az af : Option Addr) (cg cs cf : Nat) (a0 a3 a4 : Option Addr) (c0 c3 c4 : Nat) (K : List Int) (ak : Option Addr) (ck : Nat) {v : Int} (ho : io = 18) (hs : Hid (stA p f ⟨io, ia, ib, ic⟩ K = some v)) (hi : Hid (OkI p f ⟨io, ia, ib, ic⟩)) (_hF : Hid (OkF p f)) (_hK : Hid ((K.length : Int) = f.slots ∧ K.length ≤ ck ∧ K.length ≤ 3000)) (w : World) (hp : PgV Any w (.slice ag p.glob.length cg) (.slice az p.shapes.length cs) (.slice af p.funcs.length cf) p) (hf : FnC Any w f (.slice a0 f.args.length c0) (.int .i64 f.res) (.int .i64 f.slots) (.slice a3 f.objs.length c3) (.slice a4 f.code.length c4)) (hk : SrcP Any w (.slice ak K.length ck) K) :
    Calls Try.prog 77 #[.agg #[.slice ag p.glob.length cg, .slice az p.shapes.length cs, .slice af p.funcs.length cf, .slice a0 f.args.length c0, .int .i64 f.res, .int .i64 f.slots, .slice a3 f.objs.length c3, .slice a4 f.code.length c4, .int .i64 io, .int .i64 ia, .int .i64 ib, .int .i64 ic, .slice ak K.length ck]] w fun e w' => e = .returned (.int .i64 v) ∧ Below w.heap.size w w' := by
  subst ho
  obtain ⟨wa, hwa⟩ : ∃ wa, w.alloc (.cells #[.slice ag p.glob.length cg, .slice az p.shapes.length cs, .slice af p.funcs.length cf, .slice a0 f.args.length c0, .int .i64 f.res, .int .i64 f.slots, .slice a3 f.objs.length c3, .slice a4 f.code.length c4, .int .i64 18, .int .i64 ia, .int .i64 ib, .int .i64 ic, .slice ak K.length ck] 66) = wa := ⟨_, rfl⟩
  have HT : Hid (OnT w wa w.heap.size p f 18 ia ib ic ag az af cg cs cf a0 a3 a4 c0 c3 c4 K ak ck) := onT_start p f 18 ia ib ic ag az af cg cs cf a0 a3 a4 c0 c3 c4 K ak ck hwa hp hf hk
  have HB : Hid (Below w.heap.size w (wa.alloc (.cells #[.int .i64 18, .int .i64 ia, .int .i64 ib, .int .i64 ic] 47)) ∧ OnT w (wa.alloc (.cells #[.int .i64 18, .int .i64 ia, .int .i64 ib, .int .i64 ic] 47)) w.heap.size p f 18 ia ib ic ag az af cg cs cf a0 a3 a4 c0 c3 c4 K ak ck) := ⟨HT.out.low.alloc HT.out.low.size _, HT.out.below ((Below.refl _ _).alloc (Nat.le_refl _) _)⟩
  have HI : Hid ((wa.alloc (.cells #[.int .i64 18, .int .i64 ia, .int .i64 ib, .int .i64 ic] 47)).cell? ⟨wa.heap.size, 0, none⟩ = some (.int .i64 18) ∧ (wa.alloc (.cells #[.int .i64 18, .int .i64 ia, .int .i64 ib, .int .i64 ic] 47)).cell? ⟨wa.heap.size, 1, none⟩ = some (.int .i64 ia) ∧
      (wa.alloc (.cells #[.int .i64 18, .int .i64 ia, .int .i64 ib, .int .i64 ic] 47)).cell? ⟨wa.heap.size, 2, none⟩ = some (.int .i64 ib) ∧ (wa.alloc (.cells #[.int .i64 18, .int .i64 ia, .int .i64 ib, .int .i64 ic] 47)).cell? ⟨wa.heap.size, 3, none⟩ = some (.int .i64 ic)) := ⟨cell_new wa _ _ rfl, cell_new wa _ _ rfl, cell_new wa _ _ rfl, cell_new wa _ _ rfl⟩
  obtain ⟨d0, d1, d2, d3, d4, d5, d6, d7, d8, d9, d10, d11⟩ := HT.out.box.c
  have d12 := HT.out.k12
  have hpl := plac_and hi.out
  clear hp hf hk
  go_enter Try.func77, Try.ntmps77
  go_upto_region 2 with (fail)
  clear d0 d1 d2 d3 d4 d5 d6 d7 d8 d9 d10 d11 d12 HT hwa
  generalize wa.alloc (.cells #[.int .i64 18, .int .i64 ia, .int .i64 ib, .int .i64 ic] 47) = wb at *
  generalize wa.heap.size = gi at *
  clear wa
  obtain ⟨i0, i1, i2, i3⟩ := HI.out
  obtain ⟨d0, d1, d2, d3, d4, d5, d6, d7, d8, d9, d10, d11⟩ := HB.out.2.box.c
  have d12 := HB.out.2.k12
  have h1 : inB ib f.objs.length = true := hpl.2.1
  obtain ⟨n, rfl, hn⟩ := num_of h1
  obtain ⟨bg, og, rfl, gc⟩ := HB.out.2.ff.objs.kat (m := n) (by omega)
  have hnI : (n : Int) < (f.objs.length : Int) := by omega
  have hx := _hF.out.objs (kat f.objs (n : Int)) (kat_mem (by omega) hnI)
  have HS : Hid (64 + kat f.objs (n : Int) = v) := Option.some.inj hs.out
  generalize kat f.objs (n : Int) = k' at *
  have hadd : IntKind.i64.wrap (64 + k') = 64 + k' := by rw [IntKind.wrap_i64]; omega
  clear hs hpl h1
  go_wp2_with fail
  go_ret
  exact ⟨ret_int HS.out, HB.out.1⟩

set_option maxRecDepth 100000 in
set_option maxHeartbeats 4000000 in
theorem ks_21 (p : Pg) (f : Fn) (io ia ib ic : Int) (ag az af : Option Addr) (cg cs cf : Nat) (a0 a3 a4 : Option Addr) (c0 c3 c4 : Nat) (K : List Int) (ak : Option Addr) (ck : Nat) {v : Int} (ho : io = 21) (hs : Hid (stA p f ⟨io, ia, ib, ic⟩ K = some v)) (hi : Hid (OkI p f ⟨io, ia, ib, ic⟩)) (_hF : Hid (OkF p f)) (_hK : Hid ((K.length : Int) = f.slots ∧ K.length ≤ ck ∧ K.length ≤ 3000)) (w : World) (hp : PgV Any w (.slice ag p.glob.length cg) (.slice az p.shapes.length cs) (.slice af p.funcs.length cf) p) (hf : FnC Any w f (.slice a0 f.args.length c0) (.int .i64 f.res) (.int .i64 f.slots) (.slice a3 f.objs.length c3) (.slice a4 f.code.length c4)) (hk : SrcP Any w (.slice ak K.length ck) K) :
    Calls Try.prog 77 #[.agg #[.slice ag p.glob.length cg, .slice az p.shapes.length cs, .slice af p.funcs.length cf, .slice a0 f.args.length c0, .int .i64 f.res, .int .i64 f.slots, .slice a3 f.objs.length c3, .slice a4 f.code.length c4, .int .i64 io, .int .i64 ia, .int .i64 ib, .int .i64 ic, .slice ak K.length ck]] w fun e w' => e = .returned (.int .i64 v) ∧ Below w.heap.size w w' := by
  subst ho
  obtain ⟨wa, hwa⟩ : ∃ wa, w.alloc (.cells #[.slice ag p.glob.length cg, .slice az p.shapes.length cs, .slice af p.funcs.length cf, .slice a0 f.args.length c0, .int .i64 f.res, .int .i64 f.slots, .slice a3 f.objs.length c3, .slice a4 f.code.length c4, .int .i64 21, .int .i64 ia, .int .i64 ib, .int .i64 ic, .slice ak K.length ck] 66) = wa := ⟨_, rfl⟩
  have HT : Hid (OnT w wa w.heap.size p f 21 ia ib ic ag az af cg cs cf a0 a3 a4 c0 c3 c4 K ak ck) := onT_start p f 21 ia ib ic ag az af cg cs cf a0 a3 a4 c0 c3 c4 K ak ck hwa hp hf hk
  have HB : Hid (Below w.heap.size w (wa.alloc (.cells #[.int .i64 21, .int .i64 ia, .int .i64 ib, .int .i64 ic] 47)) ∧ OnT w (wa.alloc (.cells #[.int .i64 21, .int .i64 ia, .int .i64 ib, .int .i64 ic] 47)) w.heap.size p f 21 ia ib ic ag az af cg cs cf a0 a3 a4 c0 c3 c4 K ak ck) := ⟨HT.out.low.alloc HT.out.low.size _, HT.out.below ((Below.refl _ _).alloc (Nat.le_refl _) _)⟩
  have HI : Hid ((wa.alloc (.cells #[.int .i64 21, .int .i64 ia, .int .i64 ib, .int .i64 ic] 47)).cell? ⟨wa.heap.size, 0, none⟩ = some (.int .i64 21) ∧ (wa.alloc (.cells #[.int .i64 21, .int .i64 ia, .int .i64 ib, .int .i64 ic] 47)).cell? ⟨wa.heap.size, 1, none⟩ = some (.int .i64 ia) ∧
      (wa.alloc (.cells #[.int .i64 21, .int .i64 ia, .int .i64 ib, .int .i64 ic] 47)).cell? ⟨wa.heap.size, 2, none⟩ = some (.int .i64 ib) ∧ (wa.alloc (.cells #[.int .i64 21, .int .i64 ia, .int .i64 ib, .int .i64 ic] 47)).cell? ⟨wa.heap.size, 3, none⟩ = some (.int .i64 ic)) := ⟨cell_new wa _ _ rfl, cell_new wa _ _ rfl, cell_new wa _ _ rfl, cell_new wa _ _ rfl⟩
  obtain ⟨d0, d1, d2, d3, d4, d5, d6, d7, d8, d9, d10, d11⟩ := HT.out.box.c
  have d12 := HT.out.k12
  have hpl := plac_and hi.out
  clear hp hf hk
  go_enter Try.func77, Try.ntmps77
  go_upto_region 2 with (fail)
  clear d0 d1 d2 d3 d4 d5 d6 d7 d8 d9 d10 d11 d12 HT hwa
  generalize wa.alloc (.cells #[.int .i64 21, .int .i64 ia, .int .i64 ib, .int .i64 ic] 47) = wb at *
  generalize wa.heap.size = gi at *
  clear wa
  obtain ⟨i0, i1, i2, i3⟩ := HI.out
  obtain ⟨d0, d1, d2, d3, d4, d5, d6, d7, d8, d9, d10, d11⟩ := HB.out.2.box.c
  have d12 := HB.out.2.k12
  have h1 : inB ib p.funcs.length = true := hpl.2.1
  rw [fnAt_inB] at h1
  obtain ⟨g, hg⟩ := Option.isSome_iff_exists.1 h1
  have HG : Hid (fnAt p ib = some g) := hg
  have HS : Hid (g.res = v) := by
    have : (match fnAt p ib with | some g => if g.res = 0 then none else some g.res | none => none) = some v := hs.out
    rw [hg] at this
    simp only at this
    split at this
    · cases this
    · exact Option.some.inj this
  clear hs hpl h1 hg
  go_wp2_with fail
  refine (callee_any p f 21 ia ib ic ag az af cg cs cf a0 a3 a4 c0 c3 c4 K ak ck HG _ HB.out.2.pp HB.out.2.ff HB.out.2.kk).mono ?_
  rintro e w1 ⟨b0, b3, b4, e0, e3, e4, rfl, _, hb⟩
  have HB2 : Hid (Below w.heap.size w w1) := HB.out.1.trans (hb.mono HB.out.1.size)
  have hfl : ∀ w, (Instr.field 41 (.agg #[.slice b0 g.args.length e0, .int .i64 g.res, .int .i64 g.slots, .slice b3 g.objs.length e3, .slice b4 g.code.length e4]) 1).run Try.prog w = .ok (.int .i64 g.res) w := fun _ => by kernel_rfl
  clear hb d0 d1 d2 d3 d4 d5 d6 d7 d8 d9 d10 d11 d12 i0 i1 i2 i3 HI
  go_wp2_with fail
  go_ret
  exact ⟨ret_int HS.out, HB2.out⟩

theorem kindSet_any (p : Pg) (f : Fn) (io ia ib ic : Int) (ag az af : Option Addr) (cg cs cf : Nat) (a0 a3 a4 : Option Addr) (c0 c3 c4 : Nat) (K : List Int) (ak : Option Addr) (ck : Nat) {v : Int} (hs : Hid (stA p f ⟨io, ia, ib, ic⟩ K = some v)) (hi : Hid (OkI p f ⟨io, ia, ib, ic⟩)) (hF : Hid (OkF p f)) (hK : Hid ((K.length : Int) = f.slots ∧ K.length ≤ ck ∧ K.length ≤ 3000)) (w : World) (hp : PgV Any w (.slice ag p.glob.length cg) (.slice az p.shapes.length cs) (.slice af p.funcs.length cf) p) (hf : FnC Any w f (.slice a0 f.args.length c0) (.int .i64 f.res) (.int .i64 f.slots) (.slice a3 f.objs.length c3) (.slice a4 f.code.length c4)) (hk : SrcP Any w (.slice ak K.length ck) K) :
    Calls Try.prog 77 #[.agg #[.slice ag p.glob.length cg, .slice az p.shapes.length cs, .slice af p.funcs.length cf, .slice a0 f.args.length c0, .int .i64 f.res, .int .i64 f.slots, .slice a3 f.objs.length c3, .slice a4 f.code.length c4, .int .i64 io, .int .i64 ia, .int .i64 ib, .int .i64 ic, .slice ak K.length ck]] w fun e w' => e = .returned (.int .i64 v) ∧ Below w.heap.size w w' := by
  have hkn : kn io = true := hi.out.kn
  rcases kn_cases hkn with h | h | h | h | h | h | h | h | h | h | h | h | h | h | h | h | h | h | h | h | h | h | h | h | h | h | h | h | h | h
  · subst h; have h2 : (none : Option Int) = some v := hs.out; cases h2
  · exact ks_1 p f io ia ib ic ag az af cg cs cf a0 a3 a4 c0 c3 c4 K ak ck h hs hi hF hK w hp hf hk
  · exact ks_2 p f io ia ib ic ag az af cg cs cf a0 a3 a4 c0 c3 c4 K ak ck h hs hi hF hK w hp hf hk
  · exact ks_3 p f io ia ib ic ag az af cg cs cf a0 a3 a4 c0 c3 c4 K ak ck h hs hi hF hK w hp hf hk
  · exact ks_4 p f io ia ib ic ag az af cg cs cf a0 a3 a4 c0 c3 c4 K ak ck h hs hi hF hK w hp hf hk
  · exact ks_5 p f io ia ib ic ag az af cg cs cf a0 a3 a4 c0 c3 c4 K ak ck h hs hi hF hK w hp hf hk
  · exact ks_6 p f io ia ib ic ag az af cg cs cf a0 a3 a4 c0 c3 c4 K ak ck h hs hi hF hK w hp hf hk
  · exact ks_7 p f io ia ib ic ag az af cg cs cf a0 a3 a4 c0 c3 c4 K ak ck h hs hi hF hK w hp hf hk
  · exact ks_8 p f io ia ib ic ag az af cg cs cf a0 a3 a4 c0 c3 c4 K ak ck h hs hi hF hK w hp hf hk
  · subst h; have h2 : (none : Option Int) = some v := hs.out; cases h2
  · subst h; have h2 : (none : Option Int) = some v := hs.out; cases h2
  · exact ks_11 p f io ia ib ic ag az af cg cs cf a0 a3 a4 c0 c3 c4 K ak ck h hs hi hF hK w hp hf hk
  · exact ks_12 p f io ia ib ic ag az af cg cs cf a0 a3 a4 c0 c3 c4 K ak ck h hs hi hF hK w hp hf hk
  · exact ks_13 p f io ia ib ic ag az af cg cs cf a0 a3 a4 c0 c3 c4 K ak ck h hs hi hF hK w hp hf hk
  · exact ks_14 p f io ia ib ic ag az af cg cs cf a0 a3 a4 c0 c3 c4 K ak ck h hs hi hF hK w hp hf hk
  · subst h; have h2 : (none : Option Int) = some v := hs.out; cases h2
  · exact ks_16 p f io ia ib ic ag az af cg cs cf a0 a3 a4 c0 c3 c4 K ak ck h hs hi hF hK w hp hf hk
  · subst h; have h2 : (none : Option Int) = some v := hs.out; cases h2
  · exact ks_18 p f io ia ib ic ag az af cg cs cf a0 a3 a4 c0 c3 c4 K ak ck h hs hi hF hK w hp hf hk
  · exact ks_19 p f io ia ib ic ag az af cg cs cf a0 a3 a4 c0 c3 c4 K ak ck h hs hi hF hK w hp hf hk
  · subst h; have h2 : (none : Option Int) = some v := hs.out; cases h2
  · exact ks_21 p f io ia ib ic ag az af cg cs cf a0 a3 a4 c0 c3 c4 K ak ck h hs hi hF hK w hp hf hk
  · subst h; have h2 : (none : Option Int) = some v := hs.out; cases h2
  · subst h; have h2 : (none : Option Int) = some v := hs.out; cases h2
  · subst h; have h2 : (none : Option Int) = some v := hs.out; cases h2
  · subst h; have h2 : (none : Option Int) = some v := hs.out; cases h2
  · exact ks_26 p f io ia ib ic ag az af cg cs cf a0 a3 a4 c0 c3 c4 K ak ck h hs hi hF hK w hp hf hk
  · subst h; have h2 : (none : Option Int) = some v := hs.out; cases h2
  · subst h; have h2 : (none : Option Int) = some v := hs.out; cases h2
  · subst h; have h2 : (none : Option Int) = some v := hs.out; cases h2

end Go.Proofs.Ytmjappcjfjajmaa

/- The walks of a site's holdsArgs, has, formed. -/
import Derived.Test.YtmjappcjfjajmaaCkY
namespace Go.Proofs.Ytmjappcjfjajmaa
open Go.RowKit

def holdB (p : Pg) (f : Fn) (ib v : Int) : Bool := decide (0 ≤ v) && (decide (v ≤ f.slots) && decide ((arN p ib : Int) ≤ f.slots - v))
set_option maxHeartbeats 2000000 in
theorem holds_any (p : Pg) (f : Fn) (io ia ib ic : Int) (ag az af : Option Addr) (cg cs cf : Nat) (a0 a3 a4 : Option Addr) (c0 c3 c4 : Nat) {v : Int} {s : Bool} (hs : Hid (holdB p f ib v = s)) (hfit : f.slots ≤ 9223372036854775807) (w : World) (hp : PgV Any w (.slice ag p.glob.length cg) (.slice az p.shapes.length cs) (.slice af p.funcs.length cf) p) (hf : FnC Any w f (.slice a0 f.args.length c0) (.int .i64 f.res) (.int .i64 f.slots) (.slice a3 f.objs.length c3) (.slice a4 f.code.length c4)) :
    Calls Try.prog 86 #[.agg #[.slice ag p.glob.length cg, .slice az p.shapes.length cs, .slice af p.funcs.length cf, .slice a0 f.args.length c0, .int .i64 f.res, .int .i64 f.slots, .slice a3 f.objs.length c3, .slice a4 f.code.length c4, .int .i64 io, .int .i64 ia, .int .i64 ib, .int .i64 ic], .int .i64 v] w fun e w' => e = .returned (.bool s) ∧ Below w.heap.size w w' := by
  obtain rfl := hs.out
  clear hs
  obtain ⟨wa, hwa⟩ : ∃ wa, w.alloc (.cells #[.slice ag p.glob.length cg, .slice az p.shapes.length cs, .slice af p.funcs.length cf, .slice a0 f.args.length c0, .int .i64 f.res, .int .i64 f.slots, .slice a3 f.objs.length c3, .slice a4 f.code.length c4, .int .i64 io, .int .i64 ia, .int .i64 ib, .int .i64 ic] 83) = wa := ⟨_, rfl⟩
  have HT : Hid (OnS w wa w.heap.size p f io ia ib ic ag az af cg cs cf a0 a3 a4 c0 c3 c4) := onS_start p f io ia ib ic ag az af cg cs cf a0 a3 a4 c0 c3 c4 hwa hp hf
  obtain ⟨d0, d1, d2, d3, d4, d5, d6, d7, d8, d9, d10, d11⟩ := HT.out.box.c
  clear hp hf
  by_cases h0 : 0 ≤ v
  · by_cases h1 : v ≤ f.slots
    · obtain ⟨k, hk⟩ : ∃ k, Hid (arN p ib = k) := ⟨_, rfl⟩
      obtain ⟨x, hx⟩ : ∃ x, x = f.slots - v := ⟨_, rfl⟩
      have HR : Hid (holdB p f ib v = decide ((k : Int) ≤ x)) := by unfold Hid holdB; rw [decide_eq_true h0, decide_eq_true h1, hk.out, hx]; rfl
      rw [HR.out]
      have hsub : IntKind.i64.wrap (f.slots - v) = x := by rw [hx, IntKind.wrap_i64]; omega
      have hd0 : decide (0 ≤ v) = true := decide_eq_true h0
      have hd1 : decide (v ≤ f.slots) = true := decide_eq_true h1
      clear HR hfit hx
      go_enter Try.func86, Try.ntmps86
      go_upto_region 1 with (fail)
      go_region_held3 (fun w' => w'.cell? ⟨w.heap.size, 0, none⟩ = some (.slice ag p.glob.length cg) ∧ w'.cell? ⟨w.heap.size, 1, none⟩ = some (.slice az p.shapes.length cs) ∧ w'.cell? ⟨w.heap.size, 2, none⟩ = some (.slice af p.funcs.length cf) ∧ w'.cell? ⟨w.heap.size, 5, none⟩ = some (.int .i64 f.slots) ∧ w'.cell? ⟨w.heap.size, 10, none⟩ = some (.int .i64 ib))
        (first | exact ⟨d0, d1, d2, d5, d10⟩ | exact ⟨HT2.out.box.k0, HT2.out.box.k1, HT2.out.box.k2, HT2.out.box.k5, HT2.out.box.k10⟩ | go_keep)
        (first
          | (go_at_call 94; refine (args_any p ag az af cg cs cf hk (wa.drewN 1) (HT.out.drewN 1).pp).mono ?_; rintro e w2 ⟨rfl, hb⟩; have HT2 : Hid (OnS w w2 w.heap.size p f io ia ib ic ag az af cg cs cf a0 a3 a4 c0 c3 c4) := (HT.out.drewN 1).below hb; clear hb))
      all_goals
        go_wp2_with fail
        go_ret
        exact ⟨rfl, HT2.out.low⟩
    · have HR : holdB p f ib v = false := by unfold holdB; rw [decide_eq_false h1]; simp
      rw [HR]
      have hd0 : decide (0 ≤ v) = true := decide_eq_true h0
      have hd1 : decide (v ≤ f.slots) = false := decide_eq_false h1
      clear HR hfit
      go_enter Try.func86, Try.ntmps86
      go_upto_region 1 with (fail)
      go_quiet (fail)
      go_wp2
      go_ret
      exact ⟨rfl, below_drewN HT.out.low _⟩
  · have HR : holdB p f ib v = false := by unfold holdB; rw [decide_eq_false h0]; rfl
    rw [HR]
    have hd0 : decide (0 ≤ v) = false := decide_eq_false h0
    clear HR hfit
    go_enter Try.func86, Try.ntmps86
    go_upto_region 1 with (fail)
    go_quiet (fail)
    go_wp2
    go_ret
    exact ⟨rfl, below_drewN HT.out.low _⟩

set_option maxRecDepth 100000 in
set_option maxHeartbeats 4000000 in
theorem has_any (p : Pg) (f : Fn) (io ia ib ic : Int) (ag az af : Option Addr) (cg cs cf : Nat) (a0 a3 a4 : Option Addr) (c0 c3 c4 : Nat) {n v : Int} {s : Bool} (hn : 0 ≤ n ∧ n ≤ 8) (hs : Hid (hasB p f (arN p ib) n v = s)) (hfit : f.slots ≤ 9223372036854775807) (w : World) (hp : PgV Any w (.slice ag p.glob.length cg) (.slice az p.shapes.length cs) (.slice af p.funcs.length cf) p) (hf : FnC Any w f (.slice a0 f.args.length c0) (.int .i64 f.res) (.int .i64 f.slots) (.slice a3 f.objs.length c3) (.slice a4 f.code.length c4)) :
    Calls Try.prog 68 #[.agg #[.slice ag p.glob.length cg, .slice az p.shapes.length cs, .slice af p.funcs.length cf, .slice a0 f.args.length c0, .int .i64 f.res, .int .i64 f.slots, .slice a3 f.objs.length c3, .slice a4 f.code.length c4, .int .i64 io, .int .i64 ia, .int .i64 ib, .int .i64 ic], .int .i64 n, .int .i64 v] w fun e w' => e = .returned (.bool s) ∧ Below w.heap.size w w' := by
  obtain ⟨wa, hwa⟩ : ∃ wa, w.alloc (.cells #[.slice ag p.glob.length cg, .slice az p.shapes.length cs, .slice af p.funcs.length cf, .slice a0 f.args.length c0, .int .i64 f.res, .int .i64 f.slots, .slice a3 f.objs.length c3, .slice a4 f.code.length c4, .int .i64 io, .int .i64 ia, .int .i64 ib, .int .i64 ic] 83) = wa := ⟨_, rfl⟩
  have HT : Hid (OnS w wa w.heap.size p f io ia ib ic ag az af cg cs cf a0 a3 a4 c0 c3 c4) := onS_start p f io ia ib ic ag az af cg cs cf a0 a3 a4 c0 c3 c4 hwa hp hf
  obtain ⟨d0, d1, d2, d3, d4, d5, d6, d7, d8, d9, d10, d11⟩ := HT.out.box.c
  have HFit : Hid (f.slots ≤ 9223372036854775807) := hfit
  clear hp hf hfit
  have hcases : n = 0 ∨ n = 2 ∨ n = 1 ∨ n = 3 ∨ n = 4 ∨ n = 5 ∨ n = 6 ∨ n = 7 ∨ n = 8 := by omega
  clear hn
  rcases hcases with rfl | rfl | hcases
  · obtain rfl : true = s := hs.out
    clear hs
    go_enter Try.func68, Try.ntmps68
    go_wp2_with fail
    go_ret
    exact ⟨rfl, HT.out.low⟩
  · have HI : Hid (holdB p f ib v = s) := hs
    clear hs
    go_enter Try.func68, Try.ntmps68
    go_wp2_with fail
    refine (holds_any p f io ia ib ic ag az af cg cs cf a0 a3 a4 c0 c3 c4 HI HFit.out _ HT.out.pp HT.out.ff).mono ?_
    rintro e w' ⟨rfl, hb⟩
    have HB : Hid (Below w.heap.size w w') := (HT.out.below hb).low
    clear hb
    go_wp2_with fail
    go_ret
    exact ⟨rfl, HB.out⟩
  · rcases hcases with rfl | rfl | rfl | rfl | rfl | rfl | rfl
    all_goals as_aux_lemma =>
      first
        | have HI : Hid (inB v f.slots = s) := hs
        | have HI : Hid (inB v f.code.length = s) := hs
        | have HI : Hid (inB v p.funcs.length = s) := hs
        | have HI : Hid (inB v p.shapes.length = s) := hs
        | have HI : Hid (inB v p.glob.length = s) := hs
        | have HI : Hid (inB v f.objs.length = s) := hs
        | have HI : Hid (inB v 16 = s) := hs
      clear hs
      go_enter Try.func68, Try.ntmps68
      go_wp2_with fail
      refine (within_any HI _).mono ?_
      rintro e w' ⟨rfl, rfl⟩
      go_wp2_with fail
      go_ret
      exact ⟨rfl, HT.out.low⟩

set_option maxRecDepth 100000 in
set_option maxHeartbeats 4000000 in
theorem formed_known (p : Pg) (f : Fn) (io ia ib ic : Int) (ag az af : Option Addr) (cg cs cf : Nat) (a0 a3 a4 : Option Addr) (c0 c3 c4 : Nat) {u0 u1 u2 r : Bool} (hk : Hid (kn io = true)) (hu : Hid (((ro io).1 != 0) = u0 ∧ ((ro io).2.1 != 0) = u1 ∧ ((ro io).2.2 != 0) = u2)) (hr : Hid (resl p f ⟨io, ia, ib, ic⟩ = r)) (w : World) (hp : PgV Any w (.slice ag p.glob.length cg) (.slice az p.shapes.length cs) (.slice af p.funcs.length cf) p) (hf : FnC Any w f (.slice a0 f.args.length c0) (.int .i64 f.res) (.int .i64 f.slots) (.slice a3 f.objs.length c3) (.slice a4 f.code.length c4)) :
    Calls Try.prog 43 #[.agg #[.slice ag p.glob.length cg, .slice az p.shapes.length cs, .slice af p.funcs.length cf, .slice a0 f.args.length c0, .int .i64 f.res, .int .i64 f.slots, .slice a3 f.objs.length c3, .slice a4 f.code.length c4, .int .i64 io, .int .i64 ia, .int .i64 ib, .int .i64 ic]] w fun e w' => e = .returned (.bool (((u0 && !r) || ia == 0) && (u1 || ib == 0) && (u2 || ic == 0))) ∧ Below w.heap.size w w' := by
  obtain ⟨wa, hwa⟩ : ∃ wa, w.alloc (.cells #[.slice ag p.glob.length cg, .slice az p.shapes.length cs, .slice af p.funcs.length cf, .slice a0 f.args.length c0, .int .i64 f.res, .int .i64 f.slots, .slice a3 f.objs.length c3, .slice a4 f.code.length c4, .int .i64 io, .int .i64 ia, .int .i64 ib, .int .i64 ic] 83) = wa := ⟨_, rfl⟩
  have HT : Hid (OnS w wa w.heap.size p f io ia ib ic ag az af cg cs cf a0 a3 a4 c0 c3 c4) := onS_start p f io ia ib ic ag az af cg cs cf a0 a3 a4 c0 c3 c4 hwa hp hf
  have hK : Hid (∀ w, Calls Try.prog 64 #[.int .i64 io] w fun e w' => e = .returned (.bool true) ∧ Below w.heap.size w w') := fun w => by
    have := known_any io w
    rw [hk.out] at this
    exact this
  have hU : Hid (∀ w, Calls Try.prog 65 #[.int .i64 io] w fun e w' => e = .returned (.tuple #[.bool u0, .bool u1, .bool u2]) ∧ Below w.heap.size w w') := fun w => by
    have := uses_any io w
    rw [hu.out.1, hu.out.2.1, hu.out.2.2] at this
    exact this
  clear hp hf hk hu
  have hx : ∃ x0 : Bool, (u0 && !r) = x0 := ⟨_, rfl⟩
  obtain ⟨x0, hx⟩ := hx
  rw [hx]
  cases r
  · obtain rfl : u0 = x0 := by simpa using hx
    clear hx
    rcases use_or u0 ia with rfl | ⟨rfl, rfl⟩ | ⟨rfl, h0⟩ <;> rcases use_or u1 ib with rfl | ⟨rfl, rfl⟩ | ⟨rfl, h1⟩ <;> rcases use_or u2 ic with rfl | ⟨rfl, rfl⟩ | ⟨rfl, h2⟩ <;> (as_aux_lemma =>
      obtain ⟨d0, d1, d2, d3, d4, d5, d6, d7, d8, d9, d10, d11⟩ := HT.out.box.c
      go_enter Try.func43, Try.ntmps43
      go_wp2_with fail
      refine (hK.out _).mono ?_
      rintro e w1 ⟨rfl, hb⟩
      have HT1 := HT.out.below hb
      clear hb d0 d1 d2 d3 d4 d5 d6 d7 d8 d9 d10 d11
      obtain ⟨d0, d1, d2, d3, d4, d5, d6, d7, d8, d9, d10, d11⟩ := HT1.box.c
      have HT1 : Hid (OnS w w1 w.heap.size _ _ _ _ _ _ _ _ _ _ _ _ _ _ _ _ _ _) := HT1
      go_wp2_with fail
      refine (hU.out _).mono ?_
      rintro e w2 ⟨rfl, hb⟩
      have HT2 := HT1.out.below hb
      clear hb HT1 d0 d1 d2 d3 d4 d5 d6 d7 d8 d9 d10 d11
      obtain ⟨d0, d1, d2, d3, d4, d5, d6, d7, d8, d9, d10, d11⟩ := HT2.box.c
      have HT2 : Hid (OnS w w2 w.heap.size _ _ _ _ _ _ _ _ _ _ _ _ _ _ _ _ _ _) := HT2
      go_wp2_with fail
      refine (resl_any _ _ _ _ _ _ _ _ _ _ _ _ _ _ _ _ _ _ hr _ HT2.out.pp HT2.out.ff).mono ?_
      rintro e w3 ⟨rfl, hb⟩
      have HT3 := HT2.out.below hb
      clear hb HT2 d0 d1 d2 d3 d4 d5 d6 d7 d8 d9 d10 d11
      obtain ⟨d0, d1, d2, d3, d4, d5, d6, d7, d8, d9, d10, d11⟩ := HT3.box.c
      have HB : Hid (Below w.heap.size w w3) := HT3.low
      clear HT3 hr hU hK HT
      go_wp2_with fail
      go_ret
      exact ⟨ret_bool (by simp_all), HB.out⟩)
  · obtain rfl : false = x0 := by simpa using hx
    clear hx
    by_cases h0 : ia = 0
    · subst h0
      rcases use_or u1 ib with rfl | ⟨rfl, rfl⟩ | ⟨rfl, h1⟩ <;> rcases use_or u2 ic with rfl | ⟨rfl, rfl⟩ | ⟨rfl, h2⟩ <;> (as_aux_lemma =>
        obtain ⟨d0, d1, d2, d3, d4, d5, d6, d7, d8, d9, d10, d11⟩ := HT.out.box.c
        go_enter Try.func43, Try.ntmps43
        go_wp2_with fail
        refine (hK.out _).mono ?_
        rintro e w1 ⟨rfl, hb⟩
        have HT1 := HT.out.below hb
        clear hb d0 d1 d2 d3 d4 d5 d6 d7 d8 d9 d10 d11
        obtain ⟨d0, d1, d2, d3, d4, d5, d6, d7, d8, d9, d10, d11⟩ := HT1.box.c
        have HT1 : Hid (OnS w w1 w.heap.size _ _ _ _ _ _ _ _ _ _ _ _ _ _ _ _ _ _) := HT1
        go_wp2_with fail
        refine (hU.out _).mono ?_
        rintro e w2 ⟨rfl, hb⟩
        have HT2 := HT1.out.below hb
        clear hb HT1 d0 d1 d2 d3 d4 d5 d6 d7 d8 d9 d10 d11
        obtain ⟨d0, d1, d2, d3, d4, d5, d6, d7, d8, d9, d10, d11⟩ := HT2.box.c
        have HT2 : Hid (OnS w w2 w.heap.size _ _ _ _ _ _ _ _ _ _ _ _ _ _ _ _ _ _) := HT2
        go_wp2_with fail
        refine (resl_any _ _ _ _ _ _ _ _ _ _ _ _ _ _ _ _ _ _ hr _ HT2.out.pp HT2.out.ff).mono ?_
        rintro e w3 ⟨rfl, hb⟩
        have HT3 := HT2.out.below hb
        clear hb HT2 d0 d1 d2 d3 d4 d5 d6 d7 d8 d9 d10 d11
        obtain ⟨d0, d1, d2, d3, d4, d5, d6, d7, d8, d9, d10, d11⟩ := HT3.box.c
        have HB : Hid (Below w.heap.size w w3) := HT3.low
        clear HT3 hr hU hK HT
        go_wp2_with fail
        go_ret
        exact ⟨ret_bool (by simp_all), HB.out⟩)
    · have h0' : (ia == 0) = false := by simpa using h0
      clear h0
      obtain ⟨d0, d1, d2, d3, d4, d5, d6, d7, d8, d9, d10, d11⟩ := HT.out.box.c
      rw [h0']
      go_enter Try.func43, Try.ntmps43
      go_wp2_with fail
      refine (hK.out _).mono ?_
      rintro e w1 ⟨rfl, hb⟩
      have HT1 := HT.out.below hb
      clear hb d0 d1 d2 d3 d4 d5 d6 d7 d8 d9 d10 d11
      obtain ⟨d0, d1, d2, d3, d4, d5, d6, d7, d8, d9, d10, d11⟩ := HT1.box.c
      have HT1 : Hid (OnS w w1 w.heap.size _ _ _ _ _ _ _ _ _ _ _ _ _ _ _ _ _ _) := HT1
      go_wp2_with fail
      refine (hU.out _).mono ?_
      rintro e w2 ⟨rfl, hb⟩
      have HT2 := HT1.out.below hb
      clear hb HT1 d0 d1 d2 d3 d4 d5 d6 d7 d8 d9 d10 d11
      obtain ⟨d0, d1, d2, d3, d4, d5, d6, d7, d8, d9, d10, d11⟩ := HT2.box.c
      have HT2 : Hid (OnS w w2 w.heap.size _ _ _ _ _ _ _ _ _ _ _ _ _ _ _ _ _ _) := HT2
      go_wp2_with fail
      refine (resl_any _ _ _ _ _ _ _ _ _ _ _ _ _ _ _ _ _ _ hr _ HT2.out.pp HT2.out.ff).mono ?_
      rintro e w3 ⟨rfl, hb⟩
      have HT3 := HT2.out.below hb
      clear hb HT2 d0 d1 d2 d3 d4 d5 d6 d7 d8 d9 d10 d11
      obtain ⟨d0, d1, d2, d3, d4, d5, d6, d7, d8, d9, d10, d11⟩ := HT3.box.c
      have HB : Hid (Below w.heap.size w w3) := HT3.low
      clear HT3 hr hU hK HT
      go_wp2_with fail
      go_ret
      exact ⟨ret_bool (by simp), HB.out⟩

theorem formed_any (p : Pg) (f : Fn) (io ia ib ic : Int) (ag az af : Option Addr) (cg cs cf : Nat) (a0 a3 a4 : Option Addr) (c0 c3 c4 : Nat) {s : Bool} (hs : Hid (formB p f ⟨io, ia, ib, ic⟩ = s)) (w : World) (hp : PgV Any w (.slice ag p.glob.length cg) (.slice az p.shapes.length cs) (.slice af p.funcs.length cf) p) (hf : FnC Any w f (.slice a0 f.args.length c0) (.int .i64 f.res) (.int .i64 f.slots) (.slice a3 f.objs.length c3) (.slice a4 f.code.length c4)) :
    Calls Try.prog 43 #[.agg #[.slice ag p.glob.length cg, .slice az p.shapes.length cs, .slice af p.funcs.length cf, .slice a0 f.args.length c0, .int .i64 f.res, .int .i64 f.slots, .slice a3 f.objs.length c3, .slice a4 f.code.length c4, .int .i64 io, .int .i64 ia, .int .i64 ib, .int .i64 ic]] w fun e w' => e = .returned (.bool s) ∧ Below w.heap.size w w' := by
  obtain rfl := hs.out
  cases hk : kn io with
  | true =>
    have := formed_known p f io ia ib ic ag az af cg cs cf a0 a3 a4 c0 c3 c4 (show Hid (kn io = true) from hk) ⟨rfl, rfl, rfl⟩ rfl w hp hf
    have e : formB p f ⟨io, ia, ib, ic⟩ = ((((ro io).1 != 0 && !resl p f ⟨io, ia, ib, ic⟩) || ia == 0) && ((ro io).2.1 != 0 || ib == 0) && ((ro io).2.2 != 0 || ic == 0)) := by
      unfold formB
      simp only [hk, Bool.true_and]
    rw [e]
    exact this
  | false =>
    have e : formB p f ⟨io, ia, ib, ic⟩ = false := by unfold formB; simp only [hk, Bool.false_and]
    rw [e]
    obtain ⟨wa, hwa⟩ : ∃ wa, w.alloc (.cells #[.slice ag p.glob.length cg, .slice az p.shapes.length cs, .slice af p.funcs.length cf, .slice a0 f.args.length c0, .int .i64 f.res, .int .i64 f.slots, .slice a3 f.objs.length c3, .slice a4 f.code.length c4, .int .i64 io, .int .i64 ia, .int .i64 ib, .int .i64 ic] 83) = wa := ⟨_, rfl⟩
    have HT : Hid (OnS w wa w.heap.size p f io ia ib ic ag az af cg cs cf a0 a3 a4 c0 c3 c4) := onS_start p f io ia ib ic ag az af cg cs cf a0 a3 a4 c0 c3 c4 hwa hp hf
    have hK : Hid (∀ w, Calls Try.prog 64 #[.int .i64 io] w fun e w' => e = .returned (.bool false) ∧ Below w.heap.size w w') := fun w => by
      have := known_any io w
      rw [hk] at this
      exact this
    obtain ⟨d0, d1, d2, d3, d4, d5, d6, d7, d8, d9, d10, d11⟩ := HT.out.box.c
    clear hk e hp hf hs
    go_enter Try.func43, Try.ntmps43
    go_wp2_with fail
    refine (hK.out _).mono ?_
    rintro e w1 ⟨rfl, hb⟩
    have HB : Hid (Below w.heap.size w w1) := (HT.out.below hb).low
    clear hb
    go_wp2_with fail
    go_ret
    exact ⟨rfl, HB.out⟩

end Go.Proofs.Ytmjappcjfjajmaa

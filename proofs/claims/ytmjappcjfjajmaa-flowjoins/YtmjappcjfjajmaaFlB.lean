/- flow's site: its box; the walks of field, callee, mayPass. -/
import Derived.Test.YtmjappcjfjajmaaFlM
import Derived.Test.YtmjappcjfjajmaaCkY
import Derived.Test.YtmjappcjfjajmaaImK
namespace Go.Proofs.Ytmjappcjfjajmaa
open Go.RowKit

/-- A site's box, laid since w, and what it leads to. -/
structure OnT (w wk : World) (bs : Nat) (p : Pg) (f : Fn) (io ia ib ic : Int) (ag az af : Option Addr) (cg cs cf : Nat) (a0 a3 a4 : Option Addr) (c0 c3 c4 : Nat) (K : List Int) (ak : Option Addr) (ck : Nat) : Prop where
  low : Below w.heap.size w wk
  box : SiC wk bs p f io ia ib ic ag az af cg cs cf a0 a3 a4 c0 c3 c4
  k12 : wk.cell? ⟨bs, 12, none⟩ = some (.slice ak K.length ck)
  pp : PgV Any wk (.slice ag p.glob.length cg) (.slice az p.shapes.length cs) (.slice af p.funcs.length cf) p
  ff : FnC Any wk f (.slice a0 f.args.length c0) (.int .i64 f.res) (.int .i64 f.slots) (.slice a3 f.objs.length c3) (.slice a4 f.code.length c4)
  kk : SrcP Any wk (.slice ak K.length ck) K
section
variable {p : Pg} {f : Fn} {io ia ib ic : Int} {ag az af a0 a3 a4 : Option Addr} {cg cs cf c0 c3 c4 : Nat} {K : List Int} {ak : Option Addr} {ck : Nat} {w wk w2 : World} {bs : Nat}
theorem OnT.below (h : OnT w wk bs p f io ia ib ic ag az af cg cs cf a0 a3 a4 c0 c3 c4 K ak ck) (hb : Below wk.heap.size wk w2) : OnT w w2 bs p f io ia ib ic ag az af cg cs cf a0 a3 a4 c0 c3 c4 K ak ck :=
  ⟨h.low.trans (hb.mono h.low.size), h.box.below hb h.box.lt, (hb.cell (p := ⟨bs, 12, none⟩) h.box.lt).trans h.k12, h.pp.below hb, h.ff.below hb, h.kk.stay (Stay.all hb)⟩
theorem OnT.drewN (h : OnT w wk bs p f io ia ib ic ag az af cg cs cf a0 a3 a4 c0 c3 c4 K ak ck) (q : Nat) : OnT w (wk.drewN q) bs p f io ia ib ic ag az af cg cs cf a0 a3 a4 c0 c3 c4 K ak ck := h.below (below_drewN (Below.refl _ _) q)
end
theorem onT_start (p : Pg) (f : Fn) (io ia ib ic : Int) (ag az af : Option Addr) (cg cs cf : Nat) (a0 a3 a4 : Option Addr) (c0 c3 c4 : Nat) (K : List Int) (ak : Option Addr) (ck : Nat) {w wa : World} (hwa : w.alloc (.cells #[.slice ag p.glob.length cg, .slice az p.shapes.length cs, .slice af p.funcs.length cf, .slice a0 f.args.length c0, .int .i64 f.res, .int .i64 f.slots, .slice a3 f.objs.length c3, .slice a4 f.code.length c4, .int .i64 io, .int .i64 ia, .int .i64 ib, .int .i64 ic, .slice ak K.length ck] 66) = wa) (hp : PgV Any w (.slice ag p.glob.length cg) (.slice az p.shapes.length cs) (.slice af p.funcs.length cf) p) (hf : FnC Any w f (.slice a0 f.args.length c0) (.int .i64 f.res) (.int .i64 f.slots) (.slice a3 f.objs.length c3) (.slice a4 f.code.length c4)) (hk : SrcP Any w (.slice ak K.length ck) K) : OnT w wa w.heap.size p f io ia ib ic ag az af cg cs cf a0 a3 a4 c0 c3 c4 K ak ck := by
  have hA : Below w.heap.size w wa := hwa ▸ (Below.refl _ _).alloc (Nat.le_refl _) _
  subst hwa
  exact ⟨hA, ⟨cell_new w _ _ rfl, cell_new w _ _ rfl, cell_new w _ _ rfl, cell_new w _ _ rfl, cell_new w _ _ rfl, cell_new w _ _ rfl, cell_new w _ _ rfl, cell_new w _ _ rfl, cell_new w _ _ rfl, cell_new w _ _ rfl, cell_new w _ _ rfl, cell_new w _ _ rfl⟩, cell_new w _ _ rfl, hp.below hA, hf.below hA, hk.stay (Stay.all hA)⟩

theorem fhasRes_any (f : Fn) (a0 a3 a4 : Option Addr) (c0 c3 c4 : Nat) {r : Bool} (hr : Hid ((f.res != 0) = r)) (w : World) : Calls Try.prog 49 #[.agg #[.slice a0 f.args.length c0, .int .i64 f.res, .int .i64 f.slots, .slice a3 f.objs.length c3, .slice a4 f.code.length c4]] w fun e w' => e = .returned (.bool r) ∧ Below w.heap.size w w' := by
  obtain rfl := hr.out
  clear hr
  have HB : Hid (Below w.heap.size w (w.alloc (.cells #[.slice a0 f.args.length c0, .int .i64 f.res, .int .i64 f.slots, .slice a3 f.objs.length c3, .slice a4 f.code.length c4] 41))) := (Below.refl _ _).alloc (Nat.le_refl _) _
  go_enter Try.func49, Try.ntmps49
  go_wp2_with fail
  go_ret
  exact ⟨rfl, HB.out⟩

theorem fieldO_up {p : Pg} {base k c : Int} (h : upB base k = false) : fieldO p base k c = none := by unfold fieldO; rw [h]; rfl
theorem fieldO_sh {p : Pg} {base c : Int} {x : Nat} (h2 : p.shapes.length ≤ x) : fieldO p base (base + (x : Int)) c = none := by
  unfold fieldO
  split
  · rw [show (base + (x : Int) - base).toNat = x by omega, List.getElem?_eq_none h2]
  · rfl
theorem fieldO_len {p : Pg} {base : Int} {x c : Nat} {L : List Int} (hL : p.shapes[x]? = some L) (h3 : L.length ≤ c) : fieldO p base (base + (x : Int)) (c : Int) = none := by
  unfold fieldO
  split
  · rw [show (base + (x : Int) - base).toNat = x by omega, hL]
    simp only
    rw [if_pos (by omega), Int.toNat_natCast, List.getElem?_eq_none h3]
  · rfl
theorem fieldO_at {p : Pg} {base : Int} {x c : Nat} {L : List Int} (hx : x < 16) (hL : p.shapes[x]? = some L) (h3 : c < L.length) : fieldO p base (base + (x : Int)) (c : Int) = some (L.getD c 0) := by
  unfold fieldO
  rw [if_pos (by unfold upB; exact decide_eq_true (by omega)), show (base + (x : Int) - base).toNat = x by omega, hL]
  simp only
  rw [if_pos (by omega), Int.toNat_natCast, List.getElem?_eq_getElem h3, List.getD_eq_getElem?_getD, List.getElem?_eq_getElem h3]
  rfl
theorem up_is {base k : Int} (h : upB base k = true) : ∃ x : Nat, k = base + (x : Int) ∧ x < 16 ∧ upN base k = (x : Int) := by
  unfold upB at h
  have := of_decide_eq_true h
  refine ⟨(k - base).toNat, by omega, by omega, ?_⟩
  unfold upN
  rw [if_pos this]
  omega
theorem upN_out {base k : Int} (h : upB base k = false) : upN base k = 0 := by
  unfold upB at h
  unfold upN
  rw [if_neg (of_decide_eq_false h)]
/-- What a field tells. -/
def fldIs (r : Option Int) (e : Ending) : Prop := e = .returned (.tuple #[.int .i64 (r.getD 0), .bool r.isSome])


set_option maxHeartbeats 4000000 in
theorem field_ptr (p : Pg) (f : Fn) (io ia ib ic : Int) (ag az af : Option Addr) (cg cs cf : Nat) (a0 a3 a4 : Option Addr) (c0 c3 c4 : Nat) (K : List Int) (ak : Option Addr) (ck : Nat) {n c : Nat} {r : Option Int} (h19 : ¬ io = 19) (h20 : ¬ io = 20) (hr : Hid (fieldO p 16 (kat K (n : Int)) (c : Int) = r)) (hn : n < K.length) (w : World) (hp : PgV Any w (.slice ag p.glob.length cg) (.slice az p.shapes.length cs) (.slice af p.funcs.length cf) p) (hf : FnC Any w f (.slice a0 f.args.length c0) (.int .i64 f.res) (.int .i64 f.slots) (.slice a3 f.objs.length c3) (.slice a4 f.code.length c4)) (hk : SrcP Any w (.slice ak K.length ck) K) :
    Calls Try.prog 47 #[.agg #[.slice ag p.glob.length cg, .slice az p.shapes.length cs, .slice af p.funcs.length cf, .slice a0 f.args.length c0, .int .i64 f.res, .int .i64 f.slots, .slice a3 f.objs.length c3, .slice a4 f.code.length c4, .int .i64 io, .int .i64 ia, .int .i64 ib, .int .i64 ic, .slice ak K.length ck], .int .i64 (n : Int), .int .i64 (c : Int)] w fun e w' => fldIs r e ∧ Below w.heap.size w w' := by
  obtain ⟨wa, hwa⟩ : ∃ wa, w.alloc (.cells #[.slice ag p.glob.length cg, .slice az p.shapes.length cs, .slice af p.funcs.length cf, .slice a0 f.args.length c0, .int .i64 f.res, .int .i64 f.slots, .slice a3 f.objs.length c3, .slice a4 f.code.length c4, .int .i64 io, .int .i64 ia, .int .i64 ib, .int .i64 ic, .slice ak K.length ck] 66) = wa := ⟨_, rfl⟩
  have HT : Hid (OnT w wa w.heap.size p f io ia ib ic ag az af cg cs cf a0 a3 a4 c0 c3 c4 K ak ck) := onT_start p f io ia ib ic ag az af cg cs cf a0 a3 a4 c0 c3 c4 K ak ck hwa hp hf hk
  obtain ⟨d0, d1, d2, d3, d4, d5, d6, d7, d8, d9, d10, d11⟩ := HT.out.box.c
  have d12 := HT.out.k12
  obtain ⟨bk, ok, rfl, hbk, _, kc⟩ := HT.out.kk.some hn
  have hnI : (n : Int) < (K.length : Int) := by omega
  have HK : Hid (kat K (n : Int) = K.getD n 0) := by unfold Hid kat; rw [Int.toNat_natCast]
  obtain ⟨k, hkk⟩ : ∃ k, K.getD n 0 = k := ⟨_, rfl⟩
  rw [hkk] at kc HK
  rw [HK.out] at hr
  clear hp hf hk hkk
  have e19 : (io == 19) = false := by simpa using h19
  have e20 : (io == 20) = false := by simpa using h20
  cases hu : upB 16 k with
  | false =>
    have HR : Hid (r = none) := hr.out.symm.trans (fieldO_up hu)
    have HU : Hid (upN 16 k = 0) := upN_out hu
    have HUB : Hid (upB 16 k = false) := hu
    rw [HR.out]
    clear hu hr HR
    go_enter Try.func47, Try.ntmps47
    go_wp2_with fail
    refine (points_any HU HUB _).mono ?_
    rintro e w1 ⟨rfl, rfl⟩
    go_wp2_with fail
    go_ret2
    exact ⟨rfl, HT.out.low⟩
  | true =>
    obtain ⟨x, rfl, hx, hun⟩ := up_is hu
    have HU : Hid (upN 16 (16 + (x : Int)) = (x : Int)) := hun
    have HUB : Hid (upB 16 (16 + (x : Int)) = true) := hu
    obtain ⟨k, hkx⟩ : ∃ k, 16 + (x : Int) = k := ⟨_, rfl⟩
    have HX : Hid (16 + (x : Int) = k) := hkx
    rw [hkx] at kc HU HUB
    clear hu hun hkx
    by_cases hs : p.shapes.length ≤ x
    · have HR : Hid (r = none) := hr.out.symm.trans (fieldO_sh hs)
      have hsI : (p.shapes.length : Int) ≤ (x : Int) := by omega
      rw [HR.out]
      clear hr HR
      go_enter Try.func47, Try.ntmps47
      go_wp2_with fail
      refine (points_any HU HUB _).mono ?_
      rintro e w1 ⟨rfl, rfl⟩
      go_wp2_with fail
      go_ret2
      exact ⟨rfl, HT.out.low⟩
    · obtain ⟨L, hL⟩ : ∃ L, p.shapes[x]? = some L := ⟨_, List.getElem?_eq_getElem (by omega)⟩
      obtain ⟨sb, so, v, rfl, hsb, _, sc, hsv⟩ := HT.out.pp.shapes.some hL
      obtain ⟨la, lc, rfl⟩ := hsv.len
      have hxI : (x : Int) < (p.shapes.length : Int) := by omega
      have HLL : Hid (p.shapes[x]? = some L) := hL
      clear hL
      by_cases hc : L.length ≤ c
      · have HR : Hid (r = none) := hr.out.symm.trans (fieldO_len HLL.out hc)
        have hcI : (L.length : Int) ≤ (c : Int) := by omega
        rw [HR.out]
        clear hr HR
        go_enter Try.func47, Try.ntmps47
        go_wp2_with fail
        refine (points_any HU HUB _).mono ?_
        rintro e w1 ⟨rfl, rfl⟩
        go_wp2_with fail
        go_ret2
        exact ⟨rfl, HT.out.low⟩
      · have hc' : c < L.length := by omega
        have HR : Hid (r = some (L.getD c 0)) := hr.out.symm.trans (fieldO_at hx HLL.out hc')
        obtain ⟨fb, fo, rfl, hfb, _, fc⟩ := hsv.some hc'
        have hcI : (c : Int) < (L.length : Int) := by omega
        rw [HR.out]
        obtain ⟨z, hz⟩ : ∃ z, L.getD c 0 = z := ⟨_, rfl⟩
        rw [hz] at fc
        rw [hz]
        clear hr HR hz hsv
        go_enter Try.func47, Try.ntmps47
        go_wp2_with fail
        refine (points_any HU HUB _).mono ?_
        rintro e w1 ⟨rfl, rfl⟩
        go_wp2_with fail
        go_ret2
        exact ⟨rfl, HT.out.low⟩

set_option maxHeartbeats 4000000 in
theorem field_19 (p : Pg) (f : Fn) (io ia ib ic : Int) (ag az af : Option Addr) (cg cs cf : Nat) (a0 a3 a4 : Option Addr) (c0 c3 c4 : Nat) (K : List Int) (ak : Option Addr) (ck : Nat) {n c : Nat} {r : Option Int} (ho : io = 19) (hr : Hid (fieldO p 64 (kat K (n : Int)) (c : Int) = r)) (hn : n < K.length) (w : World) (hp : PgV Any w (.slice ag p.glob.length cg) (.slice az p.shapes.length cs) (.slice af p.funcs.length cf) p) (hf : FnC Any w f (.slice a0 f.args.length c0) (.int .i64 f.res) (.int .i64 f.slots) (.slice a3 f.objs.length c3) (.slice a4 f.code.length c4)) (hk : SrcP Any w (.slice ak K.length ck) K) :
    Calls Try.prog 47 #[.agg #[.slice ag p.glob.length cg, .slice az p.shapes.length cs, .slice af p.funcs.length cf, .slice a0 f.args.length c0, .int .i64 f.res, .int .i64 f.slots, .slice a3 f.objs.length c3, .slice a4 f.code.length c4, .int .i64 io, .int .i64 ia, .int .i64 ib, .int .i64 ic, .slice ak K.length ck], .int .i64 (n : Int), .int .i64 (c : Int)] w fun e w' => fldIs r e ∧ Below w.heap.size w w' := by
  subst ho
  obtain ⟨wa, hwa⟩ : ∃ wa, w.alloc (.cells #[.slice ag p.glob.length cg, .slice az p.shapes.length cs, .slice af p.funcs.length cf, .slice a0 f.args.length c0, .int .i64 f.res, .int .i64 f.slots, .slice a3 f.objs.length c3, .slice a4 f.code.length c4, .int .i64 19, .int .i64 ia, .int .i64 ib, .int .i64 ic, .slice ak K.length ck] 66) = wa := ⟨_, rfl⟩
  have HT : Hid (OnT w wa w.heap.size p f 19 ia ib ic ag az af cg cs cf a0 a3 a4 c0 c3 c4 K ak ck) := onT_start p f 19 ia ib ic ag az af cg cs cf a0 a3 a4 c0 c3 c4 K ak ck hwa hp hf hk
  obtain ⟨d0, d1, d2, d3, d4, d5, d6, d7, d8, d9, d10, d11⟩ := HT.out.box.c
  have d12 := HT.out.k12
  obtain ⟨bk, ok, rfl, hbk, _, kc⟩ := HT.out.kk.some hn
  have hnI : (n : Int) < (K.length : Int) := by omega
  have HK : Hid (kat K (n : Int) = K.getD n 0) := by unfold Hid kat; rw [Int.toNat_natCast]
  obtain ⟨k, hkk⟩ : ∃ k, K.getD n 0 = k := ⟨_, rfl⟩
  rw [hkk] at kc HK
  rw [HK.out] at hr
  clear hp hf hk hkk
  cases hu : upB 64 k with
  | false =>
    have HR : Hid (r = none) := hr.out.symm.trans (fieldO_up hu)
    have HU : Hid (upN 64 k = 0) := upN_out hu
    have HUB : Hid (upB 64 k = false) := hu
    rw [HR.out]
    clear hu hr HR
    go_enter Try.func47, Try.ntmps47
    go_wp2_with fail
    refine (places_any HU HUB _).mono ?_
    rintro e w1 ⟨rfl, rfl⟩
    go_wp2_with fail
    go_ret2
    exact ⟨rfl, HT.out.low⟩
  | true =>
    obtain ⟨x, rfl, hx, hun⟩ := up_is hu
    have HU : Hid (upN 64 (64 + (x : Int)) = (x : Int)) := hun
    have HUB : Hid (upB 64 (64 + (x : Int)) = true) := hu
    obtain ⟨k, hkx⟩ : ∃ k, 64 + (x : Int) = k := ⟨_, rfl⟩
    have HX : Hid (64 + (x : Int) = k) := hkx
    rw [hkx] at kc HU HUB
    clear hu hun hkx
    by_cases hs : p.shapes.length ≤ x
    · have HR : Hid (r = none) := hr.out.symm.trans (fieldO_sh hs)
      have hsI : (p.shapes.length : Int) ≤ (x : Int) := by omega
      rw [HR.out]
      clear hr HR
      go_enter Try.func47, Try.ntmps47
      go_wp2_with fail
      refine (places_any HU HUB _).mono ?_
      rintro e w1 ⟨rfl, rfl⟩
      go_wp2_with fail
      go_ret2
      exact ⟨rfl, HT.out.low⟩
    · obtain ⟨L, hL⟩ : ∃ L, p.shapes[x]? = some L := ⟨_, List.getElem?_eq_getElem (by omega)⟩
      obtain ⟨sb, so, v, rfl, hsb, _, sc, hsv⟩ := HT.out.pp.shapes.some hL
      obtain ⟨la, lc, rfl⟩ := hsv.len
      have hxI : (x : Int) < (p.shapes.length : Int) := by omega
      have HLL : Hid (p.shapes[x]? = some L) := hL
      clear hL
      by_cases hc : L.length ≤ c
      · have HR : Hid (r = none) := hr.out.symm.trans (fieldO_len HLL.out hc)
        have hcI : (L.length : Int) ≤ (c : Int) := by omega
        rw [HR.out]
        clear hr HR
        go_enter Try.func47, Try.ntmps47
        go_wp2_with fail
        refine (places_any HU HUB _).mono ?_
        rintro e w1 ⟨rfl, rfl⟩
        go_wp2_with fail
        go_ret2
        exact ⟨rfl, HT.out.low⟩
      · have hc' : c < L.length := by omega
        have HR : Hid (r = some (L.getD c 0)) := hr.out.symm.trans (fieldO_at hx HLL.out hc')
        obtain ⟨fb, fo, rfl, hfb, _, fc⟩ := hsv.some hc'
        have hcI : (c : Int) < (L.length : Int) := by omega
        rw [HR.out]
        obtain ⟨z, hz⟩ : ∃ z, L.getD c 0 = z := ⟨_, rfl⟩
        rw [hz] at fc
        rw [hz]
        clear hr HR hz hsv
        go_enter Try.func47, Try.ntmps47
        go_wp2_with fail
        refine (places_any HU HUB _).mono ?_
        rintro e w1 ⟨rfl, rfl⟩
        go_wp2_with fail
        go_ret2
        exact ⟨rfl, HT.out.low⟩

set_option maxHeartbeats 4000000 in
theorem field_20 (p : Pg) (f : Fn) (io ia ib ic : Int) (ag az af : Option Addr) (cg cs cf : Nat) (a0 a3 a4 : Option Addr) (c0 c3 c4 : Nat) (K : List Int) (ak : Option Addr) (ck : Nat) {n c : Nat} {r : Option Int} (ho : io = 20) (hr : Hid (fieldO p 64 (kat K (n : Int)) (c : Int) = r)) (hn : n < K.length) (w : World) (hp : PgV Any w (.slice ag p.glob.length cg) (.slice az p.shapes.length cs) (.slice af p.funcs.length cf) p) (hf : FnC Any w f (.slice a0 f.args.length c0) (.int .i64 f.res) (.int .i64 f.slots) (.slice a3 f.objs.length c3) (.slice a4 f.code.length c4)) (hk : SrcP Any w (.slice ak K.length ck) K) :
    Calls Try.prog 47 #[.agg #[.slice ag p.glob.length cg, .slice az p.shapes.length cs, .slice af p.funcs.length cf, .slice a0 f.args.length c0, .int .i64 f.res, .int .i64 f.slots, .slice a3 f.objs.length c3, .slice a4 f.code.length c4, .int .i64 io, .int .i64 ia, .int .i64 ib, .int .i64 ic, .slice ak K.length ck], .int .i64 (n : Int), .int .i64 (c : Int)] w fun e w' => fldIs r e ∧ Below w.heap.size w w' := by
  subst ho
  obtain ⟨wa, hwa⟩ : ∃ wa, w.alloc (.cells #[.slice ag p.glob.length cg, .slice az p.shapes.length cs, .slice af p.funcs.length cf, .slice a0 f.args.length c0, .int .i64 f.res, .int .i64 f.slots, .slice a3 f.objs.length c3, .slice a4 f.code.length c4, .int .i64 20, .int .i64 ia, .int .i64 ib, .int .i64 ic, .slice ak K.length ck] 66) = wa := ⟨_, rfl⟩
  have HT : Hid (OnT w wa w.heap.size p f 20 ia ib ic ag az af cg cs cf a0 a3 a4 c0 c3 c4 K ak ck) := onT_start p f 20 ia ib ic ag az af cg cs cf a0 a3 a4 c0 c3 c4 K ak ck hwa hp hf hk
  obtain ⟨d0, d1, d2, d3, d4, d5, d6, d7, d8, d9, d10, d11⟩ := HT.out.box.c
  have d12 := HT.out.k12
  obtain ⟨bk, ok, rfl, hbk, _, kc⟩ := HT.out.kk.some hn
  have hnI : (n : Int) < (K.length : Int) := by omega
  have HK : Hid (kat K (n : Int) = K.getD n 0) := by unfold Hid kat; rw [Int.toNat_natCast]
  obtain ⟨k, hkk⟩ : ∃ k, K.getD n 0 = k := ⟨_, rfl⟩
  rw [hkk] at kc HK
  rw [HK.out] at hr
  clear hp hf hk hkk
  cases hu : upB 64 k with
  | false =>
    have HR : Hid (r = none) := hr.out.symm.trans (fieldO_up hu)
    have HU : Hid (upN 64 k = 0) := upN_out hu
    have HUB : Hid (upB 64 k = false) := hu
    rw [HR.out]
    clear hu hr HR
    go_enter Try.func47, Try.ntmps47
    go_wp2_with fail
    refine (places_any HU HUB _).mono ?_
    rintro e w1 ⟨rfl, rfl⟩
    go_wp2_with fail
    go_ret2
    exact ⟨rfl, HT.out.low⟩
  | true =>
    obtain ⟨x, rfl, hx, hun⟩ := up_is hu
    have HU : Hid (upN 64 (64 + (x : Int)) = (x : Int)) := hun
    have HUB : Hid (upB 64 (64 + (x : Int)) = true) := hu
    obtain ⟨k, hkx⟩ : ∃ k, 64 + (x : Int) = k := ⟨_, rfl⟩
    have HX : Hid (64 + (x : Int) = k) := hkx
    rw [hkx] at kc HU HUB
    clear hu hun hkx
    by_cases hs : p.shapes.length ≤ x
    · have HR : Hid (r = none) := hr.out.symm.trans (fieldO_sh hs)
      have hsI : (p.shapes.length : Int) ≤ (x : Int) := by omega
      rw [HR.out]
      clear hr HR
      go_enter Try.func47, Try.ntmps47
      go_wp2_with fail
      refine (places_any HU HUB _).mono ?_
      rintro e w1 ⟨rfl, rfl⟩
      go_wp2_with fail
      go_ret2
      exact ⟨rfl, HT.out.low⟩
    · obtain ⟨L, hL⟩ : ∃ L, p.shapes[x]? = some L := ⟨_, List.getElem?_eq_getElem (by omega)⟩
      obtain ⟨sb, so, v, rfl, hsb, _, sc, hsv⟩ := HT.out.pp.shapes.some hL
      obtain ⟨la, lc, rfl⟩ := hsv.len
      have hxI : (x : Int) < (p.shapes.length : Int) := by omega
      have HLL : Hid (p.shapes[x]? = some L) := hL
      clear hL
      by_cases hc : L.length ≤ c
      · have HR : Hid (r = none) := hr.out.symm.trans (fieldO_len HLL.out hc)
        have hcI : (L.length : Int) ≤ (c : Int) := by omega
        rw [HR.out]
        clear hr HR
        go_enter Try.func47, Try.ntmps47
        go_wp2_with fail
        refine (places_any HU HUB _).mono ?_
        rintro e w1 ⟨rfl, rfl⟩
        go_wp2_with fail
        go_ret2
        exact ⟨rfl, HT.out.low⟩
      · have hc' : c < L.length := by omega
        have HR : Hid (r = some (L.getD c 0)) := hr.out.symm.trans (fieldO_at hx HLL.out hc')
        obtain ⟨fb, fo, rfl, hfb, _, fc⟩ := hsv.some hc'
        have hcI : (c : Int) < (L.length : Int) := by omega
        rw [HR.out]
        obtain ⟨z, hz⟩ : ∃ z, L.getD c 0 = z := ⟨_, rfl⟩
        rw [hz] at fc
        rw [hz]
        clear hr HR hz hsv
        go_enter Try.func47, Try.ntmps47
        go_wp2_with fail
        refine (places_any HU HUB _).mono ?_
        rintro e w1 ⟨rfl, rfl⟩
        go_wp2_with fail
        go_ret2
        exact ⟨rfl, HT.out.low⟩

end Go.Proofs.Ytmjappcjfjajmaa

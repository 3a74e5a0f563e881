/- The walks of image's Same. -/
import Derived.Test.YtkgicalkcbagaaaImK
namespace Go.Proofs.Ytkgicalkcbagaaa
open Go.RowKit

theorem boolIs {s : Bool} {p : Prop} (h : s = true ↔ p) : BoolIs (.returned (.bool s)) p := ⟨s, rfl, h⟩
theorem eqv {L M : List Int} : decide (L = M) = true ↔ L = M := decide_eq_true_iff
theorem below_q {w w' : World} (h : ∃ q, w' = w.drewN q) : Below w.heap.size w w' := by
  obtain ⟨q, rfl⟩ := h
  exact below_drewN (Below.refl _ _) q

set_option maxHeartbeats 1000000 in
theorem sameShape_any (L M : List Int) (a a' : Option Addr) (c c' : Nat) (w : World) (hlen : L.length ≤ maxLen) (h1 : SrcAt w (.slice a L.length c) L) (h2 : SrcAt w (.slice a' M.length c') M) :
    Calls Try.prog 29 #[.agg #[.slice a L.length c], .agg #[.slice a' M.length c']] w fun e w' => BoolIs e (L = M) ∧ Below w.heap.size w w' := by
  have HA : Hid (Below w.heap.size w ((w.alloc (.cells #[.slice a L.length c] 42)).alloc (.cells #[.slice a' M.length c'] 42))) := ((Below.refl _ _).alloc (Nat.le_refl _) _).alloc (by simp) _
  have H1 : Hid (SrcAt ((w.alloc (.cells #[.slice a L.length c] 42)).alloc (.cells #[.slice a' M.length c'] 42)) (.slice a L.length c) L) := h1.below HA.out
  have H2 : Hid (SrcAt ((w.alloc (.cells #[.slice a L.length c] 42)).alloc (.cells #[.slice a' M.length c'] 42)) (.slice a' M.length c') M) := h2.below HA.out
  clear h1 h2
  go_enter Try.func29, Try.ntmps29
  go_wp2_with fail
  refine (equal_any (s := decide (L = M)) rfl _ _ _ hlen H1.out H2.out).mono ?_
  rintro e w1 ⟨rfl, hq⟩
  have HB : Hid (Below w.heap.size w w1) := HA.out.trans ((below_q hq).mono (by simp; omega))
  have hx : Hid (BoolIs (.returned (.bool (decide (L = M)))) (L = M)) := boolIs eqv
  clear hq
  generalize decide (L = M) = s at *
  go_wp2_with fail
  go_ret
  exact ⟨hx.out, HB.out⟩

/-- A function's box. -/
def fnC (f : Fn) (a0 a3 a4 : Option Addr) (c0 c3 c4 : Nat) (k : Nat) : Value := (#[Value.slice a0 f.args.length c0, .int .i64 f.res, .int .i64 f.slots, .slice a3 f.objs.length c3, .slice a4 f.code.length c4] : Array Value).getD k undef
theorem fn_box (w : World) (f : Fn) (a0 a3 a4 : Option Addr) (c0 c3 c4 : Nat) : (w.alloc (.cells #[.slice a0 f.args.length c0, .int .i64 f.res, .int .i64 f.slots, .slice a3 f.objs.length c3, .slice a4 f.code.length c4] 45)).rowIs w.heap.size 45 5 (fnC f a0 a3 a4 c0 c3 c4) :=
  World.rowIs_alloc w #[.slice a0 f.args.length c0, .int .i64 f.res, .int .i64 f.slots, .slice a3 f.objs.length c3, .slice a4 f.code.length c4] 45 _ (fun k hk => by
    have : k = 0 ∨ k = 1 ∨ k = 2 ∨ k = 3 ∨ k = 4 := by simp at hk; omega
    rcases this with rfl | rfl | rfl | rfl | rfl <;> rfl)
theorem fn_eq {f g : Fn} : f = g ↔ f.res = g.res ∧ f.slots = g.slots ∧ f.args = g.args ∧ f.objs = g.objs ∧ f.code = g.code := by
  obtain ⟨a, b, c, d, e⟩ := f
  obtain ⟨a', b', c', d', e'⟩ := g
  simp only [Fn.mk.injEq]
  exact ⟨fun ⟨h1, h2, h3, h4, h5⟩ => ⟨h2, h3, h1, h4, h5⟩, fun ⟨h2, h3, h1, h4, h5⟩ => ⟨h1, h2, h3, h4, h5⟩⟩
theorem maxlen_of {n : Nat} (h : n ≤ 3000) : n ≤ maxLen := by unfold maxLen; omega

/-- Two boxes of functions, and what they lead to. -/
structure TwF (w wk : World) (bf bg : Nat) (f g : Fn) (a0 a3 a4 a0' a3' a4' : Option Addr) (c0 c3 c4 c0' c3' c4' : Nat) : Prop where
  low : Below w.heap.size w wk
  bf : wk.rowIs bf 45 5 (fnC f a0 a3 a4 c0 c3 c4)
  bg : wk.rowIs bg 45 5 (fnC g a0' a3' a4' c0' c3' c4')
  ff : FnC Any wk f (.slice a0 f.args.length c0) (.int .i64 f.res) (.int .i64 f.slots) (.slice a3 f.objs.length c3) (.slice a4 f.code.length c4)
  fg : FnC Any wk g (.slice a0' g.args.length c0') (.int .i64 g.res) (.int .i64 g.slots) (.slice a3' g.objs.length c3') (.slice a4' g.code.length c4')
theorem TwF.below {w wk w2 : World} {bf bg : Nat} {f g : Fn} {a0 a3 a4 a0' a3' a4' : Option Addr} {c0 c3 c4 c0' c3' c4' : Nat} (h : TwF w wk bf bg f g a0 a3 a4 a0' a3' a4' c0 c3 c4 c0' c3' c4') (hb : Below wk.heap.size wk w2) : TwF w w2 bf bg f g a0 a3 a4 a0' a3' a4' c0 c3 c4 c0' c3' c4' :=
  ⟨h.low.trans (hb.mono h.low.size), h.bf.of_block (hb.block _ h.bf.lt), h.bg.of_block (hb.block _ h.bg.lt), h.ff.below hb, h.fg.below hb⟩

set_option maxRecDepth 100000 in
set_option maxHeartbeats 4000000 in
theorem sameFunc_any (f g : Fn) (a0 a3 a4 a0' a3' a4' : Option Addr) (c0 c3 c4 c0' c3' c4' : Nat) (w : World) (hz : szF f ≤ 3000)
    (h1 : FnC Any w f (.slice a0 f.args.length c0) (.int .i64 f.res) (.int .i64 f.slots) (.slice a3 f.objs.length c3) (.slice a4 f.code.length c4))
    (h2 : FnC Any w g (.slice a0' g.args.length c0') (.int .i64 g.res) (.int .i64 g.slots) (.slice a3' g.objs.length c3') (.slice a4' g.code.length c4')) :
    Calls Try.prog 31 #[.agg #[.slice a0 f.args.length c0, .int .i64 f.res, .int .i64 f.slots, .slice a3 f.objs.length c3, .slice a4 f.code.length c4], .agg #[.slice a0' g.args.length c0', .int .i64 g.res, .int .i64 g.slots, .slice a3' g.objs.length c3', .slice a4' g.code.length c4']] w
      fun e w' => BoolIs e (f = g) ∧ Below w.heap.size w w' := by
  have hz' : f.args.length + f.objs.length + f.code.length ≤ 3000 := hz
  have HZ : Hid (f.args.length ≤ maxLen ∧ f.objs.length ≤ maxLen ∧ f.code.length ≤ maxLen) := ⟨maxlen_of (by omega), maxlen_of (by omega), maxlen_of (by omega)⟩
  obtain ⟨wa, hwa⟩ : ∃ wa, (w.alloc (.cells #[.slice a0 f.args.length c0, .int .i64 f.res, .int .i64 f.slots, .slice a3 f.objs.length c3, .slice a4 f.code.length c4] 45)).alloc (.cells #[.slice a0' g.args.length c0', .int .i64 g.res, .int .i64 g.slots, .slice a3' g.objs.length c3', .slice a4' g.code.length c4'] 45) = wa := ⟨_, rfl⟩
  have hA : Below w.heap.size w wa := hwa ▸ ((Below.refl _ _).alloc (Nat.le_refl _) _).alloc (by simp) _
  obtain ⟨bf, hbf⟩ : ∃ bf, w.heap.size = bf := ⟨_, rfl⟩
  have hT : TwF w wa bf (bf + 1) f g a0 a3 a4 a0' a3' a4' c0 c3 c4 c0' c3' c4' := by
    refine ⟨hA, ?_, ?_, h1.below hA, h2.below hA⟩
    · rw [← hbf]; exact hwa ▸ (fn_box w f a0 a3 a4 c0 c3 c4).alloc _
    · have := fn_box (w.alloc (.cells #[.slice a0 f.args.length c0, .int .i64 f.res, .int .i64 f.slots, .slice a3 f.objs.length c3, .slice a4 f.code.length c4] 45)) g a0' a3' a4' c0' c3' c4'
      rw [World.size_alloc, hbf] at this
      exact hwa ▸ this
  have HT : Hid (TwF w wa bf (bf + 1) f g a0 a3 a4 a0' a3' a4' c0 c3 c4 c0' c3' c4') := hT
  have d1 : wa.cell? ⟨bf, 1, none⟩ = some (.int .i64 f.res) := hT.bf.cell (i := 1) (by decide)
  have d2 : wa.cell? ⟨bf, 2, none⟩ = some (.int .i64 f.slots) := hT.bf.cell (i := 2) (by decide)
  have d0 : wa.cell? ⟨bf, 0, none⟩ = some (.slice a0 f.args.length c0) := hT.bf.cell (i := 0) (by decide)
  have e1 : wa.cell? ⟨bf + 1, 1, none⟩ = some (.int .i64 g.res) := hT.bg.cell (i := 1) (by decide)
  have e2 : wa.cell? ⟨bf + 1, 2, none⟩ = some (.int .i64 g.slots) := hT.bg.cell (i := 2) (by decide)
  have e0 : wa.cell? ⟨bf + 1, 0, none⟩ = some (.slice a0' g.args.length c0') := hT.bg.cell (i := 0) (by decide)
  have HE : Hid (f = g ↔ f.res = g.res ∧ f.slots = g.slots ∧ f.args = g.args ∧ f.objs = g.objs ∧ f.code = g.code) := fn_eq
  clear hz hz' hA hT h1 h2
  by_cases hr : f.res = g.res
  · by_cases hsl : f.slots = g.slots
    · rw [← hr] at e1
      rw [← hsl] at e2
      have HRS : Hid (f.res = g.res ∧ f.slots = g.slots) := ⟨hr, hsl⟩
      clear hr hsl
      go_enter Try.func31, Try.ntmps31
      go_wp2_with fail
      refine (equal_any (s := decide (f.args = g.args)) rfl _ _ _ HZ.out.1 HT.out.ff.args.at_ HT.out.fg.args.at_).mono ?_
      rintro e w1 ⟨rfl, hq⟩
      have hT1 := HT.out.below (below_q hq)
      have HT1 : Hid (TwF w w1 bf (bf + 1) f g a0 a3 a4 a0' a3' a4' c0 c3 c4 c0' c3' c4') := hT1
      have g3 : w1.cell? ⟨bf, 3, none⟩ = some (.slice a3 f.objs.length c3) := hT1.bf.cell (i := 3) (by decide)
      have i3 : w1.cell? ⟨bf + 1, 3, none⟩ = some (.slice a3' g.objs.length c3') := hT1.bg.cell (i := 3) (by decide)
      clear hT1 hq d0 d1 d2 e0 e1 e2 HT
      cases ha : decide (f.args = g.args) with
      | false =>
        have HX : Hid (BoolIs (.returned (.bool false)) (f = g)) := boolIs ⟨fun h => (by cases h), fun h => absurd (HE.out.1 h).2.2.1 (by simpa using ha)⟩
        clear ha
        go_wp2_with fail
        go_ret
        exact ⟨HX.out, HT1.out.low⟩
      | true =>
        have Ha : Hid (f.args = g.args) := by unfold Hid; simpa using ha
        clear ha
        go_wp2_with fail
        refine (equal_any (s := decide (f.objs = g.objs)) rfl _ _ _ HZ.out.2.1 HT1.out.ff.objs.at_ HT1.out.fg.objs.at_).mono ?_
        rintro e w2 ⟨rfl, hq⟩
        have hT2 := HT1.out.below (below_q hq)
        have HT2 : Hid (TwF w w2 bf (bf + 1) f g a0 a3 a4 a0' a3' a4' c0 c3 c4 c0' c3' c4') := hT2
        have g4 : w2.cell? ⟨bf, 4, none⟩ = some (.slice a4 f.code.length c4) := hT2.bf.cell (i := 4) (by decide)
        have i4 : w2.cell? ⟨bf + 1, 4, none⟩ = some (.slice a4' g.code.length c4') := hT2.bg.cell (i := 4) (by decide)
        clear hT2 hq g3 i3 HT1
        cases hb : decide (f.objs = g.objs) with
        | false =>
          have HX : Hid (BoolIs (.returned (.bool false)) (f = g)) := boolIs ⟨fun h => (by cases h), fun h => absurd (HE.out.1 h).2.2.2.1 (by simpa using hb)⟩
          clear hb
          go_wp2_with fail
          go_ret
          exact ⟨HX.out, HT2.out.low⟩
        | true =>
          have Hb : Hid (f.objs = g.objs) := by unfold Hid; simpa using hb
          clear hb
          go_wp2_with fail
          refine (equalI_any f.code g.code a4 a4' c4 c4' _ HZ.out.2.2 HT2.out.ff.code.at_ HT2.out.fg.code.at_).mono ?_
          rintro e w3 ⟨⟨s, rfl, hs⟩, hq⟩
          have HT3 : Hid (TwF w w3 bf (bf + 1) f g a0 a3 a4 a0' a3' a4' c0 c3 c4 c0' c3' c4') := HT2.out.below (below_q hq)
          have HX : Hid (BoolIs (.returned (.bool s)) (f = g)) := boolIs ⟨fun h => HE.out.2 ⟨HRS.out.1, HRS.out.2, Ha.out, Hb.out, hs.1 h⟩, fun h => hs.2 (HE.out.1 h).2.2.2.2⟩
          clear hs hq g4 i4
          go_wp2_with fail
          go_ret
          exact ⟨HX.out, HT3.out.low⟩
    · rw [← hr] at e1
      have hslb : (f.slots == g.slots) = false := by simpa using hsl
      have HX : Hid (BoolIs (.returned (.bool false)) (f = g)) := boolIs ⟨fun h => (by cases h), fun h => absurd (HE.out.1 h).2.1 hsl⟩
      clear hr
      go_enter Try.func31, Try.ntmps31
      go_wp2_with fail
      go_ret
      exact ⟨HX.out, HT.out.low⟩
  · have hrb : (f.res == g.res) = false := by simpa using hr
    have HX : Hid (BoolIs (.returned (.bool false)) (f = g)) := boolIs ⟨fun h => (by cases h), fun h => absurd (HE.out.1 h).1 hr⟩
    go_enter Try.func31, Try.ntmps31
    go_wp2_with fail
    go_ret
    exact ⟨HX.out, HT.out.low⟩

theorem eq_step {α : Type} {L M : List α} {j : Nat} {x y : α} (h : ∀ m : Nat, m < j → L[m]? = M[m]?) (hx : L[j]? = some x) (hy : M[j]? = some y) (e : x = y) : ∀ m : Nat, m < j + 1 → L[m]? = M[m]? := fun m hm => by
  by_cases h1 : m = j
  · rw [h1, hx, hy, e]
  · exact h m (by omega)
theorem eq_endL {α : Type} {L M : List α} (hl : L.length = M.length) (h : ∀ m : Nat, m < L.length → L[m]? = M[m]?) : L = M := by
  refine List.ext_getElem? fun j => ?_
  by_cases hj : j < L.length
  · exact h j hj
  · rw [List.getElem?_eq_none (by omega), List.getElem?_eq_none (by omega)]
theorem ne_at {α : Type} {L M : List α} {j : Nat} {x y : α} (hx : L[j]? = some x) (hy : M[j]? = some y) (e : ¬ x = y) : ¬ L = M := fun h => by
  rw [h, hy] at hx
  exact e (Option.some.inj hx).symm

set_option maxHeartbeats 4000000 in
theorem eqShapes_any (L M : List (List Int)) (a a' : Option Addr) (c c' : Nat) (w : World) (hl : L.length ≤ 3000) (hz : szS L ≤ 3000) (h1 : SgV Any w (.slice a L.length c) L) (h2 : SgV Any w (.slice a' M.length c') M) :
    Calls Try.prog 28 #[.slice a L.length c, .slice a' M.length c', .func (.func 29) #[] #[]] w fun e w' => BoolIs e (L = M) ∧ Below w.heap.size w w' := by
  by_cases hlM : L.length = M.length
  · have H1 : Hid (SgV Any w (.slice a L.length c) L) := h1
    have H2 : Hid (SgV Any w (.slice a' M.length c') M) := h2
    have HZ : Hid (szS L ≤ 3000) := hz
    have HLM : Hid (L.length = M.length) := hlM
    rw [← hlM] at H2
    rw [← hlM]
    clear hlM h1 h2 hz
    go_enter Try.func28, Try.ntmps28
    go_wp2_with fail
    go_loopw [7, 8, 9, 17] (fun _ _ _ k wr => ∃ j : Nat, j ≤ L.length ∧ k = .int .i64 j ∧ Hid (Below w.heap.size w wr) ∧ Hid (∀ m : Nat, m < j → L[m]? = M[m]?)) (fun _ _ _ k _ => L.length - (intOf k).toNat)
    case atStart => exact ⟨0, Nat.zero_le _, rfl, Below.refl _ _, fun m hm => absurd hm (by omega)⟩
    case round =>
     obtain ⟨j, hj, rfl, HB, HA⟩ := hrel
     by_cases hlt : j < L.length
     ·
      obtain ⟨x, hx⟩ : ∃ x, L[j]? = some x := ⟨_, List.getElem?_eq_getElem hlt⟩
      obtain ⟨y, hy⟩ : ∃ y, M[j]? = some y := ⟨_, List.getElem?_eq_getElem (by have := HLM.out; omega)⟩
      obtain ⟨b, off, v, rfl, hb, _, k0, hsx⟩ := (H1.out.below HB.out).some hx
      obtain ⟨b', off', v', rfl, hb', _, k0', hsy⟩ := (H2.out.below HB.out).some hy
      obtain ⟨xa, xc, rfl⟩ := hsx.len
      obtain ⟨ya, yc, rfl⟩ := hsy.len
      have hltI : (j : Int) < (L.length : Int) := by omega
      have HXL : Hid (x.length ≤ maxLen) := maxlen_of (by have := HZ.out; have := szS_mem hx; omega)
      obtain ⟨wc, hwc⟩ : ∃ wc, (wr.alloc (.cells #[.slice xa x.length xc] 42)).alloc (.cells #[.slice ya y.length yc] 42) = wc := ⟨_, rfl⟩
      have hAC : Below wr.heap.size wr wc := hwc ▸ ((Below.refl _ _).alloc (Nat.le_refl _) _).alloc (by simp) _
      have HAC : Hid (Below wr.heap.size wr wc) := hAC
      have HSX : Hid (SrcAt wc (.slice xa x.length xc) x) := (hsx.stay (Stay.all hAC)).at_
      have HSY : Hid (SrcAt wc (.slice ya y.length yc) y) := (hsy.stay (Stay.all hAC)).at_
      have HE : Hid (x = y → ∀ m : Nat, m < j + 1 → L[m]? = M[m]?) := eq_step HA.out hx hy
      have HN : Hid (¬ x = y → ¬ L = M) := ne_at hx hy
      clear hsx hsy hx hy hAC HA
      subst hwc
      go_wp2_with fail
      refine (sameShape_any x y xa ya xc yc _ HXL.out HSX.out HSY.out).mono ?_
      rintro e w2 ⟨⟨s, rfl, hs⟩, hb2⟩
      have HB2 : Hid (Below w.heap.size w w2) := HB.out.trans (HAC.out.mono HB.out.size |>.trans (hb2.mono (Nat.le_trans HB.out.size HAC.out.size)))
      have HSS : Hid (s = true ↔ x = y) := hs
      clear hb2 hs HAC HSX HSY HXL k0 k0'
      cases s with
      | true =>
        have HE' : Hid (∀ m : Nat, m < j + 1 → L[m]? = M[m]?) := HE.out (HSS.out.1 rfl)
        clear HE HN HSS
        go_wp2_with fail
        go_roundw
        case rel => exact ⟨j + 1, by omega, by go_num, HB2, HE'⟩
        case measure => simp [intOf]; omega
      | false =>
        have HX : Hid (BoolIs (.returned (.bool false)) (L = M)) := boolIs ⟨fun h => (by cases h), fun h => absurd h (HN.out (fun e => by have := HSS.out.2 e; cases this))⟩
        clear HE HN HSS
        go_wp2_with fail
        go_ret
        exact ⟨HX.out, HB2.out⟩
     · have e : j = L.length := by omega
       have HX : Hid (BoolIs (.returned (.bool true)) (L = M)) := boolIs ⟨fun _ => eq_endL HLM.out (by rw [← e]; exact HA.out), fun _ => rfl⟩
       clear HA
       go_wp2_with fail
       go_ret
       exact ⟨HX.out, HB.out⟩
  · have hI : ¬ (L.length : Int) = (M.length : Int) := by omega
    have HX : Hid (BoolIs (.returned (.bool false)) (L = M)) := boolIs ⟨fun h => (by cases h), fun h => absurd (by rw [h]) hlM⟩
    clear h1 h2
    go_enter Try.func28, Try.ntmps28
    go_wp2_with fail
    go_ret
    exact ⟨HX.out, Below.refl _ _⟩

set_option maxHeartbeats 4000000 in
theorem eqFuncs_any (L M : List Fn) (a a' : Option Addr) (c c' : Nat) (w : World) (hl : L.length ≤ 3000) (hz : szFs L ≤ 3000) (h1 : FsV Any w (.slice a L.length c) L) (h2 : FsV Any w (.slice a' M.length c') M) :
    Calls Try.prog 30 #[.slice a L.length c, .slice a' M.length c', .func (.func 31) #[] #[]] w fun e w' => BoolIs e (L = M) ∧ Below w.heap.size w w' := by
  by_cases hlM : L.length = M.length
  · have H1 : Hid (FsV Any w (.slice a L.length c) L) := h1
    have H2 : Hid (FsV Any w (.slice a' M.length c') M) := h2
    have HZ : Hid (szFs L ≤ 3000) := hz
    have HLM : Hid (L.length = M.length) := hlM
    rw [← hlM] at H2
    rw [← hlM]
    clear hlM h1 h2 hz
    go_enter Try.func30, Try.ntmps30
    go_wp2_with fail
    go_loopw [7, 8, 9, 17] (fun _ _ _ k wr => ∃ j : Nat, j ≤ L.length ∧ k = .int .i64 j ∧ Hid (Below w.heap.size w wr) ∧ Hid (∀ m : Nat, m < j → L[m]? = M[m]?)) (fun _ _ _ k _ => L.length - (intOf k).toNat)
    case atStart => exact ⟨0, Nat.zero_le _, rfl, Below.refl _ _, fun m hm => absurd hm (by omega)⟩
    case round =>
     obtain ⟨j, hj, rfl, HB, HA⟩ := hrel
     by_cases hlt : j < L.length
     ·
      obtain ⟨x, hx⟩ : ∃ x, L[j]? = some x := ⟨_, List.getElem?_eq_getElem hlt⟩
      obtain ⟨y, hy⟩ : ∃ y, M[j]? = some y := ⟨_, List.getElem?_eq_getElem (by have := HLM.out; omega)⟩
      obtain ⟨b, off, v0, v1, v2, v3, v4, rfl, hb, _, k0, k1, k2, k3, k4, hsx⟩ := (H1.out.below HB.out).some hx
      obtain ⟨b', off', v0', v1', v2', v3', v4', rfl, hb', _, k0', k1', k2', k3', k4', hsy⟩ := (H2.out.below HB.out).some hy
      obtain ⟨xa0, xc0, xa3, xc3, xa4, xc4, rfl, rfl, rfl⟩ := hsx.lens
      obtain ⟨ya0, yc0, ya3, yc3, ya4, yc4, rfl, rfl, rfl⟩ := hsy.lens
      obtain rfl := hsx.res
      obtain rfl := hsx.slots
      obtain rfl := hsy.res
      obtain rfl := hsy.slots
      have hltI : (j : Int) < (L.length : Int) := by omega
      have HXL : Hid (szF x ≤ 3000) := by have := HZ.out; have := szFs_mem hx; unfold Hid; omega
      obtain ⟨wc, hwc⟩ : ∃ wc, (wr.alloc (.cells #[.slice xa0 x.args.length xc0, .int .i64 x.res, .int .i64 x.slots, .slice xa3 x.objs.length xc3, .slice xa4 x.code.length xc4] 45)).alloc (.cells #[.slice ya0 y.args.length yc0, .int .i64 y.res, .int .i64 y.slots, .slice ya3 y.objs.length yc3, .slice ya4 y.code.length yc4] 45) = wc := ⟨_, rfl⟩
      have hAC : Below wr.heap.size wr wc := hwc ▸ ((Below.refl _ _).alloc (Nat.le_refl _) _).alloc (by simp) _
      have HAC : Hid (Below wr.heap.size wr wc) := hAC
      have HSX : Hid (FnC Any wc x (.slice xa0 x.args.length xc0) (.int .i64 x.res) (.int .i64 x.slots) (.slice xa3 x.objs.length xc3) (.slice xa4 x.code.length xc4)) := hsx.stay (Stay.all hAC)
      have HSY : Hid (FnC Any wc y (.slice ya0 y.args.length yc0) (.int .i64 y.res) (.int .i64 y.slots) (.slice ya3 y.objs.length yc3) (.slice ya4 y.code.length yc4)) := hsy.stay (Stay.all hAC)
      have HE : Hid (x = y → ∀ m : Nat, m < j + 1 → L[m]? = M[m]?) := eq_step HA.out hx hy
      have HN : Hid (¬ x = y → ¬ L = M) := ne_at hx hy
      clear hsx hsy hx hy hAC HA
      subst hwc
      go_wp2_with fail
      refine (sameFunc_any x y xa0 xa3 xa4 ya0 ya3 ya4 xc0 xc3 xc4 yc0 yc3 yc4 _ HXL.out HSX.out HSY.out).mono ?_
      rintro e w2 ⟨⟨s, rfl, hs⟩, hb2⟩
      have HB2 : Hid (Below w.heap.size w w2) := HB.out.trans (HAC.out.mono HB.out.size |>.trans (hb2.mono (Nat.le_trans HB.out.size HAC.out.size)))
      have HSS : Hid (s = true ↔ x = y) := hs
      clear hb2 hs HAC HSX HSY HXL k0 k1 k2 k3 k4 k0' k1' k2' k3' k4'
      cases s with
      | true =>
        have HE' : Hid (∀ m : Nat, m < j + 1 → L[m]? = M[m]?) := HE.out (HSS.out.1 rfl)
        clear HE HN HSS
        go_wp2_with fail
        go_roundw
        case rel => exact ⟨j + 1, by omega, by go_num, HB2, HE'⟩
        case measure => simp [intOf]; omega
      | false =>
        have HX : Hid (BoolIs (.returned (.bool false)) (L = M)) := boolIs ⟨fun h => (by cases h), fun h => absurd h (HN.out (fun e => by have := HSS.out.2 e; cases this))⟩
        clear HE HN HSS
        go_wp2_with fail
        go_ret
        exact ⟨HX.out, HB2.out⟩
     · have e : j = L.length := by omega
       have HX : Hid (BoolIs (.returned (.bool true)) (L = M)) := boolIs ⟨fun _ => eq_endL HLM.out (by rw [← e]; exact HA.out), fun _ => rfl⟩
       clear HA
       go_wp2_with fail
       go_ret
       exact ⟨HX.out, HB.out⟩
  · have hI : ¬ (L.length : Int) = (M.length : Int) := by omega
    have HX : Hid (BoolIs (.returned (.bool false)) (L = M)) := boolIs ⟨fun h => (by cases h), fun h => absurd (by rw [h]) hlM⟩
    clear h1 h2
    go_enter Try.func30, Try.ntmps30
    go_wp2_with fail
    go_ret
    exact ⟨HX.out, Below.refl _ _⟩

end Go.Proofs.Ytkgicalkcbagaaa

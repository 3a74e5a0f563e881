/- The walk of the document's Same of programs. -/
import Derived.Test.YtkgicalkcbagaaaImM
import Derived.Test.YtkgicalkcbagaaaQi
import Derived.Deep.RegionHeld3
namespace Go.Proofs.Ytkgicalkcbagaaa
open Go.RowKit

theorem refI {L M : List Int} {s : Bool} (hs : Hid (decide (L = M) = s)) (v v' : Value) (w : World) (hlen : L.length ≤ maxLen) (h1 : SrcAt w v L) (h2 : SrcAt w v' M) :
    Calls Try.prog 26 #[v, v'] w fun e w' => e = .returned (.bool s) ∧ ∃ q, w' = w.drewN q := refInts_any hs v v' w hlen h1 h2

/-- Two boxes of programs, with letters for their values. -/
structure TwV (w wk : World) (bp bq : Nat) (p q : Pg) (v0 v1 v2 u0 u1 u2 : Value) : Prop where
  low : Below w.heap.size w wk
  bp : wk.rowIs bp 26 3 (pgC v0 v1 v2)
  bq : wk.rowIs bq 26 3 (pgC u0 u1 u2)
  pp : PgV Any wk v0 v1 v2 p
  pq : PgV Any wk u0 u1 u2 q
theorem TwV.below {w wk w2 : World} {bp bq : Nat} {p q : Pg} {v0 v1 v2 u0 u1 u2 : Value} (h : TwV w wk bp bq p q v0 v1 v2 u0 u1 u2) (hb : Below wk.heap.size wk w2) : TwV w w2 bp bq p q v0 v1 v2 u0 u1 u2 :=
  ⟨h.low.trans (hb.mono h.low.size), h.bp.of_block (hb.block _ h.bp.lt), h.bq.of_block (hb.block _ h.bq.lt), h.pp.below hb, h.pq.below hb⟩
theorem TwV.c {w wk : World} {bp bq : Nat} {p q : Pg} {v0 v1 v2 u0 u1 u2 : Value} (h : TwV w wk bp bq p q v0 v1 v2 u0 u1 u2) :
    (wk.cell? ⟨bp, 0, none⟩ = some v0 ∧ wk.cell? ⟨bp, 1, none⟩ = some v1 ∧ wk.cell? ⟨bp, 2, none⟩ = some v2) ∧ wk.cell? ⟨bq, 0, none⟩ = some u0 ∧ wk.cell? ⟨bq, 1, none⟩ = some u1 ∧ wk.cell? ⟨bq, 2, none⟩ = some u2 :=
  ⟨⟨h.bp.cell (i := 0) (by decide), h.bp.cell (i := 1) (by decide), h.bp.cell (i := 2) (by decide)⟩, h.bq.cell (i := 0) (by decide), h.bq.cell (i := 1) (by decide), h.bq.cell (i := 2) (by decide)⟩
theorem TwV.drewN {w wk : World} {bp bq : Nat} {p q : Pg} {v0 v1 v2 u0 u1 u2 : Value} (h : TwV w wk bp bq p q v0 v1 v2 u0 u1 u2) (n : Nat) : TwV w (wk.drewN n) bp bq p q v0 v1 v2 u0 u1 u2 := h.below (below_drewN (Below.refl _ _) n)

set_option maxRecDepth 100000 in
set_option maxHeartbeats 8000000 in
theorem refSame_core (p q : Pg) (n0 n1 n2 : Nat) (ag az af ag' az' af' : Option Addr) (cg cs cf cg' cs' cf' : Nat) (w : World) (hz : szP p ≤ 3000) (hn : Hid (p.shapes.length = n1 ∧ q.shapes.length = n1 ∧ p.funcs.length = n2 ∧ q.funcs.length = n2)) (hg : Hid (p.glob = q.glob ∧ p.glob.length = n0))
    (h1 : PgV Any w (.slice ag n0 cg) (.slice az n1 cs) (.slice af n2 cf) p) (h2 : PgV Any w (.slice ag' n0 cg') (.slice az' n1 cs') (.slice af' n2 cf') q) :
    Calls Try.prog 11 #[.agg #[.slice ag n0 cg, .slice az n1 cs, .slice af n2 cf], .agg #[.slice ag' n0 cg', .slice az' n1 cs', .slice af' n2 cf']] w fun e w' => BoolIs e (p = q) ∧ Below w.heap.size w w' := by
  have hz' : p.glob.length + p.shapes.length + p.funcs.length + szS p.shapes + szFs p.funcs ≤ 3000 := hz
  have hn1 : n1 ≤ 3000 := by have := hn.out; omega
  have hn2 : n2 ≤ 3000 := by have := hn.out; omega
  have HZ : Hid (p.glob.length ≤ maxLen ∧ szS p.shapes ≤ 3000 ∧ szFs p.funcs ≤ 3000) := ⟨maxlen_of (by omega), by omega, by omega⟩
  obtain ⟨bp, hbp⟩ : ∃ bp, w.heap.size = bp := ⟨_, rfl⟩
  obtain ⟨wa, hwa⟩ : ∃ wa, (w.alloc (.cells #[.slice ag n0 cg, .slice az n1 cs, .slice af n2 cf] 26)).alloc (.cells #[.slice ag' n0 cg', .slice az' n1 cs', .slice af' n2 cf'] 26) = wa := ⟨_, rfl⟩
  have hA : Below w.heap.size w wa := hwa ▸ ((Below.refl _ _).alloc (Nat.le_refl _) _).alloc (by simp) _
  have hT : TwV w wa bp (bp + 1) p q (.slice ag n0 cg) (.slice az n1 cs) (.slice af n2 cf) (.slice ag' n0 cg') (.slice az' n1 cs') (.slice af' n2 cf') := by
    refine ⟨hA, ?_, ?_, h1.below hA, h2.below hA⟩
    · rw [← hbp]; exact hwa ▸ (pg_box w _ _ _ ag az af cg cs cf).alloc _
    · have := pg_box (w.alloc (.cells #[.slice ag n0 cg, .slice az n1 cs, .slice af n2 cf] 26)) n0 n1 n2 ag' az' af' cg' cs' cf'
      rw [World.size_alloc, hbp] at this
      exact hwa ▸ this
  have HT : Hid (TwV w wa bp (bp + 1) p q (.slice ag n0 cg) (.slice az n1 cs) (.slice af n2 cf) (.slice ag' n0 cg') (.slice az' n1 cs') (.slice af' n2 cf')) := hT
  have HE : Hid (p = q ↔ p.glob = q.glob ∧ p.shapes = q.shapes ∧ p.funcs = q.funcs) := pg_eq
  have hdg : Hid (decide (p.glob = q.glob) = true) := decide_eq_true hg.out.1
  clear hz hz' hT h1 h2 hA
  obtain ⟨⟨d0, d1, d2⟩, e0, e1, e2⟩ := HT.out.c
  go_enter Try.func11, Try.ntmps11
  go_wp2_with fail
  refine (refI hdg _ _ _ HZ.out.1 HT.out.pp.glob.at_ HT.out.pq.glob.at_).mono ?_
  rintro e w1 ⟨rfl, hq⟩
  have HT1 : Hid (TwV w w1 bp (bp + 1) p q (.slice ag n0 cg) (.slice az n1 cs) (.slice af n2 cf) (.slice ag' n0 cg') (.slice az' n1 cs') (.slice af' n2 cf')) := HT.out.below (below_q hq)
  clear hq d0 e0 d1 d2 e1 e2 HT
  obtain ⟨⟨d0, d1, d2⟩, e0, e1, e2⟩ := HT1.out.c
  clear d0 e0
  go_wp2_with fail
  clear d1 d2 e1 e2
  go_loopw [5] (fun i wr => ∃ j : Nat, j ≤ n1 ∧ i = .int .i64 j ∧ Hid (TwV w wr bp (bp + 1) p q (.slice ag n0 cg) (.slice az n1 cs) (.slice af n2 cf) (.slice ag' n0 cg') (.slice az' n1 cs') (.slice af' n2 cf')) ∧ Hid (∀ m : Nat, m < j → p.shapes[m]? = q.shapes[m]?)) (fun i _ => n1 - (intOf i).toNat)
  case atStart => exact ⟨0, Nat.zero_le _, rfl, HT1, fun m hm => absurd hm (by omega)⟩
  case round =>
    obtain ⟨j, hj, rfl, HR, HA⟩ := hrel
    clear HT1
    obtain ⟨⟨d0, d1, d2⟩, e0, e1, e2⟩ := HR.out.c
    clear d0 e0 d2 e2
    by_cases hlt : j < n1
    · obtain ⟨x, hx⟩ : ∃ x, p.shapes[j]? = some x := ⟨_, List.getElem?_eq_getElem (by have := hn.out; omega)⟩
      obtain ⟨y, hy⟩ : ∃ y, q.shapes[j]? = some y := ⟨_, List.getElem?_eq_getElem (by have := hn.out; omega)⟩
      obtain ⟨b, off, v, rfl, hb, _, k0, hsx⟩ := HR.out.pp.shapes.some hx
      obtain ⟨b', off', v', rfl, hb', _, k0', hsy⟩ := HR.out.pq.shapes.some hy
      obtain ⟨xa, xc, rfl⟩ := hsx.len
      obtain ⟨ya, yc, rfl⟩ := hsy.len
      have hltI : (j : Int) < (n1 : Int) := by omega
      have HXL : Hid (x.length ≤ maxLen) := maxlen_of (by have := HZ.out; have := szS_mem hx; omega)
      have HSX : Hid (SrcAt wr (.slice xa x.length xc) x) := hsx.at_
      have HSY : Hid (SrcAt wr (.slice ya y.length yc) y) := hsy.at_
      have HEq : Hid (x = y → ∀ m : Nat, m < j + 1 → p.shapes[m]? = q.shapes[m]?) := eq_step HA.out hx hy
      have HN : Hid (¬ x = y → ¬ p.shapes = q.shapes) := ne_at hx hy
      obtain ⟨s, hs⟩ : ∃ s, Hid (decide (x = y) = s) := ⟨_, rfl⟩
      clear hsx hsy hx hy HA hb hb'
      cases s with
      | true =>
        have HE' : Hid (∀ m : Nat, m < j + 1 → p.shapes[m]? = q.shapes[m]?) := HEq.out (of_decide_eq_true hs.out)
        clear HEq HN
        go_upto_region 6 with (fail)
        go_quiet ((go_at_call 26; exact Calls.quiet_of (refI hs _ _ _ HXL.out (HSX.out.drewN _) (HSY.out.drewN _))))
        go_wp2_with fail
        go_roundw
        case rel => exact ⟨j + 1, by omega, by go_num, HR.out.drewN _, HE'⟩
        case measure => simp [intOf]; omega
      | false =>
        have HX : Hid (BoolIs (.returned (.bool false)) (p = q)) := boolIs ⟨fun h => (by cases h), fun h => absurd (HE.out.1 h).2.1 (HN.out (of_decide_eq_false hs.out))⟩
        clear HEq HN
        go_upto_region 6 with (fail)
        go_quiet ((go_at_call 26; exact Calls.quiet_of (refI hs _ _ _ HXL.out (HSX.out.drewN _) (HSY.out.drewN _))))
        go_wp2_with fail
        go_ret
        exact ⟨HX.out, (HR.out.drewN _).low⟩
    · have e : j = n1 := by omega
      subst e
      have HSH : Hid (p.shapes = q.shapes) := eq_endL (by have := hn.out; omega) (fun m hm => HA.out m (by have := hn.out; omega))
      clear HA
      go_wp2_with fail
      clear d1 e1
      obtain ⟨wq, hwq⟩ : ∃ wq, wq = wr := ⟨_, rfl⟩
      subst hwq
      go_loopw [6, 7, 8, 9] (fun i _ _ _ wr => ∃ k : Nat, k ≤ n2 ∧ i = .int .i64 k ∧ Hid (TwV w wr bp (bp + 1) p q (.slice ag n0 cg) (.slice az j cs) (.slice af n2 cf) (.slice ag' n0 cg') (.slice az' j cs') (.slice af' n2 cf')) ∧ Hid (∀ m : Nat, m < k → p.funcs[m]? = q.funcs[m]?)) (fun i _ _ _ _ => n2 - (intOf i).toNat)
      case atStart => exact ⟨0, Nat.zero_le _, rfl, HR, fun m hm => absurd hm (by omega)⟩
      case round =>
        obtain ⟨k, hk, rfl, HR, HA⟩ := hrel
        obtain ⟨⟨d0, d1, d2⟩, e0, e1, e2⟩ := HR.out.c
        clear d0 e0 d1 e1
        by_cases hlt : k < n2
        · obtain ⟨x, hx⟩ : ∃ x, p.funcs[k]? = some x := ⟨_, List.getElem?_eq_getElem (by have := hn.out; omega)⟩
          obtain ⟨y, hy⟩ : ∃ y, q.funcs[k]? = some y := ⟨_, List.getElem?_eq_getElem (by have := hn.out; omega)⟩
          obtain ⟨b, off, v0, v1, v2, v3, v4, rfl, hb, _, k0, k1, k2, k3, k4, hsx⟩ := HR.out.pp.funcs.some hx
          obtain ⟨b', off', v0', v1', v2', v3', v4', rfl, hb', _, k0', k1', k2', k3', k4', hsy⟩ := HR.out.pq.funcs.some hy
          obtain ⟨xa0, xc0, xa3, xc3, xa4, xc4, rfl, rfl, rfl⟩ := hsx.lens
          obtain ⟨ya0, yc0, ya3, yc3, ya4, yc4, rfl, rfl, rfl⟩ := hsy.lens
          obtain rfl := hsx.res
          obtain rfl := hsx.slots
          obtain rfl := hsy.res
          obtain rfl := hsy.slots
          have hltI : (k : Int) < (n2 : Int) := by omega
          have HSX : Hid (FnC Any wr x (.slice xa0 x.args.length xc0) (.int .i64 x.res) (.int .i64 x.slots) (.slice xa3 x.objs.length xc3) (.slice xa4 x.code.length xc4)) := hsx
          have HSY : Hid (FnC Any wr y (.slice ya0 y.args.length yc0) (.int .i64 y.res) (.int .i64 y.slots) (.slice ya3 y.objs.length yc3) (.slice ya4 y.code.length yc4)) := hsy
          have HXL : Hid (szF x ≤ 3000) := by have := HZ.out; have := szFs_mem hx; unfold Hid; omega
          have HEq : Hid (x = y → ∀ m : Nat, m < k + 1 → p.funcs[m]? = q.funcs[m]?) := eq_step HA.out hx hy
          have HN : Hid (¬ x = y → ¬ p.funcs = q.funcs) := ne_at hx hy
          have hwl := HR.out.bq.lt
          clear hsx hsy hx hy HA
          go_upto_region 11 with (fail)
          go_region_held3 (fun w' => w'.cell? ⟨bp, 2, none⟩ = some (.slice (some ⟨b, off, none⟩) n2 cf) ∧ w'.cell? ⟨bp + 1, 2, none⟩ = some (.slice (some ⟨b', off', none⟩) n2 cf') ∧ (w'.cell? ⟨b, off + k * 5, none⟩ = some (.slice xa0 x.args.length xc0) ∧ w'.cell? ⟨b, off + k * 5 + 1, none⟩ = some (.int .i64 x.res) ∧ w'.cell? ⟨b, off + k * 5 + 2, none⟩ = some (.int .i64 x.slots) ∧ w'.cell? ⟨b, off + k * 5 + 3, none⟩ = some (.slice xa3 x.objs.length xc3) ∧ w'.cell? ⟨b, off + k * 5 + 4, none⟩ = some (.slice xa4 x.code.length xc4)) ∧
            w'.cell? ⟨b', off' + k * 5, none⟩ = some (.slice ya0 y.args.length yc0) ∧ w'.cell? ⟨b', off' + k * 5 + 1, none⟩ = some (.int .i64 y.res) ∧ w'.cell? ⟨b', off' + k * 5 + 2, none⟩ = some (.int .i64 y.slots) ∧ w'.cell? ⟨b', off' + k * 5 + 3, none⟩ = some (.slice ya3 y.objs.length yc3) ∧ w'.cell? ⟨b', off' + k * 5 + 4, none⟩ = some (.slice ya4 y.code.length yc4)) (go_keep) (fail)
          all_goals
            clear d2 e2 k0 k1 k2 k3 k4 k0' k1' k2' k3' k4'
            obtain ⟨wn, hwn⟩ : ∃ wn : Nat, wr.heap.size = wn := ⟨_, rfl⟩
            first
              | (obtain ⟨w2, hw2⟩ : ∃ w2, ((wr.alloc (.cells #[.slice xa0 x.args.length xc0, .int .i64 x.res, .int .i64 x.slots, .slice xa3 x.objs.length xc3, .slice xa4 x.code.length xc4] 45)).alloc (.cells #[.slice ya0 y.args.length yc0, .int .i64 y.res, .int .i64 y.slots, .slice ya3 y.objs.length yc3, .slice ya4 y.code.length yc4] 45)).drew = w2 := ⟨_, rfl⟩
                 rw [hw2]
                 obtain ⟨bf, hbf⟩ : ∃ bf, wr.heap.size = bf := ⟨_, rfl⟩
                 obtain ⟨bg, hbg⟩ : ∃ bg, wr.heap.size + 1 = bg := ⟨_, rfl⟩
                 rw [hbg, hbf]
                 have hab : Below wr.heap.size wr w2 := hw2 ▸ (((Below.refl _ _).alloc (Nat.le_refl _) _).alloc (by simp) _).drew
                 have HF2 : Hid (TwF wr w2 bf bg x y xa0 xa3 xa4 ya0 ya3 ya4 xc0 xc3 xc4 yc0 yc3 yc4) := by
                   refine ⟨hab, ?_, ?_, HSX.out.below hab, HSY.out.below hab⟩
                   · rw [← hbf]; exact hw2 ▸ ((fn_box wr x xa0 xa3 xa4 xc0 xc3 xc4).alloc _)
                   · have := fn_box (wr.alloc (.cells #[.slice xa0 x.args.length xc0, .int .i64 x.res, .int .i64 x.slots, .slice xa3 x.objs.length xc3, .slice xa4 x.code.length xc4] 45)) y ya0 ya3 ya4 yc0 yc3 yc4
                     rw [World.size_alloc, hbg] at this
                     exact hw2 ▸ this)
              | (obtain ⟨w2, hw2⟩ : ∃ w2, ((wr.alloc (.cells #[.slice ya0 y.args.length yc0, .int .i64 y.res, .int .i64 y.slots, .slice ya3 y.objs.length yc3, .slice ya4 y.code.length yc4] 45)).alloc (.cells #[.slice xa0 x.args.length xc0, .int .i64 x.res, .int .i64 x.slots, .slice xa3 x.objs.length xc3, .slice xa4 x.code.length xc4] 45)).drew = w2 := ⟨_, rfl⟩
                 rw [hw2]
                 obtain ⟨bg, hbg⟩ : ∃ bg, wr.heap.size = bg := ⟨_, rfl⟩
                 obtain ⟨bf, hbf⟩ : ∃ bf, wr.heap.size + 1 = bf := ⟨_, rfl⟩
                 rw [hbf, hbg]
                 have hab : Below wr.heap.size wr w2 := hw2 ▸ (((Below.refl _ _).alloc (Nat.le_refl _) _).alloc (by simp) _).drew
                 have HF2 : Hid (TwF wr w2 bf bg x y xa0 xa3 xa4 ya0 ya3 ya4 xc0 xc3 xc4 yc0 yc3 yc4) := by
                   refine ⟨hab, ?_, ?_, HSX.out.below hab, HSY.out.below hab⟩
                   · have := fn_box (wr.alloc (.cells #[.slice ya0 y.args.length yc0, .int .i64 y.res, .int .i64 y.slots, .slice ya3 y.objs.length yc3, .slice ya4 y.code.length yc4] 45)) x xa0 xa3 xa4 xc0 xc3 xc4
                     rw [World.size_alloc, hbf] at this
                     exact hw2 ▸ this
                   · rw [← hbg]; exact hw2 ▸ ((fn_box wr y ya0 ya3 ya4 yc0 yc3 yc4).alloc _))
            have HTW : Hid (TwV w w2 bp (bp + 1) p q (.slice ag n0 cg) (.slice az j cs) (.slice (some ⟨b, off, none⟩) n2 cf) (.slice ag' n0 cg') (.slice az' j cs') (.slice (some ⟨b', off', none⟩) n2 cf')) := HR.out.below hab
            have HXX : Hid (x = y ↔ x.res = y.res ∧ x.slots = y.slots ∧ x.args = y.args ∧ x.objs = y.objs ∧ x.code = y.code) := fn_eq
            have HNO : Hid (¬ x = y → BoolIs (.returned (.bool false)) (p = q)) := fun hne => boolIs ⟨fun h => (by cases h), fun h => absurd (HE.out.1 h).2.2 (HN.out hne)⟩
            have HZX : Hid (x.args.length ≤ maxLen ∧ x.objs.length ≤ maxLen ∧ x.code.length ≤ maxLen) := by
              have : x.args.length + x.objs.length + x.code.length ≤ 3000 := HXL.out
              exact ⟨maxlen_of (by omega), maxlen_of (by omega), maxlen_of (by omega)⟩
            have g0 : w2.cell? ⟨bf, 0, none⟩ = some (.slice xa0 x.args.length xc0) := HF2.out.bf.cell (i := 0) (by decide)
            have i0 : w2.cell? ⟨bg, 0, none⟩ = some (.slice ya0 y.args.length yc0) := HF2.out.bg.cell (i := 0) (by decide)
            clear hw2 hbf hbg hab HSX HSY HN HR hwn
            go_wp2_with fail
            refine (refI (s := decide (x.args = y.args)) rfl _ _ _ HZX.out.1 HF2.out.ff.args.at_ HF2.out.fg.args.at_).mono ?_
            rintro e w3 ⟨rfl, hq3⟩
            have HF3 : Hid (TwF wr w3 bf bg x y xa0 xa3 xa4 ya0 ya3 ya4 xc0 xc3 xc4 yc0 yc3 yc4) := HF2.out.below (below_q hq3)
            have HT3 : Hid (TwV w w3 bp (bp + 1) p q (.slice ag n0 cg) (.slice az j cs) (.slice (some ⟨b, off, none⟩) n2 cf) (.slice ag' n0 cg') (.slice az' j cs') (.slice (some ⟨b', off', none⟩) n2 cf')) := HTW.out.below (below_q hq3)
            clear hq3 g0 i0 HF2 HTW
            cases ha : decide (x.args = y.args) with
            | false =>
              have HX : Hid (BoolIs (.returned (.bool false)) (p = q)) := HNO.out (fun h => absurd (HXX.out.1 h).2.2.1 (of_decide_eq_false ha))
              clear ha
              go_wp2_with fail
              go_ret
              exact ⟨HX.out, HT3.out.low⟩
            | true =>
              have Ha : Hid (x.args = y.args) := by unfold Hid; exact of_decide_eq_true ha
              clear ha
              have g1 : w3.cell? ⟨bf, 1, none⟩ = some (.int .i64 x.res) := HF3.out.bf.cell (i := 1) (by decide)
              have i1 : w3.cell? ⟨bg, 1, none⟩ = some (.int .i64 y.res) := HF3.out.bg.cell (i := 1) (by decide)
              have g2 : w3.cell? ⟨bf, 2, none⟩ = some (.int .i64 x.slots) := HF3.out.bf.cell (i := 2) (by decide)
              have i2 : w3.cell? ⟨bg, 2, none⟩ = some (.int .i64 y.slots) := HF3.out.bg.cell (i := 2) (by decide)
              have g3 : w3.cell? ⟨bf, 3, none⟩ = some (.slice xa3 x.objs.length xc3) := HF3.out.bf.cell (i := 3) (by decide)
              have i3 : w3.cell? ⟨bg, 3, none⟩ = some (.slice ya3 y.objs.length yc3) := HF3.out.bg.cell (i := 3) (by decide)
              by_cases hr : x.res = y.res
              · by_cases hsl : x.slots = y.slots
                · have HRS : Hid (x.res = y.res ∧ x.slots = y.slots) := ⟨hr, hsl⟩
                  rw [← hr] at i1
                  rw [← hsl] at i2
                  clear hr hsl
                  go_wp2_with fail
                  refine (refI (s := decide (x.objs = y.objs)) rfl _ _ _ HZX.out.2.1 HF3.out.ff.objs.at_ HF3.out.fg.objs.at_).mono ?_
                  rintro e w4 ⟨rfl, hq4⟩
                  have HF4 : Hid (TwF wr w4 bf bg x y xa0 xa3 xa4 ya0 ya3 ya4 xc0 xc3 xc4 yc0 yc3 yc4) := HF3.out.below (below_q hq4)
                  have HT4 : Hid (TwV w w4 bp (bp + 1) p q (.slice ag n0 cg) (.slice az j cs) (.slice (some ⟨b, off, none⟩) n2 cf) (.slice ag' n0 cg') (.slice az' j cs') (.slice (some ⟨b', off', none⟩) n2 cf')) := HT3.out.below (below_q hq4)
                  clear hq4 g1 i1 g2 i2 g3 i3 HF3 HT3
                  cases ha : decide (x.objs = y.objs) with
                  | false =>
                    have HX : Hid (BoolIs (.returned (.bool false)) (p = q)) := HNO.out (fun h => absurd (HXX.out.1 h).2.2.2.1 (of_decide_eq_false ha))
                    clear ha
                    go_wp2_with fail
                    go_ret
                    exact ⟨HX.out, HT4.out.low⟩
                  | true =>
                    have Hb : Hid (x.objs = y.objs) := by unfold Hid; exact of_decide_eq_true ha
                    clear ha
                    have g4 : w4.cell? ⟨bf, 4, none⟩ = some (.slice xa4 x.code.length xc4) := HF4.out.bf.cell (i := 4) (by decide)
                    have i4 : w4.cell? ⟨bg, 4, none⟩ = some (.slice ya4 y.code.length yc4) := HF4.out.bg.cell (i := 4) (by decide)
                    by_cases hcl : x.code.length = y.code.length
                    · obtain ⟨cl, hcx⟩ : ∃ cl, x.code.length = cl := ⟨_, rfl⟩
                      rw [← hcl] at i4
                      rw [hcx] at g4 i4
                      have HCL : Hid (x.code.length = cl ∧ y.code.length = cl) := ⟨hcx, hcl ▸ hcx⟩
                      have hclm : cl ≤ 3000 := by
                        have : x.args.length + x.objs.length + x.code.length ≤ 3000 := HXL.out
                        omega
                      clear hcl hcx
                      go_wp2_with fail
                      clear g4 i4
                      go_loopw [9] (fun i wi => ∃ m : Nat, m ≤ cl ∧ i = .int .i64 m ∧ Hid (TwF wr wi bf bg x y xa0 xa3 xa4 ya0 ya3 ya4 xc0 xc3 xc4 yc0 yc3 yc4) ∧ Hid (TwV w wi bp (bp + 1) p q (.slice ag n0 cg) (.slice az j cs) (.slice (some ⟨b, off, none⟩) n2 cf) (.slice ag' n0 cg') (.slice az' j cs') (.slice (some ⟨b', off', none⟩) n2 cf')) ∧ Hid (∀ l : Nat, l < m → x.code[l]? = y.code[l]?)) (fun i _ => cl - (intOf i).toNat)
                      case atStart => exact ⟨0, Nat.zero_le _, rfl, HF4, HT4, fun l hl => absurd hl (by omega)⟩
                      case round =>
                        obtain ⟨m, hm, rfl, HFi, HTi, HC⟩ := hrel
                        clear HF4 HT4
                        have g4 : wr.cell? ⟨bf, 4, none⟩ = some (.slice xa4 cl xc4) := by rw [← HCL.out.1]; exact HFi.out.bf.cell (i := 4) (by decide)
                        have i4 : wr.cell? ⟨bg, 4, none⟩ = some (.slice ya4 cl yc4) := by rw [← HCL.out.2]; exact HFi.out.bg.cell (i := 4) (by decide)
                        by_cases hml : m < cl
                        · obtain ⟨s1, hs1⟩ : ∃ s1, x.code[m]? = some s1 := ⟨_, List.getElem?_eq_getElem (by have := HCL.out; omega)⟩
                          obtain ⟨s2, hs2⟩ : ∃ s2, y.code[m]? = some s2 := ⟨_, List.getElem?_eq_getElem (by have := HCL.out; omega)⟩
                          obtain ⟨t1, o1, rfl, _, z0, z1, z2, z3⟩ := HFi.out.ff.code.someI hs1
                          obtain ⟨t2, o2, rfl, _, y0, y1, y2, y3⟩ := HFi.out.fg.code.someI hs2
                          have hmI : (m : Int) < (cl : Int) := by omega
                          have HE2 : Hid (s1 = s2 → ∀ l : Nat, l < m + 1 → x.code[l]? = y.code[l]?) := eq_step HC.out hs1 hs2
                          have HN2 : Hid (¬ s1 = s2 → ¬ x.code = y.code) := ne_at hs1 hs2
                          clear hs1 hs2 HC
                          rcases ins_ne (i := s1) (k := s2) with rfl | hne
                          · have HE3 : Hid (∀ l : Nat, l < m + 1 → x.code[l]? = y.code[l]?) := HE2.out rfl
                            clear HE2 HN2
                            go_upto_region 17 with (fail)
                            go_quiet (fail)
                            go_wp2_with fail
                            go_roundw
                            case rel => exact ⟨m + 1, by omega, by go_num, HFi.out.below (below_drewN (Below.refl _ _) _), HTi.out.drewN _, HE3⟩
                            case measure => simp [intOf]; omega
                          · have HX : Hid (BoolIs (.returned (.bool false)) (p = q)) := HNO.out (fun h => absurd (HXX.out.1 h).2.2.2.2 (HN2.out (ins_ne' hne)))
                            clear HE2 HN2
                            rcases hne with h | ⟨h0, h⟩ | ⟨h0, h3, h⟩ | ⟨h0, h3, h4, h⟩
                            all_goals
                              go_upto_region 17 with (fail)
                              go_quiet (fail)
                              go_wp2_with fail
                              go_ret
                              exact ⟨HX.out, (HTi.out.drewN _).low⟩
                        · have e : m = cl := by omega
                          subst e
                          have hcode : x.code = y.code := eq_endL (by have := HCL.out; omega) (fun l hl => HC.out l (by have := HCL.out; omega))
                          have HE4 : Hid (∀ l : Nat, l < k + 1 → p.funcs[l]? = q.funcs[l]?) := HEq.out (HXX.out.2 ⟨HRS.out.1, HRS.out.2, Ha.out, Hb.out, hcode⟩)
                          clear hcode HC
                          go_wp2_with fail
                          go_roundw
                          case rel => exact ⟨k + 1, by omega, by go_num, HTi, HE4⟩
                          case measure => simp [intOf]; omega
                    · have hclI : ¬ (x.code.length : Int) = (y.code.length : Int) := by omega
                      have HX : Hid (BoolIs (.returned (.bool false)) (p = q)) := HNO.out (fun h => absurd (congrArg List.length (HXX.out.1 h).2.2.2.2) hcl)
                      go_wp2_with fail
                      go_ret
                      exact ⟨HX.out, HT4.out.low⟩
                · rw [← hr] at i1
                  have hslb : (x.slots == y.slots) = false := by simpa using hsl
                  have HX : Hid (BoolIs (.returned (.bool false)) (p = q)) := HNO.out (fun h => absurd (HXX.out.1 h).2.1 hsl)
                  clear hr
                  go_wp2_with fail
                  go_ret
                  exact ⟨HX.out, HT3.out.low⟩
              · have hrb : (x.res == y.res) = false := by simpa using hr
                have HX : Hid (BoolIs (.returned (.bool false)) (p = q)) := HNO.out (fun h => absurd (HXX.out.1 h).1 hr)
                go_wp2_with fail
                go_ret
                exact ⟨HX.out, HT3.out.low⟩
        · have e : k = n2 := by omega
          have HFN : Hid (p.funcs = q.funcs) := eq_endL (by have := hn.out; omega) (fun m hm => HA.out m (by have := hn.out; omega))
          have HX : Hid (BoolIs (.returned (.bool true)) (p = q)) := boolIs ⟨fun _ => HE.out.2 ⟨hg.out.1, HSH.out, HFN.out⟩, fun _ => rfl⟩
          clear HA
          go_wp2_with fail
          go_ret
          exact ⟨HX.out, HR.out.low⟩

set_option maxRecDepth 100000 in
set_option maxHeartbeats 4000000 in
theorem refSame_no (p q : Pg) (n1 n2 m1 m2 : Nat) (ag az af ag' az' af' : Option Addr) (cg cs cf cg' cs' cf' : Nat) (w : World) (hz : p.glob.length ≤ maxLen) (hno : Hid (¬ p = q)) {s : Bool} (hs : Hid (decide (p.glob = q.glob) = s)) (hc : s = false ∨ (s = true ∧ ¬ (n1 : Int) = (m1 : Int)) ∨ (s = true ∧ n1 = m1 ∧ ¬ (n2 : Int) = (m2 : Int)))
    (h1 : PgV Any w (.slice ag p.glob.length cg) (.slice az n1 cs) (.slice af n2 cf) p) (h2 : PgV Any w (.slice ag' q.glob.length cg') (.slice az' m1 cs') (.slice af' m2 cf') q) :
    Calls Try.prog 11 #[.agg #[.slice ag p.glob.length cg, .slice az n1 cs, .slice af n2 cf], .agg #[.slice ag' q.glob.length cg', .slice az' m1 cs', .slice af' m2 cf']] w fun e w' => BoolIs e (p = q) ∧ Below w.heap.size w w' := by
  obtain ⟨bp, hbp⟩ : ∃ bp, w.heap.size = bp := ⟨_, rfl⟩
  obtain ⟨n0, hn0⟩ : ∃ n0, p.glob.length = n0 := ⟨_, rfl⟩
  obtain ⟨m0, hm0⟩ : ∃ m0, q.glob.length = m0 := ⟨_, rfl⟩
  rw [hn0] at h1
  rw [hm0] at h2
  rw [hn0, hm0]
  obtain ⟨wa, hwa⟩ : ∃ wa, (w.alloc (.cells #[.slice ag n0 cg, .slice az n1 cs, .slice af n2 cf] 26)).alloc (.cells #[.slice ag' m0 cg', .slice az' m1 cs', .slice af' m2 cf'] 26) = wa := ⟨_, rfl⟩
  have hA : Below w.heap.size w wa := hwa ▸ ((Below.refl _ _).alloc (Nat.le_refl _) _).alloc (by simp) _
  have hT : TwV w wa bp (bp + 1) p q (.slice ag n0 cg) (.slice az n1 cs) (.slice af n2 cf) (.slice ag' m0 cg') (.slice az' m1 cs') (.slice af' m2 cf') := by
    refine ⟨hA, ?_, ?_, h1.below hA, h2.below hA⟩
    · rw [← hbp]; exact hwa ▸ (pg_box w _ _ _ ag az af cg cs cf).alloc _
    · have := pg_box (w.alloc (.cells #[.slice ag n0 cg, .slice az n1 cs, .slice af n2 cf] 26)) m0 m1 m2 ag' az' af' cg' cs' cf'
      rw [World.size_alloc, hbp] at this
      exact hwa ▸ this
  have HT : Hid (TwV w wa bp (bp + 1) p q (.slice ag n0 cg) (.slice az n1 cs) (.slice af n2 cf) (.slice ag' m0 cg') (.slice az' m1 cs') (.slice af' m2 cf')) := hT
  have HX : Hid (BoolIs (.returned (.bool false)) (p = q)) := boolIs ⟨fun h => (by cases h), fun h => absurd h hno.out⟩
  have HZ : Hid (p.glob.length ≤ maxLen) := hz
  obtain ⟨⟨d0, d1, d2⟩, e0, e1, e2⟩ := HT.out.c
  clear hT h1 h2 hA hno hz hn0 hm0
  go_enter Try.func11, Try.ntmps11
  go_wp2_with fail
  refine (refI hs _ _ _ HZ.out HT.out.pp.glob.at_ HT.out.pq.glob.at_).mono ?_
  rintro e w1 ⟨rfl, hq⟩
  have HT1 : Hid (TwV w w1 bp (bp + 1) p q (.slice ag n0 cg) (.slice az n1 cs) (.slice af n2 cf) (.slice ag' m0 cg') (.slice az' m1 cs') (.slice af' m2 cf')) := HT.out.below (below_q hq)
  clear hq d0 e0 d1 d2 e1 e2 HT
  obtain ⟨⟨d0, d1, d2⟩, e0, e1, e2⟩ := HT1.out.c
  clear d0 e0
  rcases hc with rfl | ⟨rfl, hc⟩ | ⟨rfl, rfl, hc⟩
  all_goals
    go_wp2_with fail
    go_ret
    exact ⟨HX.out, HT1.out.low⟩

theorem refSame_any (p q : Pg) (ag az af ag' az' af' : Option Addr) (cg cs cf cg' cs' cf' : Nat) (w : World) (hz : szP p ≤ 3000)
    (h1 : PgV Any w (.slice ag p.glob.length cg) (.slice az p.shapes.length cs) (.slice af p.funcs.length cf) p) (h2 : PgV Any w (.slice ag' q.glob.length cg') (.slice az' q.shapes.length cs') (.slice af' q.funcs.length cf') q) :
    Calls Try.prog 11 #[.agg #[.slice ag p.glob.length cg, .slice az p.shapes.length cs, .slice af p.funcs.length cf], .agg #[.slice ag' q.glob.length cg', .slice az' q.shapes.length cs', .slice af' q.funcs.length cf']] w fun e w' => BoolIs e (p = q) ∧ Below w.heap.size w w' := by
  have hz' : p.glob.length + p.shapes.length + p.funcs.length + szS p.shapes + szFs p.funcs ≤ 3000 := hz
  have hzg : p.glob.length ≤ maxLen := maxlen_of (by omega)
  by_cases hg : p.glob = q.glob
  · by_cases hs : p.shapes.length = q.shapes.length
    · by_cases hf : p.funcs.length = q.funcs.length
      · rw [← hg, ← hs, ← hf] at h2
        rw [← hg, ← hs, ← hf]
        exact refSame_core p q p.glob.length p.shapes.length p.funcs.length ag az af ag' az' af' cg cs cf cg' cs' cf' w hz ⟨rfl, hs.symm, rfl, hf.symm⟩ ⟨hg, rfl⟩ h1 h2
      · exact refSame_no p q _ _ _ _ ag az af ag' az' af' cg cs cf cg' cs' cf' w hzg (fun e => hf (by rw [e])) (s := true) (decide_eq_true hg) (Or.inr (Or.inr ⟨rfl, hs, by omega⟩)) h1 h2
    · exact refSame_no p q _ _ _ _ ag az af ag' az' af' cg cs cf cg' cs' cf' w hzg (fun e => hs (by rw [e])) (s := true) (decide_eq_true hg) (Or.inr (Or.inl ⟨rfl, by omega⟩)) h1 h2
  · exact refSame_no p q _ _ _ _ ag az af ag' az' af' cg cs cf cg' cs' cf' w hzg (fun e => hg (by rw [e])) (s := false) (decide_eq_false hg) (Or.inl rfl) h1 h2

end Go.Proofs.Ytkgicalkcbagaaa

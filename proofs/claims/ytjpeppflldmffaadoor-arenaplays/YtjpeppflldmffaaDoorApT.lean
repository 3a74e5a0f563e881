/- ArenaPlays: the whole. -/
import Derived.Test.YtjpeppflldmffaaDoorApS
namespace Go.Proofs.YtjpeppflldmffaaDoor
open Go.RowKit

set_option maxRecDepth 100000 in
set_option maxHeartbeats 8000000 in
theorem aplays_main (pages : Int) (np : Nat) (X : Arg) (ops : List Op4) (w : World) (hT : Tab w) (hnp : min (max pages 0) 64 = (np : Int)) (hp8 : pages ≤ 8) (hm : X.m = ops.length) (hm80 : X.m ≤ 80)
    (hO : ops = [] ∨ ∃ bl off, X.la = some ⟨bl, off, none⟩ ∧ bl < w.heap.size ∧ Ops4 w bl off ops) (had : I64 X.ad) :
    Calls Tryd.prog 3 #[.int .i64 pages, .slice X.la X.m X.cp, .int .i64 X.ad, .int .i64 X.pg, .int .i64 X.at'] w fun e w' => e = .returned (.bool true) ∧ Below w.heap.size w w' := by
  have HT : Hid (Tab w) := hT
  have HO : Hid (ops = [] ∨ ∃ bl off, X.la = some ⟨bl, off, none⟩ ∧ bl < w.heap.size ∧ Ops4 w bl off ops) := hO
  have HAD : Hid (I64 X.ad) := had
  have HNP : Hid (min (max pages 0) 64 = (np : Int)) := hnp
  have hn8 : np ≤ 8 := by omega
  have HL : Hid (X.m = ops.length) := hm
  clear hm hT hO had hnp
  go_enter Tryd.func3, Tryd.ntmps3
  go_wp2_with fail
  refine (alive_any _ HT.out).mono ?_
  rintro e w1 ⟨rfl, hB⟩
  have HB1 : Hid (Below w.heap.size w w1) := hB
  clear hB
  go_wp2_with fail
  refine (anew_any _ np _ HNP.out).mono ?_
  rintro e w2 ⟨ba, bp, bw, rfl, ha, hB⟩
  have H2 : Hid (AS w w2 ba bp bw np (fun _ => none) (fun _ => 0)) := ⟨⟨ha.hd, ha.pr, ha.wo, ha.pg, ha.ap, ha.out, ha.n64, Nat.le_trans HB1.out.size ha.b0, Nat.le_trans HB1.out.size ha.b1, Nat.le_trans HB1.out.size ha.b2, fun k p e => Nat.le_trans HB1.out.size (ha.b3 k p e)⟩, HB1.out.trans (hB.mono HB1.out.size), HT.out⟩
  clear ha hB HB1 HT
  go_upto_region 6 with (fail)
  go_cut [0] from 81 to 83 (fun v wk => v = .int .i64 (np : Int) ∧ wk = w2)
  case first => as_aux_lemma =>
    have h2 := HNP.out
    go_wp2
    all_goals
      go_meet
      case rel => first | exact ⟨congrArg (Value.int .i64) (by omega), rfl⟩ | exact ⟨by simp; omega, trivial⟩
  case rest => as_aux_lemma =>
    obtain ⟨rfl, hwc⟩ := hcut
    replace hwc := hwc.symm
    subst hwc
    clear hp8 HNP
    go_upto_region 7 with (fail)
    refine Code.wp_mono ?_ (md_make (X := X) (np := np) (ba := ba) _ ⟨by kernel_rfl, rfl, rfl, rfl, rfl, rfl, rfl, rfl⟩ hn8)
    rintro e a7 w3 ⟨rfl, hE, bm, bc, bu, bv, h12, hmade⟩
    obtain ⟨v, ha, hv⟩ := hE.open
    rw [hv 12 _ h12] at ha
    clear hE hv h12
    subst ha
    go_upto_block 0 with (fail)
    refine Code.wp_mono ?_ (md_classes (X := X) (np := np) (ba := ba) _ ⟨by kernel_rfl, rfl, rfl, rfl, rfl, rfl, rfl, rfl⟩ rfl rfl hn8 hmade)
    rintro e a8 w4 ⟨rfl, hE, h12, hz, hB, hsz⟩
    obtain ⟨v8, ha8, hv8⟩ := hE.open
    rw [hv8 12 _ h12] at ha8
    clear hE hv8 h12
    subst ha8
    have HR := ro_start H2.out ⟨hz.hd, hz.cl, hz.us, hz.wd, Nat.le_trans H2.out.lo.size hz.b0, Nat.le_trans H2.out.lo.size hz.b1, Nat.le_trans H2.out.lo.size hz.b2, Nat.le_trans H2.out.lo.size hz.b3, hz.ne⟩ hB hz.b1 hz.b3 hn8
    have HRO : Hid (RO w (w4.alloc (.cells #[.slice none 0 0, .slice none 0 0, .slice none 0 0, .slice none 0 0, .slice none 0 0, .slice none 0 0, .slice none 0 0, .slice none 0 0, .slice none 0 0, .slice none 0 0] 38)) ⟨ba, bp, bw, bm, bc, bu, bv, w4.heap.size, w4.heap.size, np⟩ (fun _ => none) (fun _ => 0) (fun _ => none) (fun _ => 0)) := HR
    clear HR hz hB hsz hmade H2
    go_upto_block 2 with (fail)
    refine Code.wp_mono ?_ (loop2 (X := X) (I := ⟨ba, bp, bw, bm, bc, bu, bv, w4.heap.size, w4.heap.size, np⟩) HL.out hm80 HO.out HAD.out _ ⟨by kernel_rfl, rfl, rfl, rfl, rfl, rfl, rfl, rfl, rfl, rfl, rfl⟩ HRO.out)
    rintro e a9 w9 ⟨rfl, ⟨i, hE⟩, P, W, hr⟩
    clear HRO
    apply_assumption
    exact ends _ hE hr

set_option maxRecDepth 100000 in
set_option maxHeartbeats 1000000 in
theorem aplays_long (pages : Int) (m : Nat) (a : Option Addr) (cp : Nat) (ad pg at' : Int) (w : World) (hT : Tab w) (hm : m ≤ 9223372036854775807) (h1 : 80 < m) :
    Calls Tryd.prog 3 #[.int .i64 pages, .slice a m cp, .int .i64 ad, .int .i64 pg, .int .i64 at'] w fun e w' => e = .returned (.bool true) ∧ Below w.heap.size w w' := by
  have HT : Hid (Tab w) := hT
  clear hT
  go_enter Tryd.func3, Tryd.ntmps3
  go_wp2_with fail
  refine (alive_any _ HT.out).mono ?_
  rintro e w1 ⟨rfl, hB1⟩
  go_wp2_with fail
  go_ret
  exact ⟨rfl, hB1⟩
set_option maxRecDepth 100000 in
set_option maxHeartbeats 1000000 in
theorem aplays_many (pages : Int) (m : Nat) (a : Option Addr) (cp : Nat) (ad pg at' : Int) (w : World) (hT : Tab w) (hm : m ≤ 80) (h1 : 8 < pages) :
    Calls Tryd.prog 3 #[.int .i64 pages, .slice a m cp, .int .i64 ad, .int .i64 pg, .int .i64 at'] w fun e w' => e = .returned (.bool true) ∧ Below w.heap.size w w' := by
  have HT : Hid (Tab w) := hT
  clear hT
  go_enter Tryd.func3, Tryd.ntmps3
  go_wp2_with fail
  refine (alive_any _ HT.out).mono ?_
  rintro e w1 ⟨rfl, hB1⟩
  go_wp2_with fail
  go_ret
  exact ⟨rfl, hB1⟩

theorem aplays_any (pages : Int) (ops : List Op4) (a : Option Addr) (cp : Nat) (ad pg at' : Int) (w : World) (hT : Tab w) (hl : ops.length ≤ maxLen) (hO : ops = [] ∨ ∃ bl off, a = some ⟨bl, off, none⟩ ∧ bl < w.heap.size ∧ Ops4 w bl off ops) (had : I64 ad) :
    Calls Tryd.prog 3 #[.int .i64 pages, .slice a ops.length cp, .int .i64 ad, .int .i64 pg, .int .i64 at'] w fun e w' => e = .returned (.bool true) ∧ Below w.heap.size w w' := by
  by_cases h1 : 80 < ops.length
  · exact aplays_long pages _ a cp ad pg at' w hT (by unfold maxLen at hl; omega) h1
  · by_cases h2 : 8 < pages
    · exact aplays_many pages _ a cp ad pg at' w hT (by omega) h2
    · obtain ⟨np, hnp⟩ := Int.eq_ofNat_of_zero_le (a := min (max pages 0) 64) (by omega)
      exact aplays_main pages np ⟨np, a, ops.length, cp, ad, pg, at'⟩ ops w hT hnp (by omega) rfl (by show ops.length ≤ 80; omega) hO had

end Go.Proofs.YtjpeppflldmffaaDoor

/- The walk of the document's Check. -/
import Derived.Test.YtmacipjdmaaccaaCkQ
import Derived.Test.YtmacipjdmaaccaaCkJ
import Derived.Test.YtmacipjdmaaccaaShN
namespace Go.Proofs.Ytmacipjdmaaccaa
open Go.RowKit

def RefProgIs (p : Pg) (e : Ending) : Prop := e = .returned (.tuple #[.int .i64 (progE p).1, .int .i64 ((progE p).2.1 : Int), .int .i64 ((progE p).2.2 : Int)])
theorem refProgIs {p : Pg} {s : Int} {x y : Nat} (h : progE p = (s, x, y)) : RefProgIs p (.returned (.tuple #[.int .i64 s, .int .i64 (x : Int), .int .i64 (y : Int)])) := by
  unfold RefProgIs
  rw [h]
theorem refProgIs0 {p : Pg} {s : Int} (h : progE p = (s, 0, 0)) : RefProgIs p (.returned (.tuple #[.int .i64 s, .int .i64 0, .int .i64 0])) := refProgIs h
theorem OnR.drewN {p : Pg} {ag az af : Option Addr} {cg cs cf : Nat} {w wk : World} (h : OnR w wk p ag az af cg cs cf) (q : Nat) : OnR w (wk.drewN q) p ag az af cg cs cf := h.below (below_drewN (Below.refl _ _) q)

set_option maxRecDepth 100000 in
set_option maxHeartbeats 16000000 in
theorem refCheck_any (p : Pg) (ag az af : Option Addr) (cg cs cf : Nat) (hg : Hid (Gd p)) (w : World) (hp : PgV Any w (.slice ag p.glob.length cg) (.slice az p.shapes.length cs) (.slice af p.funcs.length cf) p) :
    Calls Try.prog 8 #[.agg #[.slice ag p.glob.length cg, .slice az p.shapes.length cs, .slice af p.funcs.length cf]] w fun e w' => RefProgIs p e ∧ Below w.heap.size w w' := by
  obtain ⟨wp, hwp⟩ : ∃ wp, w.alloc (.cells #[.slice ag p.glob.length cg, .slice az p.shapes.length cs, .slice af p.funcs.length cf] 26) = wp := ⟨_, rfl⟩
  have HQ : Hid (OnR w wp p ag az af cg cs cf) := onR_start hwp hp
  obtain ⟨d0, d1, d2⟩ := HQ.out.c
  obtain ⟨c, hc⟩ : ∃ c, Hid (chkN p.shapes = c) := ⟨_, rfl⟩
  clear hp
  go_enter Try.func8, Try.ntmps8
  go_wp2_with fail
  refine (refShapes_any hc _ _ (sg_sh HQ.out.pp.shapes)).mono ?_
  rintro e w1 ⟨rfl, hw1⟩
  subst w1
  by_cases h0 : c = 0
  · have HC : Hid (chkN p.shapes = 0) := by unfold Hid; rw [hc.out, h0]
    clear hc
    by_cases hl : p.glob.length ≤ 16 ∧ 1 ≤ p.funcs.length ∧ p.funcs.length ≤ 16
    · have g1 : ¬ 16 < (p.glob.length : Int) := by omega
      have g2 : ¬ (p.funcs.length : Int) < 1 := by omega
      have g3 : ¬ 16 < (p.funcs.length : Int) := by omega
      have HL : Hid (p.glob.length ≤ 16 ∧ 1 ≤ p.funcs.length ∧ p.funcs.length ≤ 16) := hl
      clear hl
      go_wp2_with fail
      clear g1 g2 g3 d0 d1 d2 hwp
      go_loopw [6] (fun i wr => ∃ m : Nat, m ≤ p.glob.length ∧ i = .int .i64 m ∧ Hid (OnR w wr p ag az af cg cs cf) ∧ Hid (∀ l : Nat, l < m → (!fldB (p.glob.getD l 0) p.shapes.length) = false)) (fun i _ => p.glob.length - (intOf i).toNat)
      case atStart => exact ⟨0, Nat.zero_le _, rfl, HQ, fun l hl => absurd hl (by omega)⟩
      case round =>
        obtain ⟨m, hm, rfl, HR, HA⟩ := hrel
        clear HQ
        obtain ⟨d0, d1, d2⟩ := HR.out.c
        by_cases hlt : m < p.glob.length
        · obtain ⟨ab, ao, rfl, _, _, x0⟩ := HR.out.pp.glob.some hlt
          have hmI : (m : Int) < (p.glob.length : Int) := by omega
          have hm3 : m + 1 ≤ 9223372036854775807 := by have := HL.out; omega
          obtain ⟨x, hx⟩ : ∃ x, p.glob.getD m 0 = x := ⟨_, rfl⟩
          rw [hx] at x0
          obtain ⟨t, ht⟩ : ∃ t, Hid (fldB x p.shapes.length = t) := ⟨_, rfl⟩
          have HQ3 : Hid (t = false → progE p = (3, 0, 0)) := fun h => prog_top (top_glob HC.out HL.out (any_yes hlt (by rw [hx, ht.out, h]; rfl))) (by decide)
          have HA2 : Hid (t = true → ∀ l : Nat, l < m + 1 → (!fldB (p.glob.getD l 0) p.shapes.length) = false) := fun h l hl => by
            by_cases e : l = m
            · rw [e, hx, ht.out, h]; rfl
            · exact HA.out l (by omega)
          clear HA hx
          go_upto_region 9 with (fail)
          go_quiet ((go_at_call 15; exact Calls.quiet_of_same (refField_any ht _)))
          cases t with
          | false =>
            have HFF : Hid (progE p = (3, 0, 0)) := HQ3.out rfl
            clear HQ3 HA2
            go_wp2_with fail
            refine bodyPost_ret (v := .tuple #[.int .i64 3, .int .i64 0, .int .i64 0]) (by simp [results, go_sem]) rfl ?_
            exact ⟨refProgIs0 HFF.out, (HR.out.drewN _).low⟩
          | true =>
            have HA3 : Hid (∀ l : Nat, l < m + 1 → (!fldB (p.glob.getD l 0) p.shapes.length) = false) := HA2.out rfl
            clear HA2 HQ3
            go_wp2_with fail
            go_roundw
            case rel => exact ⟨m + 1, by omega, by go_num, HR.out.drewN _, HA3⟩
            case measure => simp [intOf]; omega
        · obtain rfl : m = p.glob.length := by omega
          have HAR : Hid (p.glob.any (fun k => !fldB k p.shapes.length) = false) := any_no HA.out
          clear HA hlt hm
          obtain ⟨f, hf0⟩ : ∃ f, p.funcs[0]? = some f := ⟨_, List.getElem?_eq_getElem (by have := HL.out; omega)⟩
          have HE : Hid (topE p = if f.args.length = 0 ∧ f.res = 0 then 0 else 3) := top_fun HC.out HL.out HAR.out hf0
          obtain ⟨b, off, v0, v1, v2, v3, v4, rfl, hb, _, k0, k1, k2, k3, k4, hfc⟩ := HR.out.pp.funcs.some hf0
          obtain ⟨a0, c0, a3, c3, a4, c4, rfl, rfl, rfl⟩ := hfc.lens
          obtain rfl := hfc.res
          simp only [Nat.zero_mul, Nat.add_zero] at k0 k1 k2 k3 k4
          have h1le : (0 : Int) < (p.funcs.length : Int) := by have := HL.out; omega
          clear hfc hf0 hb HAR
          obtain ⟨n, hn⟩ : ∃ n, f.args.length = n := ⟨_, rfl⟩
          obtain ⟨r, hr⟩ : ∃ r, f.res = r := ⟨_, rfl⟩
          rw [hn] at k0 HE
          rw [hr] at k1 HE
          clear hn hr
          by_cases ha : n = 0 ∧ r = 0
          · obtain ⟨rfl, rfl⟩ := ha
            have HT : Hid (topE p = 0) := by unfold Hid; rw [HE.out, if_pos ⟨rfl, rfl⟩]
            clear HE
            go_wp2_with fail
            clear d0 d1 d2 k0 k1 k2 k3 k4
            go_loopw [7, 8, 9] (fun i _ _ wr => ∃ m : Nat, m ≤ p.funcs.length ∧ i = .int .i64 m ∧ Hid (OnR w wr p ag az (some ⟨b, off, none⟩) cg cs cf) ∧ Hid (∀ l : Nat, l < m → (funE p (l : Int)).1 = 0)) (fun i _ _ _ => p.funcs.length - (intOf i).toNat)
            case atStart => exact ⟨0, Nat.zero_le _, rfl, HR, fun l hl => absurd hl (by omega)⟩
            case round =>
              obtain ⟨m, hm, rfl, HR3, HA⟩ := hrel
              clear HR
              obtain ⟨d0, d1, d2⟩ := HR3.out.c
              by_cases hlt : m < p.funcs.length
              · have hmI : (m : Int) < (p.funcs.length : Int) := by omega
                have hm3 : m + 1 ≤ 9223372036854775807 := by have := HL.out; omega
                go_wp2_with fail
                refine (refFunc_any p ag az (some ⟨b, off, none⟩) cg cs cf (m : Int) hg _ HR3.out.pp).mono ?_
                rintro e w2 ⟨he, hb⟩
                obtain ⟨s, hs⟩ : ∃ s, (funE p (m : Int)).1 = s := ⟨_, rfl⟩
                obtain ⟨y, hy⟩ : ∃ y, (funE p (m : Int)).2 = y := ⟨_, rfl⟩
                unfold RefFunIs at he
                rw [hs, hy] at he
                subst he
                have HR4 : Hid (OnR w w2 p ag az (some ⟨b, off, none⟩) cg cs cf) := HR3.out.below hb
                clear hb HR3 d0 d1 d2
                by_cases h1 : s = 0
                · have HA2 : Hid (∀ l : Nat, l < m + 1 → (funE p (l : Int)).1 = 0) := fun l hl => by
                    by_cases e : l = m
                    · rw [e, hs, h1]
                    · exact HA.out l (by omega)
                  clear HA hs hy
                  go_wp2_with fail
                  go_roundw
                  case rel => exact ⟨m + 1, by omega, by go_num, HR4, HA2⟩
                  case measure => simp [intOf]; omega
                · have HPr : Hid (progE p = (s, m, y)) := prog_bad HT.out hlt HA.out (by rw [← hs, ← hy]) h1
                  clear HA hs hy
                  go_wp2_with fail
                  refine bodyPost_ret (v := .tuple #[.int .i64 s, .int .i64 (m : Int), .int .i64 (y : Int)]) (by simp [results, go_sem]) rfl ?_
                  exact ⟨refProgIs HPr.out, HR4.out.low⟩
              · obtain rfl : m = p.funcs.length := by omega
                have HPr : Hid (progE p = (0, 0, 0)) := prog_ok HT.out HA.out
                clear HA
                go_wp2_with fail
                refine bodyPost_ret (v := .tuple #[.int .i64 0, .int .i64 0, .int .i64 0]) (by simp [results, go_sem]) rfl ?_
                exact ⟨refProgIs0 HPr.out, HR3.out.low⟩
          · have HPr : Hid (progE p = (3, 0, 0)) := prog_top (by rw [HE.out, if_neg ha]) (by decide)
            by_cases hn0 : n = 0
            · subst hn0
              have hrb : (r != 0) = true := by
                have : ¬ r = 0 := fun h => ha ⟨rfl, h⟩
                simpa using this
              clear ha HE
              go_wp2_with fail
              refine bodyPost_ret (v := .tuple #[.int .i64 3, .int .i64 0, .int .i64 0]) (by simp [results, go_sem]) rfl ?_
              exact ⟨refProgIs0 HPr.out, HR.out.low⟩
            · have ha' : 0 < (n : Int) := by omega
              have ha2 : decide (0 < n) = true := decide_eq_true (by omega)
              clear ha HE hn0
              go_wp2_with fail
              refine bodyPost_ret (v := .tuple #[.int .i64 3, .int .i64 0, .int .i64 0]) (by simp [results, go_sem]) rfl ?_
              exact ⟨refProgIs0 HPr.out, HR.out.low⟩
    · have HPr : Hid (progE p = (1, 0, 0)) := prog_top (top_len HC.out hl) (by decide)
      by_cases g1 : 16 < (p.glob.length : Int)
      · clear hl
        go_wp2_with fail
        refine bodyPost_ret (v := .tuple #[.int .i64 1, .int .i64 0, .int .i64 0]) (by simp [results, go_sem]) rfl ?_
        exact ⟨refProgIs0 HPr.out, HQ.out.low⟩
      · by_cases g2 : (p.funcs.length : Int) < 1
        · have HTT := HPr
          clear hl
          go_wp2_with fail
          refine bodyPost_ret (v := .tuple #[.int .i64 1, .int .i64 0, .int .i64 0]) (by simp [results, go_sem]) rfl ?_
          exact ⟨refProgIs0 HPr.out, HQ.out.low⟩
        · have g3 : 16 < (p.funcs.length : Int) := by omega
          clear hl
          go_wp2_with fail
          refine bodyPost_ret (v := .tuple #[.int .i64 1, .int .i64 0, .int .i64 0]) (by simp [results, go_sem]) rfl ?_
          exact ⟨refProgIs0 HPr.out, HQ.out.low⟩
  · have HPr : Hid (progE p = (c, 0, 0)) := prog_top (top_sh hc.out h0) h0
    go_wp2_with fail
    refine bodyPost_ret (v := .tuple #[.int .i64 c, .int .i64 0, .int .i64 0]) (by simp [results, go_sem]) rfl ?_
    exact ⟨refProgIs0 HPr.out, HQ.out.low⟩

end Go.Proofs.Ytmacipjdmaaccaa

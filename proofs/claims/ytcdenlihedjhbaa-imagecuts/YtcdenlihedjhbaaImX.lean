/- The walk of ImageCuts. -/
import Derived.Test.YtcdenlihedjhbaaImW
namespace Go.Proofs.Ytcdenlihedjhbaa
open Go.RowKit

/-- A box of a program, and what it leads to. -/
structure OnP (w wk : World) (bp : Nat) (p : Pg) (v0 v1 v2 : Value) : Prop where
  low : Below w.heap.size w wk
  bp : wk.rowIs bp 26 3 (pgC v0 v1 v2)
  pp : PgV Any wk v0 v1 v2 p
theorem OnP.below {w wk w2 : World} {bp : Nat} {p : Pg} {v0 v1 v2 : Value} (h : OnP w wk bp p v0 v1 v2) (hb : Below wk.heap.size wk w2) : OnP w w2 bp p v0 v1 v2 :=
  ⟨h.low.trans (hb.mono h.low.size), h.bp.of_block (hb.block _ h.bp.lt), h.pp.below hb⟩
theorem OnP.c {w wk : World} {bp : Nat} {p : Pg} {v0 v1 v2 : Value} (h : OnP w wk bp p v0 v1 v2) : wk.cell? ⟨bp, 0, none⟩ = some v0 ∧ wk.cell? ⟨bp, 1, none⟩ = some v1 ∧ wk.cell? ⟨bp, 2, none⟩ = some v2 :=
  ⟨h.bp.cell (i := 0) (by decide), h.bp.cell (i := 1) (by decide), h.bp.cell (i := 2) (by decide)⟩
theorem onP_start {w : World} {p : Pg} {ag az af : Option Addr} {cg cs cf : Nat} (h1 : PgV Any w (.slice ag p.glob.length cg) (.slice az p.shapes.length cs) (.slice af p.funcs.length cf) p) :
    OnP w (w.alloc (.cells #[.slice ag p.glob.length cg, .slice az p.shapes.length cs, .slice af p.funcs.length cf] 26)) w.heap.size p (.slice ag p.glob.length cg) (.slice az p.shapes.length cs) (.slice af p.funcs.length cf) := by
  have hA : Below w.heap.size w (w.alloc (.cells #[.slice ag p.glob.length cg, .slice az p.shapes.length cs, .slice af p.funcs.length cf] 26)) := (Below.refl _ _).alloc (Nat.le_refl _) _
  exact ⟨hA, pg_box w _ _ _ ag az af cg cs cf, h1.below hA⟩
/-- Read of what is none. -/
theorem readNo {t : List Int} {s : ByteArray} (hs : Hid (s = strOfNums t ∧ Byt t ∧ t.length ≤ 100000 ∧ rdP t = none)) (w : World) :
    Calls Try.prog 11 #[.string s] w fun e w' => ∃ ag cg az cs af cf, e = .returned (.tuple #[.agg #[.slice ag 0 cg, .slice az 0 cs, .slice af 0 cf], .int .i64 2]) ∧ Below w.heap.size w w' := by
  obtain ⟨h1, h2, h3, h4⟩ := hs.out
  refine (readP_any (t := t) (q := noP) (k := 2) w h1 h2 h3 (by unfold rdPQ; rw [h4]; rfl) (by unfold rdPE; rw [h4]; rfl)).mono ?_
  rintro e w' ⟨ag, cg, az, cs, af, cf, he, _, hB⟩
  exact ⟨ag, cg, az, cs, af, cf, he, hB⟩
theorem lyP_len (p : Pg) (hz : szP p ≤ 3000) : 3 ≤ (lyP p).length ∧ (lyP p).length ≤ 40000 := by
  have hz' : p.glob.length + p.shapes.length + p.funcs.length + szS p.shapes + szFs p.funcs ≤ 3000 := hz
  have h1 := flatL_len p.shapes
  have h2 := flatF_len p.funcs
  rw [lyP_parts]
  simp only [List.length_append, lyL_len, List.length_cons, List.length_nil]
  omega

theorem nums_app (t u : List Int) : strOfNums t ++ strOfNums u = strOfNums (t ++ u) := by
  apply ByteArray.ext
  apply Array.toList_inj.1
  rw [strOfNums_data]
  simp [strOfNums]
theorem empty_emp : (⟨#[]⟩ : ByteArray).toList.isEmpty = true := nums_emp []

set_option maxRecDepth 100000 in
set_option maxHeartbeats 4000000 in
theorem cuts_early (p : Pg) (ag az af : Option Addr) (cg cs cf : Nat) (k : Int) (more : ByteArray) (m : Nat) (hm : more.size = m) (w : World) (hlp : Len p) {sp : Bool} (hsp : Hid (decide (szP p ≤ 3000) = sp)) (hc : sp = false ∨ (sp = true ∧ 40 < (m : Int)) ∨ (sp = true ∧ m = 0))
    (h1 : PgV Any w (.slice ag p.glob.length cg) (.slice az p.shapes.length cs) (.slice af p.funcs.length cf) p) :
    Calls Try.prog 5 #[.agg #[.slice ag p.glob.length cg, .slice az p.shapes.length cs, .slice af p.funcs.length cf], .int .i64 k, .string more] w fun e w' => e = .returned (.bool true) ∧ Below w.heap.size w w' := by
  have hT := onP_start h1
  obtain ⟨wa, hwa⟩ : ∃ wa, w.alloc (.cells #[.slice ag p.glob.length cg, .slice az p.shapes.length cs, .slice af p.funcs.length cf] 26) = wa := ⟨_, rfl⟩
  rw [hwa] at hT
  obtain ⟨bp, hbp⟩ : ∃ bp, w.heap.size = bp := ⟨_, rfl⟩
  have HT : Hid (OnP w wa bp p (.slice ag p.glob.length cg) (.slice az p.shapes.length cs) (.slice af p.funcs.length cf)) := by rw [hbp] at hT; exact hT
  have HLP : Hid (Len p) := hlp
  clear hT h1 hlp
  obtain ⟨d0, d1, d2⟩ := HT.out.c
  go_enter Try.func5, Try.ntmps5
  go_wp2_with fail
  refine (smallN HLP.out ag az af cg cs cf _ hsp HT.out.pp).mono ?_
  rintro e w1 ⟨rfl, hb⟩
  have HT1 : Hid (OnP w w1 bp p (.slice ag p.glob.length cg) (.slice az p.shapes.length cs) (.slice af p.funcs.length cf)) := HT.out.below hb
  clear hb HT d0 d1 d2
  rcases hc with rfl | ⟨rfl, hc⟩ | ⟨rfl, rfl⟩
  all_goals
    go_wp2_with fail
    refine (alive_any _).mono ?_
    rintro e w2 ⟨rfl, hb⟩
    have HB : Hid (Below w.heap.size w w2) := (HT1.out.below hb).low
    clear hb
    go_wp2_with fail
    go_ret
    first | exact ⟨rfl, HB.out⟩ | exact ⟨rfl, hbp ▸ HB.out⟩

set_option maxRecDepth 100000 in
set_option maxHeartbeats 4000000 in
theorem cuts_late (p : Pg) (ag az af : Option Addr) (cg cs cf : Nat) (k : Int) (more : ByteArray) (m : Nat) (hm : more.size = m) (w : World) (hlp : Len p) (hsp : Hid (decide (szP p ≤ 3000) = true)) (hc : ¬ 40 < (m : Int) ∧ ¬ (m : Int) = 0)
    (h1 : PgV Any w (.slice ag p.glob.length cg) (.slice az p.shapes.length cs) (.slice af p.funcs.length cf) p) :
    Calls Try.prog 5 #[.agg #[.slice ag p.glob.length cg, .slice az p.shapes.length cs, .slice af p.funcs.length cf], .int .i64 k, .string more] w fun e w' => e = .returned (.bool true) ∧ Below w.heap.size w w' := by
  have hT := onP_start h1
  obtain ⟨wa, hwa⟩ : ∃ wa, w.alloc (.cells #[.slice ag p.glob.length cg, .slice az p.shapes.length cs, .slice af p.funcs.length cf] 26) = wa := ⟨_, rfl⟩
  rw [hwa] at hT
  obtain ⟨bp, hbp⟩ : ∃ bp, w.heap.size = bp := ⟨_, rfl⟩
  have HT : Hid (OnP w wa bp p (.slice ag p.glob.length cg) (.slice az p.shapes.length cs) (.slice af p.funcs.length cf)) := by rw [hbp] at hT; exact hT
  have HLP : Hid (Len p) := hlp
  clear hT h1 hlp
  have hm40 : decide (40 < (m : Int)) = false := decide_eq_false hc.1
  have hm0 : ((m : Int) == 0) = false := by simpa using hc.2
  have HC : Hid (¬ 40 < (m : Int) ∧ ¬ (m : Int) = 0) := hc
  clear hc
  obtain ⟨d0, d1, d2⟩ := HT.out.c
  have HZP : Hid (szP p ≤ 3000) := by unfold Hid; exact of_decide_eq_true hsp.out
  go_enter Try.func5, Try.ntmps5
  go_wp2_with fail
  refine (smallN HLP.out ag az af cg cs cf _ hsp HT.out.pp).mono ?_
  rintro e w1 ⟨rfl, hb⟩
  have HT1 : Hid (OnP w w1 bp p (.slice ag p.glob.length cg) (.slice az p.shapes.length cs) (.slice af p.funcs.length cf)) := HT.out.below hb
  clear hb HT d0 d1 d2
  go_wp2_with fail
  refine (alive_any _).mono ?_
  rintro e w2 ⟨rfl, hb⟩
  have HT2 : Hid (OnP w w2 bp p (.slice ag p.glob.length cg) (.slice az p.shapes.length cs) (.slice af p.funcs.length cf)) := HT1.out.below hb
  clear hb HT1
  obtain ⟨d0, d1, d2⟩ := HT2.out.c
  cases hop : okP p with
  | false =>
    have hS : Hid (layPR p = ⟨#[]⟩ ∧ layPE p = 1) := by unfold Hid layPR layPE; rw [hop]; exact ⟨rfl, rfl⟩
    have hemp := empty_emp
    clear hop
    go_wp2_with fail
    refine (layN_ hS ag az af cg cs cf _ HZP.out HT2.out.pp).mono ?_
    rintro e w3 ⟨rfl, hb⟩
    have HB : Hid (Below w.heap.size w w3) := (HT2.out.below hb).low
    clear hb
    go_wp2_with fail
    go_ret
    first | exact ⟨rfl, HB.out⟩ | exact ⟨rfl, hbp ▸ HB.out⟩
  | true =>
    obtain ⟨hl3, hl4⟩ := lyP_len p HZP.out
    obtain ⟨z, hz⟩ : ∃ z, (lyP p).length = z := ⟨_, rfl⟩
    rw [hz] at hl3 hl4
    obtain ⟨S, hSS⟩ : ∃ S, layPR p = S := ⟨_, rfl⟩
    have hSn : S = strOfNums (lyP p) := by rw [← hSS]; exact layPR_ok hop
    have hS : Hid (layPR p = S ∧ layPE p = 0) := ⟨hSS, by unfold layPE; rw [hop]; rfl⟩
    have hsz : S.size = z := by rw [hSn, strOfNums_size, hz]
    have hemp : S.toList.isEmpty = false := by
      rw [hSn, nums_emp]
      cases hly : lyP p with
      | nil => rw [hly] at hz; simp at hz; omega
      | cons y u => rfl
    have hr1 := Int.tmod_lt_of_pos k (show (0 : Int) < (z : Int) by omega)
    have hr2 := Int.lt_tmod_of_pos k (show (0 : Int) < (z : Int) by omega)
    have hn : (0 : Int) ≤ k.tmod (z : Int) + (z : Int) := by omega
    have hK0 := Int.tmod_nonneg (z : Int) hn
    have hK1 := Int.tmod_lt_of_pos (k.tmod (z : Int) + (z : Int)) (show (0 : Int) < (z : Int) by omega)
    obtain ⟨K, hK⟩ : ∃ K : Nat, (k.tmod (z : Int) + (z : Int)).tmod (z : Int) = (K : Int) := ⟨_, (Int.toNat_of_nonneg hK0).symm⟩
    rw [hK] at hK0 hK1
    generalize hx : k.tmod (z : Int) = x at *
    have hKz : K ≤ z := by omega
    have hz0 : ¬ (z : Int) = 0 := by omega
    have HR1 : Hid (S.extract 0 K = strOfNums ((lyP p).take K) ∧ Byt ((lyP p).take K) ∧ ((lyP p).take K).length ≤ 100000 ∧ rdP ((lyP p).take K) = none) := by
      refine ⟨by rw [hSn]; exact nums_take _ _, fun x hx => lyP_byt hop x (List.mem_of_mem_take hx), ?_, rdP_cut hop (lyP_byt hop) (by omega)⟩
      rw [List.length_take]
      omega
    obtain ⟨tm, htm, hbm, hlm⟩ := nums_of more
    have HR2 : Hid (S ++ more = strOfNums (lyP p ++ tm) ∧ Byt (lyP p ++ tm) ∧ (lyP p ++ tm).length ≤ 100000 ∧ rdP (lyP p ++ tm) = none) := by
      have := HC.out
      refine ⟨by rw [hSn, htm]; exact nums_app _ _, fun x hx => ?_, ?_, rdP_more hop ?_⟩
      · rcases List.mem_append.1 hx with hx | hx
        · exact lyP_byt hop x hx
        · exact hbm x hx
      · rw [List.length_append]
        omega
      · intro e
        rw [e] at hlm
        simp at hlm
        omega
    have hml : more.size ≤ 40 := by have := HC.out; omega
    have hcat : ¬ (9223372036854775807 : Int) < (z : Int) + (m : Int) := by omega
    clear hop hz hSS hSn htm hbm hlm hn hml
    go_wp2_with fail
    refine (layN_ hS ag az af cg cs cf _ HZP.out HT2.out.pp).mono ?_
    rintro e w3 ⟨rfl, hb⟩
    have HB3 : Hid (Below w.heap.size w w3) := (HT2.out.below hb).low
    clear hb HT2 d0 d1 d2 hS
    go_wp2_with fail
    refine (readNo HR1 _).mono ?_
    rintro e w4 ⟨qg, cg', qs, cs', qf, cf', rfl, hb⟩
    have HB4 : Hid (Below w.heap.size w w4) := HB3.out.trans (hb.mono HB3.out.size)
    have HA4 : Hid (Below w.heap.size w (w4.alloc (.cells #[.slice qg 0 cg', .slice qs 0 cs', .slice qf 0 cf'] 26))) := HB4.out.alloc HB4.out.size _
    clear hb HB3 HR1
    go_wp2_with fail
    refine (readNo HR2 _).mono ?_
    rintro e w5 ⟨qg2, cg2, qs2, cs2, qf2, cf2, rfl, hb⟩
    have HB5 : Hid (Below w.heap.size w w5) := HA4.out.trans (hb.mono HA4.out.size)
    have HA5 : Hid (Below w.heap.size w (w5.alloc (.cells #[.slice qg2 0 cg2, .slice qs2 0 cs2, .slice qf2 0 cf2] 26))) := HB5.out.alloc HB5.out.size _
    clear hb HA4 HB4 HB5 HR2
    go_wp2_with fail
    go_ret
    first | exact ⟨rfl, HA5.out⟩ | exact ⟨rfl, hbp ▸ HA5.out⟩

open Go.ChangeShapes Go.WideShapes Go.ChangeAt in
theorem cuts_arg {H : Type} {enc : TypeId × Value → H} {W : World} {base : Nat} {v : Value} {d : DataW H} {p : List MemPlace} (h : DataW.Trod enc Try.prog W 0 (fun _ => true) true 26 v d p) (hv : Value.okWide Try.prog W .any base 26 v) (k : Int) (more : ByteArray) :
    Calls Try.prog 5 #[v, .int .i64 k, .string more] W fun e w' => e = .returned (.bool true) ∧ Below W.heap.size W w' := by
  obtain ⟨q, ag, cg, az, cs, af, cf, rfl, hl, hq⟩ := prog_arg h hv
  obtain ⟨sp, hsp⟩ : ∃ sp, Hid (decide (szP q ≤ 3000) = sp) := ⟨_, rfl⟩
  cases sp with
  | false => exact cuts_early q ag az af cg cs cf k more _ rfl W hl hsp (Or.inl rfl) hq
  | true =>
    by_cases h4 : 40 < (more.size : Int)
    · exact cuts_early q ag az af cg cs cf k more _ rfl W hl hsp (Or.inr (Or.inl ⟨rfl, h4⟩)) hq
    · by_cases h0 : more.size = 0
      · exact cuts_early q ag az af cg cs cf k more _ rfl W hl hsp (Or.inr (Or.inr ⟨rfl, h0⟩)) hq
      · exact cuts_late q ag az af cg cs cf k more _ rfl W hl hsp ⟨h4, by omega⟩ hq

end Go.Proofs.Ytcdenlihedjhbaa

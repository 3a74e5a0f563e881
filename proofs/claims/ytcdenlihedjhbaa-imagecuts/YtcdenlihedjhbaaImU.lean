/- The walk of ImageUnlike. -/
import Derived.Test.YtcdenlihedjhbaaImN
import Derived.Test.YtcdenlihedjhbaaImJ
namespace Go.Proofs.Ytcdenlihedjhbaa
open Go.RowKit

/-- A program's lists may be as long as lists may be. -/
structure Len (p : Pg) : Prop where
  glob : p.glob.length ≤ maxLen
  shapes : p.shapes.length ≤ maxLen
  funcs : p.funcs.length ≤ maxLen
  es : ∀ L ∈ p.shapes, L.length ≤ maxLen
  ef : ∀ f ∈ p.funcs, f.args.length ≤ maxLen ∧ f.objs.length ≤ maxLen ∧ f.code.length ≤ maxLen
theorem smallN {p : Pg} (hl : Len p) (ag az af : Option Addr) (cg cs cf : Nat) (w : World) {s : Bool} (hs : Hid (decide (szP p ≤ 3000) = s)) (h : PgV Any w (.slice ag p.glob.length cg) (.slice az p.shapes.length cs) (.slice af p.funcs.length cf) p) :
    Calls Try.prog 7 #[.agg #[.slice ag p.glob.length cg, .slice az p.shapes.length cs, .slice af p.funcs.length cf]] w fun e w' => e = .returned (.bool s) ∧ Below w.heap.size w w' :=
  hs.out ▸ small_any p ag az af cg cs cf w h hl.glob hl.shapes hl.funcs hl.es hl.ef
theorem layN_ {p : Pg} {S : ByteArray} {k : Int} (hS : Hid (layPR p = S ∧ layPE p = k)) (ag az af : Option Addr) (cg cs cf : Nat) (w : World) (hz : szP p ≤ 3000) (h : PgV Any w (.slice ag p.glob.length cg) (.slice az p.shapes.length cs) (.slice af p.funcs.length cf) p) :
    Calls Try.prog 9 #[.agg #[.slice ag p.glob.length cg, .slice az p.shapes.length cs, .slice af p.funcs.length cf]] w fun e w' => e = .returned (.tuple #[.string S, .int .i64 k]) ∧ Below w.heap.size w w' := by
  have := layP_any p ag az af cg cs cf w h hz
  rw [hS.out.1, hS.out.2] at this
  exact this
theorem strOfNums_inj {t u : List Int} (ht : Byt t) (hu : Byt u) (h : strOfNums t = strOfNums u) : t = u := by
  have hl : t.length = u.length := by
    have := congrArg ByteArray.size h
    rwa [strOfNums_size, strOfNums_size] at this
  refine List.ext_getElem hl fun j h1 h2 => ?_
  have e1 := nums_at ht h1
  have e2 := nums_at hu h2
  rw [h, e2] at e1
  simpa [h1, h2] using e1.symm
theorem toList_ne {S T : ByteArray} (h : ¬ S = T) : ¬ S.toList = T.toList := fun e => h (ByteArray.ext (Array.toList_inj.1 (by rw [← ByteArray.toList_eq, ← ByteArray.toList_eq, e])))
theorem lay_same {p q : Pg} (hp : okP p = true) (hq : okP q = true) : layPR p = layPR q ↔ p = q := by
  rw [layPR_ok hp, layPR_ok hq]
  exact ⟨fun h => lyP_inj hp hq (strOfNums_inj (lyP_byt hp) (lyP_byt hq) h), fun h => by rw [h]⟩

set_option maxRecDepth 100000 in
set_option maxHeartbeats 4000000 in
theorem unlike_walk (p q : Pg) (ag az af ag' az' af' : Option Addr) (cg cs cf cg' cs' cf' : Nat) (w : World) (hlp : Len p) (hlq : Len q)
    (h1 : PgV Any w (.slice ag p.glob.length cg) (.slice az p.shapes.length cs) (.slice af p.funcs.length cf) p) (h2 : PgV Any w (.slice ag' q.glob.length cg') (.slice az' q.shapes.length cs') (.slice af' q.funcs.length cf') q) :
    Calls Try.prog 6 #[.agg #[.slice ag p.glob.length cg, .slice az p.shapes.length cs, .slice af p.funcs.length cf], .agg #[.slice ag' q.glob.length cg', .slice az' q.shapes.length cs', .slice af' q.funcs.length cf']] w fun e w' => e = .returned (.bool true) ∧ Below w.heap.size w w' := by
  have hT := twP_start h1 h2
  obtain ⟨wa, hwa⟩ : ∃ wa, (w.alloc (.cells #[.slice ag p.glob.length cg, .slice az p.shapes.length cs, .slice af p.funcs.length cf] 26)).alloc (.cells #[.slice ag' q.glob.length cg', .slice az' q.shapes.length cs', .slice af' q.funcs.length cf'] 26) = wa := ⟨_, rfl⟩
  rw [hwa] at hT
  obtain ⟨bp, hbp⟩ : ∃ bp, w.heap.size = bp := ⟨_, rfl⟩
  have HT : Hid (TwP w wa bp (bp + 1) p q ag az af ag' az' af' cg cs cf cg' cs' cf') := by rw [hbp] at hT; exact hT
  have HLP : Hid (Len p) := hlp
  have HLQ : Hid (Len q) := hlq
  clear hT h1 h2 hlp hlq
  obtain ⟨⟨d0, d1, d2⟩, e0, e1, e2⟩ := HT.out.c
  obtain ⟨sp, hsp⟩ : ∃ sp, Hid (decide (szP p ≤ 3000) = sp) := ⟨_, rfl⟩
  obtain ⟨sq, hsq⟩ : ∃ sq, Hid (decide (szP q ≤ 3000) = sq) := ⟨_, rfl⟩
  go_enter Try.func6, Try.ntmps6
  go_wp2_with fail
  refine (smallN HLP.out ag az af cg cs cf _ hsp HT.out.pp).mono ?_
  rintro e w1 ⟨rfl, hb⟩
  have HT1 : Hid (TwP w w1 bp (bp + 1) p q ag az af ag' az' af' cg cs cf cg' cs' cf') := HT.out.below hb
  clear hb HT d0 d1 d2 e0 e1 e2
  obtain ⟨⟨d0, d1, d2⟩, e0, e1, e2⟩ := HT1.out.c
  cases sp with
  | false =>
    go_wp2_with fail
    refine (alive_any _).mono ?_
    rintro e w2 ⟨rfl, hb⟩
    have HB : Hid (Below w.heap.size w w2) := (HT1.out.below hb).low
    clear hb
    go_wp2_with fail
    go_ret
    first | exact ⟨rfl, HB.out⟩ | exact ⟨rfl, hbp ▸ HB.out⟩
  | true =>
    go_wp2_with fail
    refine (smallN HLQ.out ag' az' af' cg' cs' cf' _ hsq HT1.out.pq).mono ?_
    rintro e w2 ⟨rfl, hb⟩
    have HT2 : Hid (TwP w w2 bp (bp + 1) p q ag az af ag' az' af' cg cs cf cg' cs' cf') := HT1.out.below hb
    clear hb HT1 d0 d1 d2 e0 e1 e2
    cases sq with
    | false =>
      go_wp2_with fail
      refine (alive_any _).mono ?_
      rintro e w3 ⟨rfl, hb⟩
      have HB : Hid (Below w.heap.size w w3) := (HT2.out.below hb).low
      clear hb
      go_wp2_with fail
      go_ret
      first | exact ⟨rfl, HB.out⟩ | exact ⟨rfl, hbp ▸ HB.out⟩
    | true =>
      go_wp2_with fail
      refine (alive_any _).mono ?_
      rintro e w3 ⟨rfl, hb⟩
      have HT3 : Hid (TwP w w3 bp (bp + 1) p q ag az af ag' az' af' cg cs cf cg' cs' cf') := HT2.out.below hb
      clear hb HT2
      obtain ⟨⟨d0, d1, d2⟩, e0, e1, e2⟩ := HT3.out.c
      have HZP : Hid (szP p ≤ 3000) := by unfold Hid; exact of_decide_eq_true hsp.out
      have HZQ : Hid (szP q ≤ 3000) := by unfold Hid; exact of_decide_eq_true hsq.out
      obtain ⟨S1, hS1⟩ : ∃ S1, Hid (layPR p = S1 ∧ layPE p = erN (okP p)) := ⟨_, rfl, rfl⟩
      obtain ⟨S2, hS2⟩ : ∃ S2, Hid (layPR q = S2 ∧ layPE q = erN (okP q)) := ⟨_, rfl, rfl⟩
      go_wp2_with fail
      refine (layN_ hS1 ag az af cg cs cf _ HZP.out HT3.out.pp).mono ?_
      rintro e w4 ⟨rfl, hb⟩
      have HT4 : Hid (TwP w w4 bp (bp + 1) p q ag az af ag' az' af' cg cs cf cg' cs' cf') := HT3.out.below hb
      clear hb HT3 d0 d1 d2 e0 e1 e2
      obtain ⟨⟨d0, d1, d2⟩, e0, e1, e2⟩ := HT4.out.c
      go_wp2_with fail
      refine (layN_ hS2 ag' az' af' cg' cs' cf' _ HZQ.out HT4.out.pq).mono ?_
      rintro e w5 ⟨rfl, hb⟩
      have HT5 : Hid (TwP w w5 bp (bp + 1) p q ag az af ag' az' af' cg cs cf cg' cs' cf') := HT4.out.below hb
      clear hb HT4 d0 d1 d2 e0 e1 e2
      obtain ⟨⟨d0, d1, d2⟩, e0, e1, e2⟩ := HT5.out.c
      have ht : erN true = 0 := rfl
      have hf : erN false = 1 := rfl
      cases hop : okP p with
      | false =>
        rw [hf]
        clear hop
        generalize erN (okP q) = kq at *
        go_wp2_with fail
        go_ret
        first | exact ⟨rfl, HT5.out.low⟩ | exact ⟨rfl, hbp ▸ HT5.out.low⟩
      | true =>
        cases hoq : okP q with
        | false =>
          rw [ht, hf]
          clear hop hoq
          go_wp2_with fail
          go_ret
          first | exact ⟨rfl, HT5.out.low⟩ | exact ⟨rfl, hbp ▸ HT5.out.low⟩
        | true =>
          have HS : Hid (S1 = S2 ↔ p = q) := by
            have := lay_same hop hoq
            rw [hS1.out.1, hS2.out.1] at this
            exact this
          rw [ht]
          clear hop hoq hS1 hS2
          go_wp2_with fail
          refine (refSame_any p q ag az af ag' az' af' cg cs cf cg' cs' cf' _ HZP.out HT5.out.pp HT5.out.pq).mono ?_
          rintro e w6 ⟨⟨s, rfl, hs⟩, hb⟩
          have HB : Hid (Below w.heap.size w w6) := (HT5.out.below hb).low
          have HQ : Hid (s = true ↔ S1 = S2) := hs.trans HS.out.symm
          clear hb hs HS HT5 d0 d1 d2 e0 e1 e2
          by_cases hss : S1 = S2
          · subst hss
            obtain rfl : s = true := HQ.out.2 rfl
            go_wp2_with fail
            go_ret
            first | exact ⟨ret_bool (by simp), HB.out⟩ | exact ⟨ret_bool (by simp), hbp ▸ HB.out⟩
          · have hsf : s = false := by
              cases s with
              | false => rfl
              | true => exact absurd (HQ.out.1 rfl) hss
            subst hsf
            have hse : decide (S1 = S2) = false := decide_eq_false hss
            go_wp2_with fail
            go_ret
            first | exact ⟨ret_bool (by simp [toList_ne hss]), HB.out⟩ | exact ⟨ret_bool (by simp [toList_ne hss]), hbp ▸ HB.out⟩

end Go.Proofs.Ytcdenlihedjhbaa

/- The walks of check's checkProgram, Program. -/
import Derived.Test.YtmjappcjfjajmaaCkI
namespace Go.Proofs.Ytmjappcjfjajmaa
open Go.RowKit Go.Maps

theorem sg_sh {w : World} {v : Value} {Ls : List (List Int)} (h : SgV Any w v Ls) : ShV w v Ls := by
  rcases h with h | ⟨b, off, c, h1, h2⟩
  · exact Or.inl h
  · refine Or.inr ⟨b, off, c, h1, h2.lt, fun j hj => ?_⟩
    have hg : Ls[j]? = some (Ls.getD j []) := by
      rw [List.getD, List.getElem?_eq_getElem hj]
      rfl
    obtain ⟨v, h3, h4⟩ := h2.cell j _ hg
    obtain ⟨a, c', rfl⟩ := h4.len
    exact ⟨a, c', h3, h4.at_⟩

theorem hasRes_n (x y : Int) (a0 a3 a4 : Option Addr) (n0 n3 n4 c0 c3 c4 : Nat) {r : Bool} (hr : Hid ((x != 0) = r)) (w : World) : Calls Try.prog 69 #[.agg #[.slice a0 n0 c0, .int .i64 x, .int .i64 y, .slice a3 n3 c3, .slice a4 n4 c4]] w fun e w' => e = .returned (.bool r) ∧ Below w.heap.size w w' := by
  obtain rfl := hr.out
  clear hr
  have HB : Hid (Below w.heap.size w (w.alloc (.cells #[.slice a0 n0 c0, .int .i64 x, .int .i64 y, .slice a3 n3 c3, .slice a4 n4 c4] 41))) := (Below.refl _ _).alloc (Nat.le_refl _) _
  go_enter Try.func69, Try.ntmps69
  go_wp2_with fail
  go_ret
  exact ⟨rfl, HB.out⟩
theorem top_sh {p : Pg} {c : Int} (h : chkN p.shapes = c) (h0 : ¬ c = 0) : topE p = c := by unfold topE; rw [h, if_neg h0]
theorem top_len {p : Pg} (h : chkN p.shapes = 0) (h0 : ¬ (p.glob.length ≤ 16 ∧ 1 ≤ p.funcs.length ∧ p.funcs.length ≤ 16)) : topE p = 1 := by unfold topE; rw [if_pos h, if_neg h0]
theorem top_glob {p : Pg} (h : chkN p.shapes = 0) (h0 : p.glob.length ≤ 16 ∧ 1 ≤ p.funcs.length ∧ p.funcs.length ≤ 16) (h1 : p.glob.any (fun k => !fldB k p.shapes.length) = true) : topE p = 3 := by
  rw [all_not (fun k => fldB k p.shapes.length)] at h1
  unfold topE
  rw [if_pos h, if_pos h0, if_neg (by simpa using h1)]
theorem top_fun {p : Pg} {f : Fn} (h : chkN p.shapes = 0) (h0 : p.glob.length ≤ 16 ∧ 1 ≤ p.funcs.length ∧ p.funcs.length ≤ 16) (h1 : p.glob.any (fun k => !fldB k p.shapes.length) = false) (hf : p.funcs[0]? = some f) :
    topE p = if f.args.length = 0 ∧ f.res = 0 then 0 else 3 := by
  rw [all_not (fun k => fldB k p.shapes.length)] at h1
  unfold topE
  rw [if_pos h, if_pos h0, if_pos (by simpa using h1), hf]

set_option maxRecDepth 100000 in
set_option maxHeartbeats 4000000 in
theorem checkProgram_any (p : Pg) (ag az af : Option Addr) (cg cs cf : Nat) {t : Int} (ht : Hid (topE p = t)) (hg : Hid (Gd p)) (w : World) (hp : PgV Any w (.slice ag p.glob.length cg) (.slice az p.shapes.length cs) (.slice af p.funcs.length cf) p) :
    Calls Try.prog 51 #[.agg #[.slice ag p.glob.length cg, .slice az p.shapes.length cs, .slice af p.funcs.length cf]] w fun e w' => e = .returned (.int .i64 t) ∧ Below w.heap.size w w' := by
  obtain ⟨wp, hwp⟩ : ∃ wp, w.alloc (.cells #[.slice ag p.glob.length cg, .slice az p.shapes.length cs, .slice af p.funcs.length cf] 26) = wp := ⟨_, rfl⟩
  have HQ : Hid (OnR w wp p ag az af cg cs cf) := onR_start hwp hp
  obtain ⟨d0, d1, d2⟩ := HQ.out.c
  obtain ⟨c, hc⟩ : ∃ c, Hid (chkN p.shapes = c) := ⟨_, rfl⟩
  clear hp
  go_enter Try.func51, Try.ntmps51
  go_wp2_with fail
  refine (check_any hc _ _ hg.out.fit.sh (sg_sh HQ.out.pp.shapes)).mono ?_
  rintro e w1 ⟨rfl, hb⟩
  have HQ1 : Hid (OnR w w1 p ag az af cg cs cf) := HQ.out.below hb
  clear hb HQ d0 d1 d2 hwp
  by_cases h0 : c = 0
  · have HC : Hid (chkN p.shapes = 0) := by unfold Hid; rw [hc.out, h0]
    clear hc
    obtain ⟨d0, d1, d2⟩ := HQ1.out.c
    by_cases hl : p.glob.length ≤ 16 ∧ 1 ≤ p.funcs.length ∧ p.funcs.length ≤ 16
    · have g1 : ¬ 16 < (p.glob.length : Int) := by omega
      have g2 : ¬ (p.funcs.length : Int) < 1 := by omega
      have g3 : ¬ 16 < (p.funcs.length : Int) := by omega
      have HL : Hid (p.glob.length ≤ 16 ∧ 1 ≤ p.funcs.length ∧ p.funcs.length ≤ 16) := hl
      clear hl
      obtain ⟨t2, ht2⟩ : ∃ t, Hid (p.glob.any (fun k => !fldB k p.shapes.length) = t) := ⟨_, rfl⟩
      have HD1 : Hid (∀ x w', Below w1.heap.size w1 w' → Calls Try.prog 79 #[.int .i64 x, .pointer (some ⟨w.heap.size, 0, none⟩)] w' fun e w'' => e = .returned (.bool (!fldB x p.shapes.length)) ∧ Below w'.heap.size w' w'') := fun x w' hb' =>
        have hc := (HQ1.out.below hb').c
        clF_any p ag az af cg cs cf w.heap.size x w' hc.1 hc.2.1 hc.2.2
      go_wp2_with fail
      refine (containsF_any (.pointer (some ⟨w.heap.size, 0, none⟩)) (fun x => !fldB x p.shapes.length) p.glob ht2 ag cg _ hg.out.len.glob HQ1.out.pp.glob.at_ HD1).mono ?_
      rintro e w3 ⟨rfl, hb⟩
      have HQ3 : Hid (OnR w w3 p ag az af cg cs cf) := HQ1.out.below hb
      clear hb d0 d1 d2 HQ1 HD1
      cases t2 with
      | true =>
        have HE : Hid (topE p = 3) := top_glob HC.out HL.out ht2.out
        go_wp2_with fail
        go_ret
        exact ⟨ret_i (by rw [← ht.out, HE.out]), HQ3.out.low⟩
      | false =>
        obtain ⟨f, hf0⟩ : ∃ f, p.funcs[0]? = some f := ⟨_, List.getElem?_eq_getElem (by have := HL.out; omega)⟩
        obtain ⟨b, off, v0, v1, v2, v3, v4, rfl, hb, _, k0, k1, k2, k3, k4, hfc⟩ := HQ3.out.pp.funcs.some hf0
        obtain ⟨a0, c0, a3, c3, a4, c4, rfl, rfl, rfl⟩ := hfc.lens
        obtain rfl := hfc.res
        obtain rfl := hfc.slots
        simp only [Nat.zero_mul, Nat.add_zero] at k0 k1 k2 k3 k4
        obtain ⟨r, hr⟩ : ∃ r, Hid ((f.res != 0) = r) := ⟨_, rfl⟩
        have HE : Hid (topE p = if f.args.length = 0 ∧ f.res = 0 then 0 else 3) := top_fun HC.out HL.out ht2.out hf0
        obtain ⟨d0, d1, d2⟩ := HQ3.out.c
        clear hfc hf0 ht2 hb
        obtain ⟨n, hn⟩ : ∃ n, f.args.length = n := ⟨_, rfl⟩
        rw [hn] at k0 HE
        clear hn
        by_cases ha : n = 0
        · subst ha
          go_wp2_with fail
          refine (hasRes_n f.res f.slots a0 a3 a4 0 f.objs.length f.code.length c0 c3 c4 hr _).mono ?_
          rintro e w4 ⟨rfl, hb⟩
          have HB : Hid (Below w.heap.size w w4) := (HQ3.out.below hb).low
          clear hb d0 d1 d2 k0 k1 k2 k3 k4
          cases r with
          | true =>
            have HT : Hid (t = 3) := by
              unfold Hid
              rw [← ht.out, HE.out, if_neg]
              have := hr.out
              simp only [bne_iff_ne] at this
              exact fun h => this h.2
            go_wp2_with fail
            go_ret
            exact ⟨ret_i HT.out.symm, HB.out⟩
          | false =>
            have HT : Hid (t = 0) := by
              unfold Hid
              rw [← ht.out, HE.out, if_pos]
              have := hr.out
              exact ⟨by trivial, by simpa using this⟩
            go_wp2_with fail
            go_ret
            exact ⟨ret_i HT.out.symm, HB.out⟩
        · have ha' : 0 < (n : Int) := by omega
          have ha2 : decide (0 < n) = true := decide_eq_true (by omega)
          have HT : Hid (t = 3) := by
            unfold Hid
            rw [← ht.out, HE.out, if_neg (fun h => ha h.1)]
          clear ha hr
          go_wp2_with fail
          go_ret
          exact ⟨ret_i HT.out.symm, HQ3.out.low⟩
    · have HT : Hid (t = 1) := by unfold Hid; rw [← ht.out, top_len HC.out hl]
      by_cases g1 : 16 < (p.glob.length : Int)
      · clear hl
        go_wp2_with fail
        go_ret
        exact ⟨ret_i HT.out.symm, HQ1.out.low⟩
      · by_cases g2 : (p.funcs.length : Int) < 1
        · have HTT := HT
          clear hl
          go_wp2_with fail
          go_ret
          exact ⟨ret_i HT.out.symm, HQ1.out.low⟩
        · have g3 : 16 < (p.funcs.length : Int) := by omega
          clear hl
          go_wp2_with fail
          go_ret
          exact ⟨ret_i HT.out.symm, HQ1.out.low⟩
  · have HT : Hid (t = c) := by unfold Hid; rw [← ht.out, top_sh hc.out h0]
    go_wp2_with fail
    go_ret
    exact ⟨ret_i HT.out.symm, HQ1.out.low⟩

/-- A program's answer. -/
def ProgIs (p : Pg) (e : Ending) : Prop := e = .returned (.tuple #[.int .i64 (progE p).1, .agg #[.int .i64 ((progE p).2.1 : Int), .int .i64 ((progE p).2.2 : Int)]])
theorem progIs {p : Pg} {s : Int} {x y : Nat} (h : progE p = (s, x, y)) : ProgIs p (.returned (.tuple #[.int .i64 s, .agg #[.int .i64 (x : Int), .int .i64 (y : Int)]])) := by
  unfold ProgIs
  rw [h]
theorem prog_top {p : Pg} {t : Int} (h : topE p = t) (h0 : ¬ t = 0) : progE p = (t, 0, 0) := by unfold progE; rw [h, if_neg h0]
theorem prog_bad {p : Pg} {k : Nat} {s : Int} {y : Nat} (h : topE p = 0) (hk : k < p.funcs.length) (ha : ∀ j : Nat, j < k → (funE p (j : Int)).1 = 0) (he : funE p (k : Int) = (s, y)) (h0 : ¬ s = 0) : progE p = (s, k, y) := by
  unfold progE
  rw [if_pos h, bad_some hk ha (by rw [he]; exact h0)]
  show ((funE p (k : Int)).1, k, (funE p (k : Int)).2) = _
  rw [he]
theorem prog_ok {p : Pg} (h : topE p = 0) (ha : ∀ j : Nat, j < p.funcs.length → (funE p (j : Int)).1 = 0) : progE p = (0, 0, 0) := by
  unfold progE
  rw [if_pos h, bad_none ha]

set_option maxRecDepth 100000 in
set_option maxHeartbeats 4000000 in
theorem program_any (p : Pg) (ag az af : Option Addr) (cg cs cf : Nat) (hg : Hid (Gd p)) (w : World) (hp : PgV Any w (.slice ag p.glob.length cg) (.slice az p.shapes.length cs) (.slice af p.funcs.length cf) p) :
    Calls Try.prog 34 #[.agg #[.slice ag p.glob.length cg, .slice az p.shapes.length cs, .slice af p.funcs.length cf]] w fun e w' => ProgIs p e ∧ Below w.heap.size w w' := by
  obtain ⟨wp, hwp⟩ : ∃ wp, w.alloc (.cells #[.slice ag p.glob.length cg, .slice az p.shapes.length cs, .slice af p.funcs.length cf] 26) = wp := ⟨_, rfl⟩
  have hsz : wp.heap.size = w.heap.size + 1 := by rw [← hwp]; simp
  have HQ : Hid (OnF w (wp.alloc (.cells #[.int .i64 0, .int .i64 0] 34)) 0 0 p ag az af cg cs cf) := onF_start hwp hp
  obtain ⟨w0, hw0⟩ : ∃ w0, wp.alloc (.cells #[.int .i64 0, .int .i64 0] 34) = w0 := ⟨_, rfl⟩
  rw [hw0] at HQ
  obtain ⟨d0, d1, d2⟩ := HQ.out.q.c
  obtain ⟨t, ht⟩ : ∃ t, Hid (topE p = t) := ⟨_, rfl⟩
  clear hp
  go_enter Try.func34, Try.ntmps34
  go_wp2_with fail
  refine (checkProgram_any p ag az af cg cs cf ht hg _ HQ.out.q.pp).mono ?_
  rintro e w1 ⟨rfl, hb⟩
  have HQ1 : Hid (OnF w w1 0 0 p ag az af cg cs cf) := HQ.out.below hb
  clear hb HQ d0 d1 d2 hw0 hwp hsz
  by_cases h0 : t = 0
  · have HT : Hid (topE p = 0) := by unfold Hid; rw [ht.out, h0]
    have HZ : Hid (p.funcs.length ≤ 3000) := (szP_funcs hg.out.sz).1
    clear ht
    obtain ⟨d0, d1, d2⟩ := HQ1.out.q.c
    go_wp2_with fail
    clear d0 d1 d2
    go_loopw [5, 6, 7, 17] (fun _ _ _ i wr => ∃ k : Nat, k ≤ p.funcs.length ∧ i = .int .i64 k ∧ Hid (OnF w wr 0 0 p ag az af cg cs cf) ∧ Hid (∀ m : Nat, m < k → (funE p (m : Int)).1 = 0)) (fun _ _ _ i _ => p.funcs.length - (intOf i).toNat)
    case atStart => exact ⟨0, Nat.zero_le _, rfl, HQ1, fun m hm => absurd hm (by omega)⟩
    case round =>
      obtain ⟨k, hk, rfl, HR, HA⟩ := hrel
      clear HQ1
      by_cases hlt : k < p.funcs.length
      · have hltI : (k : Int) < (p.funcs.length : Int) := by omega
        have hk3 : k + 1 ≤ 9223372036854775807 := by have := HZ.out; omega
        obtain ⟨d0, d1, d2⟩ := HR.out.q.c
        go_wp2_with fail
        refine (func_any p ag az af cg cs cf (k : Int) hg _ HR.out.q.pp).mono ?_
        rintro e w2 ⟨he, hb⟩
        obtain ⟨s, hs⟩ : ∃ s, (funE p (k : Int)).1 = s := ⟨_, rfl⟩
        obtain ⟨y, hy⟩ : ∃ y, (funE p (k : Int)).2 = y := ⟨_, rfl⟩
        obtain ⟨x, hx⟩ : ∃ x, funX p (k : Int) = x := ⟨_, rfl⟩
        unfold FunIs at he
        rw [hs, hy, hx] at he
        subst he
        have hR2 := HR.out.below hb
        have hB2 : Below w2.heap.size w2 (w2.alloc (.cells #[.int .i64 x, .int .i64 (y : Int)] 34)) := (Below.refl _ _).alloc (Nat.le_refl _) _
        have hql : w.heap.size + 1 < w2.heap.size := hR2.rr.lt
        have HR3 : Hid (OnF w (w2.alloc (.cells #[.int .i64 x, .int .i64 (y : Int)] 34)) 0 0 p ag az af cg cs cf) := hR2.below hB2
        have HP3 : Hid ((w2.alloc (.cells #[.int .i64 x, .int .i64 (y : Int)] 34)).rowIs w2.heap.size 34 2 (plC x (y : Int))) := pl_box w2 _ _
        obtain ⟨w3, hw3⟩ : ∃ w3, w2.alloc (.cells #[.int .i64 x, .int .i64 (y : Int)] 34) = w3 := ⟨_, rfl⟩
        obtain ⟨q, hq⟩ : ∃ q, w2.heap.size = q := ⟨_, rfl⟩
        rw [hw3] at HR3 HP3
        rw [hq] at HP3 hql
        clear hb hR2 hB2 d0 d1 d2 HR
        by_cases h1 : s = 0
        · have HA2 : Hid (∀ m : Nat, m < k + 1 → (funE p (m : Int)).1 = 0) := fun m hm => by
            by_cases e : m = k
            · rw [e, hs, h1]
            · exact HA.out m (by omega)
          clear HA hs hy hx
          go_wp2_with fail
          go_roundw
          case rel => exact ⟨k + 1, by omega, by go_num, HR3, HA2⟩
          case measure => simp [intOf]; omega
        · have HPr : Hid (progE p = (s, k, y)) := prog_bad HT.out hlt HA.out (by rw [← hs, ← hy]) h1
          have hxk : x = (k : Int) := by rw [← hx]; unfold funX; rw [hs, if_neg h1]
          subst hxk
          have r0 := HR3.out.rr.cell (i := 0) (by decide)
          have r1 := HR3.out.rr.cell (i := 1) (by decide)
          have z0 := HR3.out.rr.frozen 0
          have z1 := HR3.out.rr.frozen 1
          have p0 : w3.cell? ⟨q, 0, none⟩ = some (.int .i64 (k : Int)) := HP3.out.cell (i := 0) (by decide)
          have p1 : w3.cell? ⟨q, 1, none⟩ = some (.int .i64 (y : Int)) := HP3.out.cell (i := 1) (by decide)
          have hne : ¬ q = w.heap.size + 1 := by omega
          clear HA hs hy hx
          go_upto_region 9 with (fail)
          go_region_held3 (fun w' => w'.cell? ⟨q, 0, none⟩ = some (.int .i64 (k : Int)) ∧ w'.cell? ⟨q, 1, none⟩ = some (.int .i64 (y : Int))) (first | exact ⟨cell_far (cell_far p0 hne) hne, cell_far (cell_far p1 hne) hne⟩ | go_keep) (fail)
          all_goals
            go_wp2_with fail
            refine bodyPost_ret (v := .tuple #[.int .i64 s, .agg #[.int .i64 (k : Int), .int .i64 (y : Int)]]) (by simp [results, go_sem, r0, r1]) rfl ?_
            refine ⟨progIs HPr.out, ?_⟩
            first
              | exact below_two HR3.out.q.low (Nat.le_succ _) _ _
              | exact (below_two HR3.out.q.low (Nat.le_succ _) _ _).drew
      · obtain rfl : k = p.funcs.length := by omega
        have HPr : Hid (progE p = (0, 0, 0)) := prog_ok HT.out HA.out
        have r0 := HR.out.rr.cell (i := 0) (by decide)
        have r1 := HR.out.rr.cell (i := 1) (by decide)
        have z0 := HR.out.rr.frozen 0
        have z1 := HR.out.rr.frozen 1
        clear HA
        go_wp2_with fail
        refine bodyPost_ret (v := .tuple #[.int .i64 0, .agg #[.int .i64 0, .int .i64 0]]) (by simp [results, go_sem, r0, r1]) rfl ?_
        exact ⟨progIs HPr.out, below_two HR.out.q.low (Nat.le_succ _) _ _⟩
  · have HPr : Hid (progE p = (t, 0, 0)) := prog_top ht.out h0
    have r0 := HQ1.out.rr.cell (i := 0) (by decide)
    have r1 := HQ1.out.rr.cell (i := 1) (by decide)
    have z0 := HQ1.out.rr.frozen 0
    have z1 := HQ1.out.rr.frozen 1
    go_wp2_with fail
    refine bodyPost_ret (v := .tuple #[.int .i64 t, .agg #[.int .i64 0, .int .i64 0]]) (by simp [results, go_sem, r0, r1]) rfl ?_
    exact ⟨progIs HPr.out, below_two HQ1.out.q.low (Nat.le_succ _) _ _⟩

end Go.Proofs.Ytmjappcjfjajmaa

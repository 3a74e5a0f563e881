/- The walks of the two functions of fault, and of first. The walk of fault. -/
import Derived.Test.YtmjappcjfjajmaaFlS
import Derived.Test.YtmjappcjfjajmaaInL
namespace Go.Proofs.Ytmjappcjfjajmaa
open Go.RowKit Go.Maps

/-- A program's box at block bp. -/
def PbAt (w : World) (bp : Nat) (p : Pg) (ag az af : Option Addr) (cg cs cf : Nat) : Prop := w.rowIs bp 26 3 (pgC (.slice ag p.glob.length cg) (.slice az p.shapes.length cs) (.slice af p.funcs.length cf))

theorem leaB_is {f : Fn} {pc : Nat} {i : Ins} (hi : f.code[pc]? = some i) (h : ∀ t ∈ nxtI i (pc : Int), 0 ≤ t) : decide ((f.code.length : Int) ∈ nxtI i (pc : Int)) = leaB f pc := by
  unfold leaB
  rw [hi]
  simp only
  unfold nxt
  rw [Bool.eq_iff_iff, decide_eq_true_iff]
  simp only [List.contains_iff_mem, List.mem_map]
  constructor
  · intro hm
    exact ⟨_, hm, by omega⟩
  · rintro ⟨t, hm, ht⟩
    have := h t hm
    rw [show (f.code.length : Int) = t by omega]
    exact hm

set_option maxRecDepth 100000 in
set_option maxHeartbeats 4000000 in
theorem leaves_any (p : Pg) (ag az af : Option Addr) (cg cs cf : Nat) {j pc bp be : Nat} {f : Fn} {io ia ib ic : Int} {s : Bool} (hfj : Hid (p.funcs[j]? = some f)) (hi : Hid (f.code[pc]? = some ⟨io, ia, ib, ic⟩)) (hI : Hid (OkI p f ⟨io, ia, ib, ic⟩)) (hpc : Hid (pc ≤ 64)) (hs : Hid (leaB f pc = s)) (w : World) (hp : PgV Any w (.slice ag p.glob.length cg) (.slice az p.shapes.length cs) (.slice af p.funcs.length cf) p) (hb : PbAt w bp p ag az af cg cs cf) (he : w.cell? ⟨be, 0, none⟩ = some (.int .i64 (f.code.length : Int))) :
    Calls Try.prog 56 #[.agg #[.int .i64 (j : Int), .int .i64 (pc : Int)], .pointer (some ⟨bp, 0, none⟩), .pointer (some ⟨be, 0, none⟩)] w fun e w' => e = .returned (.bool s) ∧ Below w.heap.size w w' := by
  obtain ⟨w1, hw1⟩ : ∃ w1, w.alloc (.cells #[.int .i64 (j : Int), .int .i64 (pc : Int)] 34) = w1 := ⟨_, rfl⟩
  have hA : Below w.heap.size w w1 := hw1 ▸ (Below.refl _ _).alloc (Nat.le_refl _) _
  have hr := pl_box w (j : Int) (pc : Int)
  rw [hw1] at hr
  have hb1 : w1.rowIs bp 26 3 (pgC (.slice ag p.glob.length cg) (.slice az p.shapes.length cs) (.slice af p.funcs.length cf)) := hb.of_block (hA.block _ hb.lt)
  have d0 : w1.cell? ⟨bp, 0, none⟩ = some (.slice ag p.glob.length cg) := hb1.cell (i := 0) (by decide)
  have d1 : w1.cell? ⟨bp, 1, none⟩ = some (.slice az p.shapes.length cs) := hb1.cell (i := 1) (by decide)
  have d2 : w1.cell? ⟨bp, 2, none⟩ = some (.slice af p.funcs.length cf) := hb1.cell (i := 2) (by decide)
  have p0 : w1.cell? ⟨w.heap.size, 0, none⟩ = some (.int .i64 (j : Int)) := hr.cell (i := 0) (by decide)
  have p1 : w1.cell? ⟨w.heap.size, 1, none⟩ = some (.int .i64 (pc : Int)) := hr.cell (i := 1) (by decide)
  have e0 : w1.cell? ⟨be, 0, none⟩ = some (.int .i64 (f.code.length : Int)) := (hA.cell (p := ⟨be, 0, none⟩) (cell_lt he).1).trans he
  have HP : Hid (PgV Any w1 (.slice ag p.glob.length cg) (.slice az p.shapes.length cs) (.slice af p.funcs.length cf) p ∧ Below w.heap.size w w1) := ⟨hp.below hA, hA⟩
  have HL : Hid (∀ w2, Below w1.heap.size w1 w2 → (w2.cell? ⟨bp, 0, none⟩ = some (.slice ag p.glob.length cg) ∧ w2.cell? ⟨bp, 1, none⟩ = some (.slice az p.shapes.length cs) ∧ w2.cell? ⟨bp, 2, none⟩ = some (.slice af p.funcs.length cf)) ∧ (w2.cell? ⟨w.heap.size, 0, none⟩ = some (.int .i64 (j : Int)) ∧ w2.cell? ⟨w.heap.size, 1, none⟩ = some (.int .i64 (pc : Int))) ∧ w2.cell? ⟨be, 0, none⟩ = some (.int .i64 (f.code.length : Int))) := fun w2 hb2 => by
    have k : ∀ {c o : Nat} {v : Value}, w1.cell? ⟨c, o, none⟩ = some v → w2.cell? ⟨c, o, none⟩ = some v := fun hv => (hb2.cell (p := ⟨_, _, none⟩) (cell_lt hv).1).trans hv
    exact ⟨⟨k d0, k d1, k d2⟩, ⟨k p0, k p1⟩, k e0⟩
  have HN : Hid (decide ((f.code.length : Int) ∈ nxtI ⟨io, ia, ib, ic⟩ (pc : Int)) = s) := (leaB_is hi.out (fun t ht => (nxt_in hI.out (List.getElem?_eq_some_iff.1 hi.out).1 t ht).1)).trans hs.out
  have HNL : Hid ((nxtI ⟨io, ia, ib, ic⟩ (pc : Int)).length ≤ 1000) := by
    unfold Hid nxtI
    split
    · simp
    · split
      · split <;> simp
      · split <;> simp
  clear hA hr hb hb1 hp he
  go_enter Try.func56, Try.ntmps56
  go_upto_region 1 with (fail)
  go_region_held3 (fun w' => (w'.cell? ⟨bp, 0, none⟩ = some (.slice ag p.glob.length cg) ∧ w'.cell? ⟨bp, 1, none⟩ = some (.slice az p.shapes.length cs) ∧ w'.cell? ⟨bp, 2, none⟩ = some (.slice af p.funcs.length cf)) ∧ (w'.cell? ⟨w.heap.size, 0, none⟩ = some (.int .i64 (j : Int)) ∧ w'.cell? ⟨w.heap.size, 1, none⟩ = some (.int .i64 (pc : Int))) ∧ w'.cell? ⟨be, 0, none⟩ = some (.int .i64 (f.code.length : Int)))
    (first | exact HL.out _ (Below.refl _ _).drew | exact HL2.out)
    (first
      | (go_at_call 17; refine (next_any p ag az af cg cs cf (f := f) (io := io) (ia := ia) (ib := ib) (ic := ic) (fnAt_nat hfj.out) (inAt_nat hi.out) (by have := hpc.out; omega) (w1.drewN 1) (HP.out.1.below (below_drewN (Below.refl _ _) 1))).mono ?_; rintro e w2 ⟨nv, rfl, hns, hb2, _⟩; obtain ⟨na, nc, rfl⟩ := hns.len; have hB2 : Below w1.heap.size w1 w2 := ⟨hb2.os, hb2.tape, hb2.output, hb2.size, hb2.block⟩; have HB2 : Hid (Below w.heap.size w w2) := HP.out.2.trans (hB2.mono HP.out.2.size); have HL2 : Hid _ := HL.out _ hB2; have HNS : Hid (SrcAt w2 (.slice na (nxtI ⟨io, ia, ib, ic⟩ (pc : Int)).length nc) (nxtI ⟨io, ia, ib, ic⟩ (pc : Int))) := hns; clear hns hb2 hB2)
      | (go_at_call 57; refine (contains' _ HNL.out HNS.out HN).mono ?_; rintro e w3 ⟨rfl, hw3⟩; subst hw3))
  all_goals
    go_wp2_with fail
    go_ret
    exact ⟨rfl, HB2.out⟩

set_option maxRecDepth 100000 in
set_option maxHeartbeats 4000000 in
theorem misreads_any (p : Pg) (ag az af : Option Addr) (cg cs cf : Nat) {j pc bp bm mo mb n : Nat} {G : Gs} {K : List Int} {f : Fn} {io ia ib ic : Int} {s : Bool} (hfj : Hid (p.funcs[j]? = some f)) (hi : Hid (f.code[pc]? = some ⟨io, ia, ib, ic⟩)) (hI : Hid (OkI p f ⟨io, ia, ib, ic⟩)) (hpc : Hid (pc ≤ 64 ∧ j ≤ 3000)) (hG : Hid (G (j : Int) (pc : Int) = some K ∧ (K.length : Int) = f.slots ∧ K.length ≤ 16)) (hs : Hid (rdB p f ⟨io, ia, ib, ic⟩ K = s)) (w : World) (hp : PgV Any w (.slice ag p.glob.length cg) (.slice az p.shapes.length cs) (.slice af p.funcs.length cf) p) (hb : PbAt w bp p ag az af cg cs cf) (he : w.cell? ⟨bm, 0, none⟩ = some (.pointer (some ⟨mo, 0, none⟩))) (hm : MmAt w mo mb n G) :
    Calls Try.prog 59 #[.agg #[.int .i64 (j : Int), .int .i64 (pc : Int)], .pointer (some ⟨bm, 0, none⟩), .pointer (some ⟨bp, 0, none⟩)] w fun e w' => e = .returned (.bool (!s)) ∧ Below w.heap.size w w' := by
  obtain ⟨w1, hw1⟩ : ∃ w1, w.alloc (.cells #[.int .i64 (j : Int), .int .i64 (pc : Int)] 34) = w1 := ⟨_, rfl⟩
  have hA : Below w.heap.size w w1 := hw1 ▸ (Below.refl _ _).alloc (Nat.le_refl _) _
  have hr := pl_box w (j : Int) (pc : Int)
  rw [hw1] at hr
  have hb1 : w1.rowIs bp 26 3 (pgC (.slice ag p.glob.length cg) (.slice az p.shapes.length cs) (.slice af p.funcs.length cf)) := hb.of_block (hA.block _ hb.lt)
  have d0 : w1.cell? ⟨bp, 0, none⟩ = some (.slice ag p.glob.length cg) := hb1.cell (i := 0) (by decide)
  have d1 : w1.cell? ⟨bp, 1, none⟩ = some (.slice az p.shapes.length cs) := hb1.cell (i := 1) (by decide)
  have d2 : w1.cell? ⟨bp, 2, none⟩ = some (.slice af p.funcs.length cf) := hb1.cell (i := 2) (by decide)
  have p0 : w1.cell? ⟨w.heap.size, 0, none⟩ = some (.int .i64 (j : Int)) := hr.cell (i := 0) (by decide)
  have p1 : w1.cell? ⟨w.heap.size, 1, none⟩ = some (.int .i64 (pc : Int)) := hr.cell (i := 1) (by decide)
  have e0 : w1.cell? ⟨bm, 0, none⟩ = some (.pointer (some ⟨mo, 0, none⟩)) := (hA.cell (p := ⟨bm, 0, none⟩) (cell_lt he).1).trans he
  have HP : Hid (PgV Any w1 (.slice ag p.glob.length cg) (.slice az p.shapes.length cs) (.slice af p.funcs.length cf) p ∧ Below w.heap.size w w1 ∧ MmAt w1 mo mb n G) := ⟨hp.below hA, hA, hm.below hA⟩
  clear hA hr hb hb1 hp he hm
  go_enter Try.func59, Try.ntmps59
  go_wp2_with fail
  refine (site_any p ag az af cg cs cf hfj.out hi.out _ HP.out.1 HP.out.2.2 (by have := hpc.out; omega) (by have := hpc.out; omega) hG.out.1).mono ?_
  rintro e w9 ⟨a0', a3', a4', c0', c3', c4', ak, ck, rfl, hfc9, hls9, hb9⟩
  have HS9 : Hid (FnC Any w9 f (.slice a0' f.args.length c0') (.int .i64 f.res) (.int .i64 f.slots) (.slice a3' f.objs.length c3') (.slice a4' f.code.length c4') ∧ SrcP Any w9 (.slice ak K.length ck) K ∧ K.length ≤ ck ∧ PgV Any w9 (.slice ag p.glob.length cg) (.slice az p.shapes.length cs) (.slice af p.funcs.length cf) p ∧ Below w.heap.size w w9) := ⟨hfc9, hls9.1.p, by obtain ⟨a, c, h1, h2, _⟩ := hls9.2; cases h1; exact h2, HP.out.1.below hb9, HP.out.2.1.trans (hb9.mono HP.out.2.1.size)⟩
  have HKK : Hid ((K.length : Int) = f.slots ∧ K.length ≤ ck ∧ K.length ≤ 3000) := ⟨hG.out.2.1, HS9.out.2.2.1, by have := hG.out.2.2; omega⟩
  clear hfc9 hls9 hb9 HP d0 d1 d2 p0 p1 e0 hw1
  go_wp2_with fail
  refine (mayRead_any p f io ia ib ic ag az af cg cs cf a0' a3' a4' c0' c3' c4' K ak ck hs hI HKK _ HS9.out.2.2.2.1 HS9.out.1 HS9.out.2.1).mono ?_
  rintro e w10 ⟨rfl, hb10⟩
  have HB10 : Hid (Below w.heap.size w w10) := HS9.out.2.2.2.2.trans (hb10.mono HS9.out.2.2.2.2.size)
  clear hb10 HS9
  go_wp2_with fail
  go_ret
  exact ⟨rfl, HB10.out⟩

/-- What first tells. -/
def FstIs (j : Nat) (o : Option Nat) (e : Ending) : Prop := match o with
  | some k => e = .returned (.tuple #[.agg #[.int .i64 (j : Int), .int .i64 (k : Int)], .bool true])
  | none => e = .returned (.tuple #[.agg #[.int .i64 0, .int .i64 0], .bool false])
/-- Of a place that is reached, whether something holds of it. -/
def fsE (G : Gs) (j : Nat) (H : Nat → Bool) (pc : Nat) : Int := if (G (j : Int) (pc : Int)).isSome = true ∧ H pc = true then 1 else 0
theorem below_two' {B b : Nat} {w wk : World} (h : Below B w wk) (hb : B ≤ b) (u v : Value) : Below B w ((wk.setCell ⟨b, 0, none⟩ u).setCell ⟨b, 1, none⟩ v) := (h.setCell (p := ⟨b, 0, none⟩) hb u).setCell (p := ⟨b, 1, none⟩) hb v

set_option maxRecDepth 100000 in
set_option maxHeartbeats 4000000 in
theorem firstL_any {j L mo mb n : Nat} {G : Gs} {u1 u2 : Value} (H : Nat → Bool) (hj : Hid (j ≤ 3000 ∧ L ≤ 64)) (w : World) (hm : MmAt w mo mb n G)
    (hN : Hid (∀ pc, pc < L → (G (j : Int) (pc : Int)).isSome = true → ∀ w', Below w.heap.size w w' → Calls Try.prog 56 #[.agg #[.int .i64 (j : Int), .int .i64 (pc : Int)], u1, u2] w' fun e w'' => e = .returned (.bool (H pc)) ∧ Below w'.heap.size w' w'')) :
    Calls Try.prog 58 #[.pointer (some ⟨mo, 0, none⟩), .int .i64 (j : Int), .int .i64 (L : Int), .func (.func 56) #[] #[u1, u2]] w fun e w' => FstIs j (badAt (fsE G j H) L) e ∧ Below w.heap.size w w' := by
  have hr := pl_box w 0 0
  have HR0 : Hid ((w.alloc (.cells #[.int .i64 0, .int .i64 0] 34)).rowIs w.heap.size 34 2 (plC 0 0) ∧ Below w.heap.size w (w.alloc (.cells #[.int .i64 0, .int .i64 0] 34))) := ⟨hr, (Below.refl _ _).alloc (Nat.le_refl _) _⟩
  have HM : Hid (MmAt w mo mb n G) := hm
  clear hr hm
  go_enter Try.func58, Try.ntmps58
  go_wp2_with fail
  go_loopw [12] (fun iv wr => ∃ k : Nat, k ≤ L ∧ iv = .int .i64 (k : Nat) ∧ Hid (wr.rowIs w.heap.size 34 2 (plC 0 0) ∧ Below w.heap.size w wr) ∧ Hid (∀ m : Nat, m < k → fsE G j H m = 0)) (fun iv _ => L - (intOf iv).toNat)
  case atStart => exact ⟨0, Nat.zero_le _, rfl, HR0, fun m hm => absurd hm (by omega)⟩
  case round =>
    obtain ⟨k, hk, rfl, HR, HA⟩ := hrel
    clear HR0
    by_cases hlt : k < L
    · have hltI : (k : Int) < (L : Int) := by omega
      have hk3 : k + 1 ≤ 9223372036854775807 := by have := hj.out; omega
      have HMk : Hid (MmAt wr mo mb n G) := HM.out.below HR.out.2
      have HKI : Hid (I64 (j : Int) ∧ I64 (k : Int)) := ⟨i64_nat (by have := hj.out; omega), i64_nat (by have := hj.out; omega)⟩
      obtain ⟨rb, hrb⟩ : ∃ rb, Hid ((G (j : Int) (k : Int)).isSome = rb) := ⟨_, rfl⟩
      go_wp2_with fail
      refine (reached_any HMk.out HKI.out.1 HKI.out.2 hrb).mono ?_
      rintro e w1 ⟨rfl, hw1⟩
      subst hw1
      cases rb with
      | false =>
        have HA2 : Hid (∀ m : Nat, m < k + 1 → fsE G j H m = 0) := fun m hm => by
          by_cases e : m = k
          · rw [e]; unfold fsE; rw [hrb.out, if_neg (by simp)]
          · exact HA.out m (by omega)
        clear HA
        go_wp2_with fail
        go_roundw
        case rel => exact ⟨k + 1, by omega, by go_num, HR, HA2⟩
        case measure => simp [intOf]; omega
      | true =>
        go_wp2_with fail
        refine (hN.out k hlt hrb.out _ HR.out.2).mono ?_
        rintro e w2 ⟨rfl, hb2⟩
        have HR2 : Hid (w2.rowIs w.heap.size 34 2 (plC 0 0) ∧ Below w.heap.size w w2) := ⟨HR.out.1.of_block (hb2.block _ HR.out.1.lt), HR.out.2.trans (hb2.mono HR.out.2.size)⟩
        obtain ⟨hh, hHk⟩ : ∃ hh, Hid (H k = hh) := ⟨_, rfl⟩
        rw [hHk.out]
        clear hb2 HR HMk
        cases hh with
        | false =>
          have HA2 : Hid (∀ m : Nat, m < k + 1 → fsE G j H m = 0) := fun m hm => by
            by_cases e : m = k
            · rw [e]; unfold fsE; rw [hHk.out, if_neg (by simp)]
            · exact HA.out m (by omega)
          clear HA
          go_wp2_with fail
          go_roundw
          case rel => exact ⟨k + 1, by omega, by go_num, HR2, HA2⟩
          case measure => simp [intOf]; omega
        | true =>
          have HF : Hid (badAt (fsE G j H) L = some k) := bad_some hlt HA.out (by unfold fsE; rw [hrb.out, hHk.out]; simp)
          have r0 : w2.cell? ⟨w.heap.size, 0, none⟩ = some (.int .i64 0) := HR2.out.1.cell (i := 0) (by decide)
          have r1 : w2.cell? ⟨w.heap.size, 1, none⟩ = some (.int .i64 0) := HR2.out.1.cell (i := 1) (by decide)
          have z0 := HR2.out.1.frozen 0
          have z1 := HR2.out.1.frozen 1
          clear HA
          go_wp2_with fail
          refine bodyPost_ret (v := .tuple #[.agg #[.int .i64 (j : Int), .int .i64 (k : Int)], .bool true]) (by simp [results, go_sem, r0, r1]) rfl ?_
          exact ⟨by rw [HF.out]; rfl, below_two' HR2.out.2 (Nat.le_refl _) _ _⟩
    · obtain rfl : k = L := by omega
      have HF : Hid (badAt (fsE G j H) k = none) := bad_none HA.out
      have r0 : wr.cell? ⟨w.heap.size, 0, none⟩ = some (.int .i64 0) := HR.out.1.cell (i := 0) (by decide)
      have r1 : wr.cell? ⟨w.heap.size, 1, none⟩ = some (.int .i64 0) := HR.out.1.cell (i := 1) (by decide)
      have z0 := HR.out.1.frozen 0
      have z1 := HR.out.1.frozen 1
      clear HA
      go_wp2_with fail
      refine bodyPost_ret (v := .tuple #[.agg #[.int .i64 0, .int .i64 0], .bool false]) (by simp [results, go_sem, r0, r1]) rfl ?_
      exact ⟨by rw [HF.out]; rfl, below_two' HR.out.2 (Nat.le_refl _) _ _⟩

set_option maxRecDepth 100000 in
set_option maxHeartbeats 4000000 in
theorem firstM_any {j L mo mb n : Nat} {G : Gs} {u1 u2 : Value} (H : Nat → Bool) (hj : Hid (j ≤ 3000 ∧ L ≤ 64)) (w : World) (hm : MmAt w mo mb n G)
    (hN : Hid (∀ pc, pc < L → (G (j : Int) (pc : Int)).isSome = true → ∀ w', Below w.heap.size w w' → Calls Try.prog 59 #[.agg #[.int .i64 (j : Int), .int .i64 (pc : Int)], u1, u2] w' fun e w'' => e = .returned (.bool (H pc)) ∧ Below w'.heap.size w' w'')) :
    Calls Try.prog 58 #[.pointer (some ⟨mo, 0, none⟩), .int .i64 (j : Int), .int .i64 (L : Int), .func (.func 59) #[] #[u1, u2]] w fun e w' => FstIs j (badAt (fsE G j H) L) e ∧ Below w.heap.size w w' := by
  have hr := pl_box w 0 0
  have HR0 : Hid ((w.alloc (.cells #[.int .i64 0, .int .i64 0] 34)).rowIs w.heap.size 34 2 (plC 0 0) ∧ Below w.heap.size w (w.alloc (.cells #[.int .i64 0, .int .i64 0] 34))) := ⟨hr, (Below.refl _ _).alloc (Nat.le_refl _) _⟩
  have HM : Hid (MmAt w mo mb n G) := hm
  clear hr hm
  go_enter Try.func58, Try.ntmps58
  go_wp2_with fail
  go_loopw [12] (fun iv wr => ∃ k : Nat, k ≤ L ∧ iv = .int .i64 (k : Nat) ∧ Hid (wr.rowIs w.heap.size 34 2 (plC 0 0) ∧ Below w.heap.size w wr) ∧ Hid (∀ m : Nat, m < k → fsE G j H m = 0)) (fun iv _ => L - (intOf iv).toNat)
  case atStart => exact ⟨0, Nat.zero_le _, rfl, HR0, fun m hm => absurd hm (by omega)⟩
  case round =>
    obtain ⟨k, hk, rfl, HR, HA⟩ := hrel
    clear HR0
    by_cases hlt : k < L
    · have hltI : (k : Int) < (L : Int) := by omega
      have hk3 : k + 1 ≤ 9223372036854775807 := by have := hj.out; omega
      have HMk : Hid (MmAt wr mo mb n G) := HM.out.below HR.out.2
      have HKI : Hid (I64 (j : Int) ∧ I64 (k : Int)) := ⟨i64_nat (by have := hj.out; omega), i64_nat (by have := hj.out; omega)⟩
      obtain ⟨rb, hrb⟩ : ∃ rb, Hid ((G (j : Int) (k : Int)).isSome = rb) := ⟨_, rfl⟩
      go_wp2_with fail
      refine (reached_any HMk.out HKI.out.1 HKI.out.2 hrb).mono ?_
      rintro e w1 ⟨rfl, hw1⟩
      subst hw1
      cases rb with
      | false =>
        have HA2 : Hid (∀ m : Nat, m < k + 1 → fsE G j H m = 0) := fun m hm => by
          by_cases e : m = k
          · rw [e]; unfold fsE; rw [hrb.out, if_neg (by simp)]
          · exact HA.out m (by omega)
        clear HA
        go_wp2_with fail
        go_roundw
        case rel => exact ⟨k + 1, by omega, by go_num, HR, HA2⟩
        case measure => simp [intOf]; omega
      | true =>
        go_wp2_with fail
        refine (hN.out k hlt hrb.out _ HR.out.2).mono ?_
        rintro e w2 ⟨rfl, hb2⟩
        have HR2 : Hid (w2.rowIs w.heap.size 34 2 (plC 0 0) ∧ Below w.heap.size w w2) := ⟨HR.out.1.of_block (hb2.block _ HR.out.1.lt), HR.out.2.trans (hb2.mono HR.out.2.size)⟩
        obtain ⟨hh, hHk⟩ : ∃ hh, Hid (H k = hh) := ⟨_, rfl⟩
        rw [hHk.out]
        clear hb2 HR HMk
        cases hh with
        | false =>
          have HA2 : Hid (∀ m : Nat, m < k + 1 → fsE G j H m = 0) := fun m hm => by
            by_cases e : m = k
            · rw [e]; unfold fsE; rw [hHk.out, if_neg (by simp)]
            · exact HA.out m (by omega)
          clear HA
          go_wp2_with fail
          go_roundw
          case rel => exact ⟨k + 1, by omega, by go_num, HR2, HA2⟩
          case measure => simp [intOf]; omega
        | true =>
          have HF : Hid (badAt (fsE G j H) L = some k) := bad_some hlt HA.out (by unfold fsE; rw [hrb.out, hHk.out]; simp)
          have r0 : w2.cell? ⟨w.heap.size, 0, none⟩ = some (.int .i64 0) := HR2.out.1.cell (i := 0) (by decide)
          have r1 : w2.cell? ⟨w.heap.size, 1, none⟩ = some (.int .i64 0) := HR2.out.1.cell (i := 1) (by decide)
          have z0 := HR2.out.1.frozen 0
          have z1 := HR2.out.1.frozen 1
          clear HA
          go_wp2_with fail
          refine bodyPost_ret (v := .tuple #[.agg #[.int .i64 (j : Int), .int .i64 (k : Int)], .bool true]) (by simp [results, go_sem, r0, r1]) rfl ?_
          exact ⟨by rw [HF.out]; rfl, below_two' HR2.out.2 (Nat.le_refl _) _ _⟩
    · obtain rfl : k = L := by omega
      have HF : Hid (badAt (fsE G j H) k = none) := bad_none HA.out
      have r0 : wr.cell? ⟨w.heap.size, 0, none⟩ = some (.int .i64 0) := HR.out.1.cell (i := 0) (by decide)
      have r1 : wr.cell? ⟨w.heap.size, 1, none⟩ = some (.int .i64 0) := HR.out.1.cell (i := 1) (by decide)
      have z0 := HR.out.1.frozen 0
      have z1 := HR.out.1.frozen 1
      clear HA
      go_wp2_with fail
      refine bodyPost_ret (v := .tuple #[.agg #[.int .i64 0, .int .i64 0], .bool false]) (by simp [results, go_sem, r0, r1]) rfl ?_
      exact ⟨by rw [HF.out]; rfl, below_two' HR.out.2 (Nat.le_refl _) _ _⟩

end Go.Proofs.Ytmjappcjfjajmaa

namespace Go.Proofs.Ytmjappcjfjajmaa
open Go.RowKit Go.Maps

theorem bad_congr {E E' : Nat → Int} {n : Nat} (h : ∀ k, k < n → (E k = 0 ↔ E' k = 0)) : badAt E n = badAt E' n := by
  cases hb : badAt E n with
  | none =>
    have h1 := bad_all hb
    exact (bad_none fun k hk => (h k hk).1 (h1 k hk)).symm
  | some k =>
    obtain ⟨h1, h2, h3⟩ := bad_is hb
    exact (bad_some h1 (fun m hm => (h m (by omega)).1 (h2 m hm)) (fun e => h3 ((h k h1).2 e))).symm
/-- Does it read what it may not? -/
def misB (p : Pg) (f : Fn) (G : Gs) (j pc : Nat) : Bool := match G (j : Int) (pc : Int) with | some K => !readB p f pc K | none => false
def FltIs (p : Pg) (j : Nat) (f : Fn) (e : Ending) : Prop := e = .returned (.tuple #[.int .i64 (flF p j f).1, .agg #[.int .i64 (if (flF p j f).1 = 0 then 0 else (j : Int)), .int .i64 ((flF p j f).2 : Int)]])
theorem flt_lea {p : Pg} {j k : Nat} {f : Fn} {G : Gs} (hG : ∀ pc : Nat, G (j : Int) (pc : Int) = gX p j pc) (h : badAt (fsE G j (leaB f)) f.code.length = some k) : FltIs p j f (.returned (.tuple #[.int .i64 7, .agg #[.int .i64 (j : Int), .int .i64 (k : Int)]])) := by
  have h1 : badAt (e1 p j f) f.code.length = some k := by
    rw [← h]
    apply bad_congr
    intro k _
    unfold e1 fsE
    rw [hG]
    split <;> simp
  have h2 : flF p j f = (7, k) := by unfold flF; rw [h1]
  unfold FltIs
  rw [h2]
  rfl
theorem flt_lea_none {p : Pg} {j : Nat} {f : Fn} {G : Gs} (hG : ∀ pc : Nat, G (j : Int) (pc : Int) = gX p j pc) (h : badAt (fsE G j (leaB f)) f.code.length = none) : badAt (e1 p j f) f.code.length = none := by
  rw [← h]
  apply bad_congr
  intro k _
  unfold e1 fsE
  rw [hG]
  split <;> simp
theorem mis_congr {p : Pg} {j : Nat} {f : Fn} {G : Gs} (hG : ∀ pc : Nat, G (j : Int) (pc : Int) = gX p j pc) : badAt (fsE G j (misB p f G j)) f.code.length = badAt (e2 p j f) f.code.length := by
  apply bad_congr
  intro k _
  unfold e2 fsE misB
  rw [hG]
  cases gX p j k with
  | none => simp
  | some K => cases hr : readB p f k K <;> simp
theorem flt_mis {p : Pg} {j k : Nat} {f : Fn} {G : Gs} (hG : ∀ pc : Nat, G (j : Int) (pc : Int) = gX p j pc) (h1 : badAt (e1 p j f) f.code.length = none) (h : badAt (fsE G j (misB p f G j)) f.code.length = some k) : FltIs p j f (.returned (.tuple #[.int .i64 3, .agg #[.int .i64 (j : Int), .int .i64 (k : Int)]])) := by
  rw [mis_congr hG] at h
  have h2 : flF p j f = (3, k) := by unfold flF; rw [h1]; simp only; rw [h]
  unfold FltIs
  rw [h2]
  rfl
theorem flt_ok {p : Pg} {j : Nat} {f : Fn} {G : Gs} (hG : ∀ pc : Nat, G (j : Int) (pc : Int) = gX p j pc) (h1 : badAt (e1 p j f) f.code.length = none) (h : badAt (fsE G j (misB p f G j)) f.code.length = none) : FltIs p j f (.returned (.tuple #[.int .i64 0, .agg #[.int .i64 0, .int .i64 0]])) := by
  rw [mis_congr hG] at h
  have h2 : flF p j f = (0, 0) := by unfold flF; rw [h1]; simp only; rw [h]
  unfold FltIs
  rw [h2]
  rfl

/-- In fault: the boxes at the end of w. -/
structure OnZ (w wk : World) (p : Pg) (ag az af : Option Addr) (cg cs cf : Nat) (L mo mb n : Nat) (G : Gs) : Prop where
  low : Below w.heap.size w wk
  c0 : wk.cell? ⟨w.heap.size, 0, none⟩ = some (.pointer (some ⟨mo, 0, none⟩))
  rb : PbAt wk (w.heap.size + 1) p ag az af cg cs cf
  rr : wk.rowIs (w.heap.size + 2) 34 2 (plC 0 0)
  ce : wk.cell? ⟨w.heap.size + 3, 0, none⟩ = some (.int .i64 (L : Int))
  pp : PgV Any wk (.slice ag p.glob.length cg) (.slice az p.shapes.length cs) (.slice af p.funcs.length cf) p
  mm : MmAt wk mo mb n G
section
variable {p : Pg} {ag az af : Option Addr} {cg cs cf : Nat} {L mo mb n : Nat} {G : Gs} {w wk w2 : World}
theorem OnZ.below (h : OnZ w wk p ag az af cg cs cf L mo mb n G) (hb : Below wk.heap.size wk w2) : OnZ w w2 p ag az af cg cs cf L mo mb n G :=
  ⟨h.low.trans (hb.mono h.low.size), (hb.cell (p := ⟨_, _, none⟩) (cell_lt h.c0).1).trans h.c0, h.rb.of_block (hb.block _ h.rb.lt), h.rr.of_block (hb.block _ h.rr.lt), (hb.cell (p := ⟨_, _, none⟩) (cell_lt h.ce).1).trans h.ce, h.pp.below hb, h.mm.below hb⟩
theorem onZ_start (hp : PgV Any w (.slice ag p.glob.length cg) (.slice az p.shapes.length cs) (.slice af p.funcs.length cf) p) (hm : MmAt w mo mb n G) : OnZ w ((((w.alloc (.cells #[.pointer (some ⟨mo, 0, none⟩)] 49)).alloc (.cells #[.slice ag p.glob.length cg, .slice az p.shapes.length cs, .slice af p.funcs.length cf] 26)).alloc (.cells #[.int .i64 0, .int .i64 0] 34)).alloc (.cells #[.int .i64 (L : Int)] 3)) p ag az af cg cs cf L mo mb n G := by
  have hA : ∀ (w : World) o, Below w.heap.size w (w.alloc o) := fun w o => (Below.refl _ _).alloc (Nat.le_refl _) _
  have hl : Below w.heap.size w ((((w.alloc (.cells #[.pointer (some ⟨mo, 0, none⟩)] 49)).alloc (.cells #[.slice ag p.glob.length cg, .slice az p.shapes.length cs, .slice af p.funcs.length cf] 26)).alloc (.cells #[.int .i64 0, .int .i64 0] 34)).alloc (.cells #[.int .i64 (L : Int)] 3)) := (((hA _ _).alloc (by simp) _).alloc (by simp; omega) _).alloc (by simp; omega) _
  have t0 : (w.alloc (.cells #[.pointer (some ⟨mo, 0, none⟩)] 49)).cell? ⟨w.heap.size, 0, none⟩ = some (.pointer (some ⟨mo, 0, none⟩)) := cell_new w _ _ rfl
  have t1 := pg_box (w.alloc (.cells #[.pointer (some ⟨mo, 0, none⟩)] 49)) p.glob.length p.shapes.length p.funcs.length ag az af cg cs cf
  simp only [World.size_alloc] at t1
  have t2 := pl_box ((w.alloc (.cells #[.pointer (some ⟨mo, 0, none⟩)] 49)).alloc (.cells #[.slice ag p.glob.length cg, .slice az p.shapes.length cs, .slice af p.funcs.length cf] 26)) 0 0
  simp only [World.size_alloc] at t2
  have t3 := cell_new (((w.alloc (.cells #[.pointer (some ⟨mo, 0, none⟩)] 49)).alloc (.cells #[.slice ag p.glob.length cg, .slice az p.shapes.length cs, .slice af p.funcs.length cf] 26)).alloc (.cells #[.int .i64 0, .int .i64 0] 34)) #[.int .i64 (L : Int)] 3 (j := 0) rfl
  simp only [World.size_alloc] at t3
  refine ⟨hl, ?_, ?_, t2.of_block ((hA _ _).block _ t2.lt), t3, hp.below hl, hm.below hl⟩
  · rw [cell_old (by simp; omega), cell_old (by simp; omega), cell_old (by simp)]
    exact t0
  · exact (t1.of_block ((hA _ _).block _ t1.lt)).of_block ((hA _ _).block _ (Nat.lt_of_lt_of_le t1.lt (hA _ _).size))
end

set_option maxRecDepth 100000 in
set_option maxHeartbeats 8000000 in
theorem fault_any (p : Pg) (ag az af : Option Addr) (cg cs cf : Nat) {j mo mb n : Nat} {f : Fn} {G : Gs} (hfj : Hid (p.funcs[j]? = some f)) (hok : Hid (OkP p ∧ OkF p f)) (hj : Hid (j ≤ 3000 ∧ f.code.length ≤ 64)) (hG : Hid (∀ pc : Nat, G (j : Int) (pc : Int) = gX p j pc)) (hgr : Hid (Great p f (gX p j))) (w : World) (hp : PgV Any w (.slice ag p.glob.length cg) (.slice az p.shapes.length cs) (.slice af p.funcs.length cf) p) (hm : MmAt w mo mb n G) :
    Calls Try.prog 36 #[.pointer (some ⟨mo, 0, none⟩), .agg #[.slice ag p.glob.length cg, .slice az p.shapes.length cs, .slice af p.funcs.length cf], .int .i64 (j : Int)] w fun e w' => FltIs p j f e ∧ Below w.heap.size w w' := by
  have HZ : Hid (OnZ w ((((w.alloc (.cells #[.pointer (some ⟨mo, 0, none⟩)] 49)).alloc (.cells #[.slice ag p.glob.length cg, .slice az p.shapes.length cs, .slice af p.funcs.length cf] 26)).alloc (.cells #[.int .i64 0, .int .i64 0] 34)).alloc (.cells #[.int .i64 (f.code.length : Int)] 3)) p ag az af cg cs cf f.code.length mo mb n G) := onZ_start hp hm
  obtain ⟨b, off, v0, v1, v2, v3, v4, rfl, hb, _, k0, k1, k2, k3, k4, hfc⟩ := hp.funcs.some hfj.out
  obtain ⟨a0, c0, a3, c3, a4, c4, rfl, rfl, rfl⟩ := hfc.lens
  have hjl := (List.getElem?_eq_some_iff.1 hfj.out).1
  have hjI : (j : Int) < (p.funcs.length : Int) := by omega
  have hz3 : Below w.heap.size w (((w.alloc (.cells #[.pointer (some ⟨mo, 0, none⟩)] 49)).alloc (.cells #[.slice ag p.glob.length cg, .slice az p.shapes.length cs, .slice (some ⟨b, off, none⟩) p.funcs.length cf] 26)).alloc (.cells #[.int .i64 0, .int .i64 0] 34)) := (((Below.refl _ _).alloc (Nat.le_refl _) _).alloc (by simp) _).alloc (by simp; omega) _
  have q4 := (hz3.cell (p := ⟨b, off + j * 5 + 4, none⟩) hb).trans k4
  have HI : Hid (∀ pc, pc < f.code.length → ∃ i, f.code[pc]? = some i ∧ OkI p f i) := fun pc hpc => ⟨f.code[pc], List.getElem?_eq_getElem hpc, okI_of (hok.out.1.ins f (List.mem_of_getElem? hfj.out) _ (List.getElem_mem hpc))⟩
  clear hp hm hfc k0 k1 k2 k3 k4 hz3
  go_enter Try.func36, Try.ntmps36
  go_upto_region 3 with (fail)
  generalize (((w.alloc (.cells #[.pointer (some ⟨mo, 0, none⟩)] 49)).alloc (.cells #[.slice ag p.glob.length cg, .slice az p.shapes.length cs, .slice (some ⟨b, off, none⟩) p.funcs.length cf] 26)).alloc (.cells #[.int .i64 0, .int .i64 0] 34)).alloc (.cells #[.int .i64 (f.code.length : Int)] 3) = w3 at *
  clear q4
  have c0 : w3.cell? ⟨w.heap.size, 0, none⟩ = some (.pointer (some ⟨mo, 0, none⟩)) := HZ.out.c0
  have ce : w3.cell? ⟨w.heap.size + 1 + 1 + 1, 0, none⟩ = some (.int .i64 (f.code.length : Int)) := HZ.out.ce
  have HNL : Hid (∀ pc, pc < f.code.length → (G (j : Int) (pc : Int)).isSome = true → ∀ w', Below w3.heap.size w3 w' → Calls Try.prog 56 #[.agg #[.int .i64 (j : Int), .int .i64 (pc : Int)], .pointer (some ⟨w.heap.size + 1, 0, none⟩), .pointer (some ⟨w.heap.size + 1 + 1 + 1, 0, none⟩)] w' fun e w'' => e = .returned (.bool (leaB f pc)) ∧ Below w'.heap.size w' w'') := fun pc hpc _ w' hb => by
    obtain ⟨i, hi, hI⟩ := HI.out pc hpc
    obtain ⟨io, ia, ib, ic⟩ := i
    exact leaves_any p ag az (some ⟨b, off, none⟩) cg cs cf hfj hi hI (show pc ≤ 64 by have := hj.out; omega) rfl w' (HZ.out.pp.below hb) (HZ.out.rb.of_block (hb.block _ HZ.out.rb.lt)) ((hb.cell (p := ⟨_, _, none⟩) (cell_lt ce).1).trans ce)
  go_wp2_with fail
  refine (firstL_any (leaB f) hj _ HZ.out.mm HNL.out).mono ?_
  rintro e w4 ⟨hf, hb4⟩
  have HZ4 : Hid (OnZ w w4 p ag az (some ⟨b, off, none⟩) cg cs cf f.code.length mo mb n G) := HZ.out.below hb4
  clear hb4 HZ HNL c0 ce
  cases ho : badAt (fsE G j (leaB f)) f.code.length with
  | some k =>
    have HO : Hid (FltIs p j f (.returned (.tuple #[.int .i64 7, .agg #[.int .i64 (j : Int), .int .i64 (k : Int)]]))) := flt_lea hG.out ho
    rw [ho] at hf
    unfold FstIs at hf
    simp only at hf
    subst hf
    clear ho
    have hA5 : Below w4.heap.size w4 (w4.alloc (.cells #[.int .i64 (j : Int), .int .i64 (k : Int)] 34)) := (Below.refl _ _).alloc (Nat.le_refl _) _
    have HZq : Hid (OnZ w (w4.alloc (.cells #[.int .i64 (j : Int), .int .i64 (k : Int)] 34)) p ag az (some ⟨b, off, none⟩) cg cs cf f.code.length mo mb n G) := HZ4.out.below hA5
    have HQ : Hid ((w4.alloc (.cells #[.int .i64 (j : Int), .int .i64 (k : Int)] 34)).rowIs w4.heap.size 34 2 (plC (j : Int) (k : Int)) ∧ w.heap.size + 2 < w4.heap.size) := ⟨pl_box w4 _ _, HZ4.out.rr.lt⟩
    clear hA5 HZ4
    go_upto_region 5 with (fail)
    generalize w4.alloc (.cells #[.int .i64 (j : Int), .int .i64 (k : Int)] 34) = wq at *
    generalize w4.heap.size = q at *
    have p0 : wq.cell? ⟨q, 0, none⟩ = some (.int .i64 (j : Int)) := HQ.out.1.cell (i := 0) (by decide)
    have p1 : wq.cell? ⟨q, 1, none⟩ = some (.int .i64 (k : Int)) := HQ.out.1.cell (i := 1) (by decide)
    have r0 : wq.cell? ⟨w.heap.size + 1 + 1, 0, none⟩ = some (.int .i64 0) := HZq.out.rr.cell (i := 0) (by decide)
    have r1 : wq.cell? ⟨w.heap.size + 1 + 1, 1, none⟩ = some (.int .i64 0) := HZq.out.rr.cell (i := 1) (by decide)
    have z0 : wq.frozen? ⟨w.heap.size + 1 + 1, 0, none⟩ = false := HZq.out.rr.frozen 0
    have z1 : wq.frozen? ⟨w.heap.size + 1 + 1, 1, none⟩ = false := HZq.out.rr.frozen 1
    have hne : ¬ q = w.heap.size + 1 + 1 := by have := HQ.out.2; omega
    have HLW : Hid (Below w.heap.size w wq ∧ w.heap.size ≤ w.heap.size + 1 + 1) := ⟨HZq.out.low, by omega⟩
    clear HZq HQ
    generalize w.heap.size + 1 + 1 = g2 at *
    go_region_held3 (fun w' => w'.cell? ⟨q, 0, none⟩ = some (.int .i64 (j : Int)) ∧ w'.cell? ⟨q, 1, none⟩ = some (.int .i64 (k : Int))) (first | exact ⟨cell_farK (cell_farK p0 hne) hne, cell_farK (cell_farK p1 hne) hne⟩ | go_keep) (fail)
    all_goals
      go_wp2_with fail
      refine bodyPost_ret (v := .tuple #[.int .i64 7, .agg #[.int .i64 (j : Int), .int .i64 (k : Int)]]) (by simp [results, go_sem, r0, r1]) rfl ?_
      refine ⟨HO.out, ?_⟩
      first
        | exact below_two' HLW.out.1 HLW.out.2 _ _
        | exact (below_two' HLW.out.1 HLW.out.2 _ _).drew
  | none =>
    have HO : Hid (badAt (e1 p j f) f.code.length = none) := flt_lea_none hG.out ho
    rw [ho] at hf
    unfold FstIs at hf
    simp only at hf
    subst hf
    clear ho
    have hA5 : Below w4.heap.size w4 (w4.alloc (.cells #[.int .i64 0, .int .i64 0] 34)) := (Below.refl _ _).alloc (Nat.le_refl _) _
    have HZ5 : Hid (OnZ w (w4.alloc (.cells #[.int .i64 0, .int .i64 0] 34)) p ag az (some ⟨b, off, none⟩) cg cs cf f.code.length mo mb n G) := HZ4.out.below hA5
    clear hA5 HZ4
    go_upto_region 7 with (fail)
    generalize w4.alloc (.cells #[.int .i64 0, .int .i64 0] 34) = w5 at *
    have c0 : w5.cell? ⟨w.heap.size, 0, none⟩ = some (.pointer (some ⟨mo, 0, none⟩)) := HZ5.out.c0
    have ce : w5.cell? ⟨w.heap.size + 1 + 1 + 1, 0, none⟩ = some (.int .i64 (f.code.length : Int)) := HZ5.out.ce
    have HNM : Hid (∀ pc, pc < f.code.length → (G (j : Int) (pc : Int)).isSome = true → ∀ w', Below w5.heap.size w5 w' → Calls Try.prog 59 #[.agg #[.int .i64 (j : Int), .int .i64 (pc : Int)], .pointer (some ⟨w.heap.size, 0, none⟩), .pointer (some ⟨w.heap.size + 1, 0, none⟩)] w' fun e w'' => e = .returned (.bool (misB p f G j pc)) ∧ Below w'.heap.size w' w'') := fun pc hpc hs w' hb => by
      obtain ⟨i, hi, hI⟩ := HI.out pc hpc
      obtain ⟨io, ia, ib, ic⟩ := i
      obtain ⟨K, hK⟩ := Option.isSome_iff_exists.1 hs
      have hK2 : gX p j pc = some K := by rw [← hG.out]; exact hK
      have hsu := hgr.out.sup pc K hK2
      have h16 := (beg_len hok.out.2.lim).2.1
      have hm : misB p f G j pc = !(rdB p f ⟨io, ia, ib, ic⟩ K) := by
        unfold misB readB
        rw [hK, hi]
      rw [hm]
      exact misreads_any p ag az (some ⟨b, off, none⟩) cg cs cf hfj hi hI (show pc ≤ 64 ∧ j ≤ 3000 by have := hj.out; omega) (show G (j : Int) (pc : Int) = some K ∧ (K.length : Int) = f.slots ∧ K.length ≤ 16 from ⟨hK, hsu.2, by omega⟩) rfl w' (HZ5.out.pp.below hb) (HZ5.out.rb.of_block (hb.block _ HZ5.out.rb.lt)) ((hb.cell (p := ⟨_, _, none⟩) (cell_lt c0).1).trans c0) (HZ5.out.mm.below hb)
    go_wp2_with fail
    refine (firstM_any (misB p f G j) hj _ HZ5.out.mm HNM.out).mono ?_
    rintro e w6 ⟨hf, hb6⟩
    have HZ6 : Hid (OnZ w w6 p ag az (some ⟨b, off, none⟩) cg cs cf f.code.length mo mb n G) := HZ5.out.below hb6
    clear hb6 HZ5 HNM c0 ce
    cases ho : badAt (fsE G j (misB p f G j)) f.code.length with
    | some k =>
      have HO2 : Hid (FltIs p j f (.returned (.tuple #[.int .i64 3, .agg #[.int .i64 (j : Int), .int .i64 (k : Int)]]))) := flt_mis hG.out HO.out ho
      rw [ho] at hf
      unfold FstIs at hf
      simp only at hf
      subst hf
      clear ho
      have hA7 : Below w6.heap.size w6 (w6.alloc (.cells #[.int .i64 (j : Int), .int .i64 (k : Int)] 34)) := (Below.refl _ _).alloc (Nat.le_refl _) _
      have HZq : Hid (OnZ w (w6.alloc (.cells #[.int .i64 (j : Int), .int .i64 (k : Int)] 34)) p ag az (some ⟨b, off, none⟩) cg cs cf f.code.length mo mb n G) := HZ6.out.below hA7
      have HQ : Hid ((w6.alloc (.cells #[.int .i64 (j : Int), .int .i64 (k : Int)] 34)).rowIs w6.heap.size 34 2 (plC (j : Int) (k : Int)) ∧ w.heap.size + 2 < w6.heap.size) := ⟨pl_box w6 _ _, HZ6.out.rr.lt⟩
      clear hA7 HZ6
      go_upto_region 9 with (fail)
      generalize w6.alloc (.cells #[.int .i64 (j : Int), .int .i64 (k : Int)] 34) = wq at *
      generalize w6.heap.size = q at *
      have p0 : wq.cell? ⟨q, 0, none⟩ = some (.int .i64 (j : Int)) := HQ.out.1.cell (i := 0) (by decide)
      have p1 : wq.cell? ⟨q, 1, none⟩ = some (.int .i64 (k : Int)) := HQ.out.1.cell (i := 1) (by decide)
      have r0 : wq.cell? ⟨w.heap.size + 1 + 1, 0, none⟩ = some (.int .i64 0) := HZq.out.rr.cell (i := 0) (by decide)
      have r1 : wq.cell? ⟨w.heap.size + 1 + 1, 1, none⟩ = some (.int .i64 0) := HZq.out.rr.cell (i := 1) (by decide)
      have z0 : wq.frozen? ⟨w.heap.size + 1 + 1, 0, none⟩ = false := HZq.out.rr.frozen 0
      have z1 : wq.frozen? ⟨w.heap.size + 1 + 1, 1, none⟩ = false := HZq.out.rr.frozen 1
      have hne : ¬ q = w.heap.size + 1 + 1 := by have := HQ.out.2; omega
      have HLW : Hid (Below w.heap.size w wq ∧ w.heap.size ≤ w.heap.size + 1 + 1) := ⟨HZq.out.low, by omega⟩
      clear HZq HQ
      generalize w.heap.size + 1 + 1 = g2 at *
      go_region_held3 (fun w' => w'.cell? ⟨q, 0, none⟩ = some (.int .i64 (j : Int)) ∧ w'.cell? ⟨q, 1, none⟩ = some (.int .i64 (k : Int))) (first | exact ⟨cell_farK (cell_farK p0 hne) hne, cell_farK (cell_farK p1 hne) hne⟩ | go_keep) (fail)
      all_goals
        go_wp2_with fail
        refine bodyPost_ret (v := .tuple #[.int .i64 3, .agg #[.int .i64 (j : Int), .int .i64 (k : Int)]]) (by simp [results, go_sem, r0, r1]) rfl ?_
        refine ⟨HO2.out, ?_⟩
        first
          | exact below_two' HLW.out.1 HLW.out.2 _ _
          | exact (below_two' HLW.out.1 HLW.out.2 _ _).drew
    | none =>
      have HO2 : Hid (FltIs p j f (.returned (.tuple #[.int .i64 0, .agg #[.int .i64 0, .int .i64 0]]))) := flt_ok hG.out HO.out ho
      rw [ho] at hf
      unfold FstIs at hf
      simp only at hf
      subst hf
      clear ho
      have hA7 : Below w6.heap.size w6 (w6.alloc (.cells #[.int .i64 0, .int .i64 0] 34)) := (Below.refl _ _).alloc (Nat.le_refl _) _
      have HZ7 : Hid (OnZ w (w6.alloc (.cells #[.int .i64 0, .int .i64 0] 34)) p ag az (some ⟨b, off, none⟩) cg cs cf f.code.length mo mb n G) := HZ6.out.below hA7
      clear hA7 HZ6
      go_upto_region 10 with (fail)
      generalize w6.alloc (.cells #[.int .i64 0, .int .i64 0] 34) = w7 at *
      have r0 : w7.cell? ⟨w.heap.size + 1 + 1, 0, none⟩ = some (.int .i64 0) := HZ7.out.rr.cell (i := 0) (by decide)
      have r1 : w7.cell? ⟨w.heap.size + 1 + 1, 1, none⟩ = some (.int .i64 0) := HZ7.out.rr.cell (i := 1) (by decide)
      have z0 : w7.frozen? ⟨w.heap.size + 1 + 1, 0, none⟩ = false := HZ7.out.rr.frozen 0
      have z1 : w7.frozen? ⟨w.heap.size + 1 + 1, 1, none⟩ = false := HZ7.out.rr.frozen 1
      have HLW : Hid (Below w.heap.size w w7 ∧ w.heap.size ≤ w.heap.size + 1 + 1) := ⟨HZ7.out.low, by omega⟩
      clear HZ7
      generalize w.heap.size + 1 + 1 = g2 at *
      go_wp2_with fail
      refine bodyPost_ret (v := .tuple #[.int .i64 0, .agg #[.int .i64 0, .int .i64 0]]) (by simp [results, go_sem, r0, r1]) rfl ?_
      exact ⟨HO2.out, below_two' HLW.out.1 HLW.out.2 _ _⟩

end Go.Proofs.Ytmjappcjfjajmaa

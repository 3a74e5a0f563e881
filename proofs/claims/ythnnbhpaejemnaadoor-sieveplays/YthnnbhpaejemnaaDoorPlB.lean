/- SievePlays: what stands in memory from round to round. -/
import Derived.Test.YthnnbhpaejemnaaDoorPlA
import Derived.Deep.CutBlock
namespace Go.Proofs.YthnnbhpaejemnaaDoor
open Go.RowKit

/-- IN MEMORY: the Sieve with the set S, the list of bools with the set A, the Book with c lists; what was there in w is as it was. -/
structure PlSt (w wr : World) (b bw bi bk n c : Nat) (S A : Nat → Bool) : Prop where
  sv : SvAt wr b bw n S
  ia : wr.rowIs bi 4 n (fun x => .bool (A x))
  bo : ∃ vi vw I W, BookAt wr w.heap.size bk vi vw I W ∧ I.length = c ∧ W.length = c ∧ I.map Prod.snd = W.map Prod.snd ∧ ∀ p ∈ I, p.2.length ≤ 900
  lo : Below w.heap.size w wr
  hw : w.heap.size ≤ bw
  hi : w.heap.size ≤ bi

theorem PlSt.ty {w wr w' : World} {K : List TypeId} {b bw bi bk n c : Nat} {S A : Nat → Bool} (h : PlSt w wr b bw bi bk n c S A) (ht : Ty K w.heap.size wr w') (h1 : 34 ∉ K) (h2 : 35 ∉ K) (h3 : 3 ∉ K) (h4 : 4 ∉ K) (h5 : 40 ∉ K) (h6 : 56 ∉ K) : PlSt w w' b bw bi bk n c S A := by
  obtain ⟨vi, vw, I, W, hb, r⟩ := h.bo
  exact ⟨⟨ht.row h.sv.hd h6, ht.row h.sv.ws h5, h.sv.le, h.sv.out⟩, ht.row h.ia h4, ⟨vi, vw, I, W, hb.ty ht h1 h2 h3, r⟩, h.lo.trans (ht.below h.lo.size), h.hw, h.hi⟩
theorem PlSt.below {w wr w' : World} {b bw bi bk n c : Nat} {S A : Nat → Bool} (h : PlSt w wr b bw bi bk n c S A) (hb : Below wr.heap.size wr w') : PlSt w w' b bw bi bk n c S A :=
  h.ty (K := []) (Ty.of_below hb) (by simp) (by simp) (by simp) (by simp) (by simp) (by simp)
theorem PlSt.drewN {w wr : World} {b bw bi bk n c : Nat} {S A : Nat → Bool} (h : PlSt w wr b bw bi bk n c S A) (q : Nat) : PlSt w (wr.drewN q) b bw bi bk n c S A := by
  obtain ⟨vi, vw, I, W, hb, r⟩ := h.bo
  exact ⟨h.sv.drewN q, h.ia, ⟨vi, vw, I, W, hb.drewN q, r⟩, below_drewN h.lo q, h.hw, h.hi⟩
theorem PlSt.alloc {w wr : World} {b bw bi bk n c : Nat} {S A : Nat → Bool} (h : PlSt w wr b bw bi bk n c S A) (o : Obj) : PlSt w (wr.alloc o) b bw bi bk n c S A := h.below ((Below.refl _ _).alloc (Nat.le_refl _) o)
/-- The list of bools is written. -/
theorem PlSt.arr {w wr w' : World} {b bw bi bk n c : Nat} {S A A' : Nat → Bool} (h : PlSt w wr b bw bi bk n c S A) (hb : But bi wr w') (hr : w'.rowIs bi 4 n (fun x => .bool (A' x))) : PlSt w w' b bw bi bk n c S A' := by
  have ht : Ty [4] w.heap.size wr w' := Ty.of_but hb h.ia h.hi
  obtain ⟨vi, vw, I, W, hb', r⟩ := h.bo
  exact ⟨⟨ht.row h.sv.hd (by decide), ht.row h.sv.ws (by decide), h.sv.le, h.sv.out⟩, hr, ⟨vi, vw, I, W, hb'.ty ht (by decide) (by decide) (by decide), r⟩, h.lo.trans (ht.below h.lo.size), h.hw, h.hi⟩
/-- The Sieve is written. -/
theorem PlSt.sieve {w wr w' : World} {b bw bi bk n c : Nat} {S S' A : Nat → Bool} (h : PlSt w wr b bw bi bk n c S A) (hb : But bw wr w') (hs : SvAt w' b bw n S') : PlSt w w' b bw bi bk n c S' A := by
  have ht : Ty [40] w.heap.size wr w' := Ty.of_but hb h.sv.ws h.hw
  obtain ⟨vi, vw, I, W, hb', r⟩ := h.bo
  exact ⟨hs, ht.row h.ia (by decide), ⟨vi, vw, I, W, hb'.ty ht (by decide) (by decide) (by decide), r⟩, h.lo.trans (ht.below h.lo.size), h.hw, h.hi⟩
/-- A new list of bools. -/
theorem PlSt.fresh {w wr : World} {b bw bi bk n c : Nat} {S A : Nat → Bool} (h : PlSt w wr b bw bi bk n c S A) : PlSt w (wr.alloc (.cells (madeCells #[.bool false] n) 4)) b bw wr.heap.size bk n c S (fun _ => false) := by
  have g := h.alloc (.cells (madeCells #[.bool false] n) 4)
  exact ⟨g.sv, World.rowIs_made wr (.bool false) n 4, g.bo, g.lo, g.hw, h.lo.size⟩

theorem own_drewN {w : World} {B n : Nat} {e : TypeId} {size : Nat} {v : Value} {xs : List Value} (h : w.ownsRow B e size v n xs) (q : Nat) : (w.drewN q).ownsRow B e size v n xs := h
/-- The cells of an op. -/
def opC (kd : Int) (v : Value) (i : Nat) : Value := if i = 0 then .int .i64 kd else v
theorem nx_at_zero (T : Nat → Bool) (fr : Int) : nx T 0 fr = -1 := by unfold nx; rw [Nat.zero_sub]; rfl
theorem bool_ne {a b : Bool} (h : ¬ a = b) : a = !b := by cases a <;> cases b <;> simp_all

def OpsAt (w : World) (v : Value) (ops : List (Int × Value × List Int)) : Prop :=
  (ops = [] ∧ ∃ a c, v = .slice a 0 c) ∨ ∃ b off c, v = .slice (some ⟨b, off, none⟩) ops.length c ∧ b < w.heap.size ∧
    ∀ (j : Nat) (o : Int × Value × List Int), ops[j]? = some o → w.cell? ⟨b, off + j * 2, none⟩ = some (.int .i64 o.1) ∧ w.cell? ⟨b, off + j * 2 + 1, none⟩ = some o.2.1 ∧ SrcAt w o.2.1 o.2.2 ∧ o.2.2.length ≤ maxLen

theorem Tryd.info4 : (Tryd.prog.info? 4).map (fun i => (i.zero, i.size, i.bytes)) = some (some (.bool false), 1, 1) := by kernel_rfl

theorem pl_start {w wc : World} {b bw n : Nat} (hs : SvAt wc b bw n (fun _ => false)) (hB : Below w.heap.size w wc) (hw : w.heap.size ≤ bw) :
    PlSt w ((wc.alloc (.cells (madeCells #[.bool false] n) 4)).alloc (.cells #[.slice none 0 0, .slice none 0 0, .slice none 0 0, .slice none 0 0, .slice none 0 0, .slice none 0 0, .slice none 0 0, .slice none 0 0, .slice none 0 0, .slice none 0 0] 34)) b bw wc.heap.size (wc.heap.size + 1) n 0 (fun _ => false) (fun _ => false) := by
  refine ⟨(hs.alloc _).alloc _, (World.rowIs_made wc (.bool false) n 4).alloc _, ⟨.slice none 0 0, .slice none 0 0, [], [], ?_, rfl, rfl, rfl, fun p hp => by simp at hp⟩, (hB.alloc hB.size _).alloc (by have := hB.size; simp; omega) _, hw, hB.size⟩
  refine ⟨?_, by have := hB.size; omega, World.ownsRow_nil _ _ _ _, World.ownsRow_nil _ _ _ _, Or.inl rfl, fun p hp => by simp at hp, fun p hp => by simp at hp, List.Pairwise.nil, fun p hp => by simp at hp⟩
  have := World.rowIs_alloc (wc.alloc (.cells (madeCells #[.bool false] n) 4)) #[.slice none 0 0, .slice none 0 0, .slice none 0 0, .slice none 0 0, .slice none 0 0, .slice none 0 0, .slice none 0 0, .slice none 0 0, .slice none 0 0, .slice none 0 0] 34 (bkCells (.slice none 0 0) (.slice none 0 0)) (fun i hi => by
    have h10 : i < 10 := by simpa using hi
    have : i = 0 ∨ i = 1 ∨ i = 2 ∨ i = 3 ∨ i = 4 ∨ i = 5 ∨ i = 6 ∨ i = 7 ∨ i = 8 ∨ i = 9 := by omega
    rcases this with rfl | rfl | rfl | rfl | rfl | rfl | rfl | rfl | rfl | rfl <;> rfl)
  simpa using this

set_option maxRecDepth 100000 in
set_option maxHeartbeats 4000000 in
theorem plays_main (n : Int) (ops : List (Int × Value × List Int)) (bl off cl' : Nat) (fr k : Int) (w : World) (hT : Tab w) (hn1 : n ≤ 600) (hol : ops.length ≤ 40) (hfr : fr ≤ 9223372036854775807) (hbl : bl < w.heap.size)
    (hops : ∀ (j : Nat) (o : Int × Value × List Int), ops[j]? = some o → w.cell? ⟨bl, off + j * 2, none⟩ = some (.int .i64 o.1) ∧ w.cell? ⟨bl, off + j * 2 + 1, none⟩ = some o.2.1 ∧ SrcAt w o.2.1 o.2.2 ∧ o.2.2.length ≤ maxLen) :
    Calls Tryd.prog 3 #[.int .i64 n, .slice (some ⟨bl, off, none⟩) ops.length cl', .int .i64 fr, .int .i64 k] w fun e w' => e = .returned (.bool true) ∧ Below w.heap.size w w' := by
  have HT : Hid (Tab w) := hT
  have HO : Hid (∀ (j : Nat) (o : Int × Value × List Int), ops[j]? = some o → w.cell? ⟨bl, off + j * 2, none⟩ = some (.int .i64 o.1) ∧ w.cell? ⟨bl, off + j * 2 + 1, none⟩ = some o.2.1 ∧ SrcAt w o.2.1 o.2.2 ∧ o.2.2.length ≤ maxLen) := hops
  clear hT hops
  go_enter Tryd.func3, Tryd.ntmps3
  go_wp2_with fail
  refine (alive_any _ HT.out).mono ?_
  rintro e w1 ⟨rfl, hB1⟩
  have HB1 : Hid (Below w.heap.size w w1) := hB1
  clear hB1
  go_wp2_with fail
  refine (new_any n _).mono ?_
  rintro e w2 ⟨b, bw, hb, hbw, rfl, hs, hB2⟩
  have HB2 : Hid (Below w.heap.size w w2) := HB1.out.trans (hB2.mono HB1.out.size)
  have HW : Hid (w.heap.size ≤ bw) := Nat.le_trans HB1.out.size hbw
  have HS : Hid (SvAt w2 b bw (svN n) (fun _ => false)) := hs
  have hN : ((svN n : Nat) : Int) = min (max n 0) 4096 := by unfold svN; omega
  have HN : Hid (((svN n : Nat) : Int) = min (max n 0) 4096) := hN
  have hNb : svN n ≤ 600 := by omega
  clear hB2 HB1 hb hbw hs hN
  generalize svN n = N at *
  go_upto_region 6 with (fail)
  go_cut [0] (fun a wr => a = .int .i64 (N : Int) ∧ wr = w2)
  case first =>
    go_wp2
    all_goals
      go_meet
      case rel => exact ⟨by have := HN.out; congr 1; omega, rfl⟩
  case rest =>
    obtain ⟨rfl, rfl⟩ := hcut
    clear HN
    have hmk := run_make_row' (P := Tryd.prog) 26 4 (.bool false) 1 Tryd.underlying26 Tryd.info4 rfl .i64 .i64 N (by omega) (by omega)
    go_wp2_with fail
    have PS := pl_start HS.out HB2.out HW.out
    generalize (wc.alloc (.cells (madeCells #[.bool false] N) 4)).alloc (.cells #[.slice none 0 0, .slice none 0 0, .slice none 0 0, .slice none 0 0, .slice none 0 0, .slice none 0 0, .slice none 0 0, .slice none 0 0, .slice none 0 0, .slice none 0 0] 34) = w3 at *
    generalize wc.heap.size + 1 = bk at *
    have HPS : Hid (PlSt w w3 b bw wc.heap.size bk N 0 (fun _ => false) (fun _ => false)) := PS
    clear PS hmk HS HB2
    go_loopw [10, 12] (fun a i wr => ∃ j : Nat, j ≤ ops.length ∧ i = .int .i64 j ∧ ∃ bi S, a = .slice (some ⟨bi, 0, none⟩) N N ∧ PlSt w wr b bw bi bk N j S S) (fun _ i _ => ops.length - (intOf i).toNat)
    case atStart => exact ⟨0, Nat.zero_le _, rfl, _, _, rfl, HPS.out⟩
    case round =>
      obtain ⟨j, hj, rfl, bi, S, rfl, hps⟩ := hrel
      have HP : Hid (PlSt w wr b bw bi bk N j S S) := hps
      clear hps HPS
      by_cases hlt : j < ops.length
      · have hp : ops[j]? = some ops[j] := List.getElem?_eq_getElem hlt
        obtain ⟨hk1, hk2, hsrc, hlm⟩ := HO.out j _ hp
        generalize ops[j] = o at *
        obtain ⟨kd, vL, L⟩ := o
        obtain ⟨aL, cL, eL⟩ := hsrc.len
        have eL' : vL = .slice aL L.length cL := eL
        subst eL'
        have hm : L.length ≤ 9223372036854775807 := by have : L.length ≤ maxLen := hlm; unfold maxLen at this; exact this
        have hc1 : wr.cell? ⟨bl, off + j * 2, none⟩ = some (.int .i64 kd) := (HP.out.lo.cell (p := ⟨bl, off + j * 2, none⟩) hbl).trans hk1
        have hc2 : wr.cell? ⟨bl, off + j * 2 + 1, none⟩ = some (.slice aL L.length cL) := (HP.out.lo.cell (p := ⟨bl, off + j * 2 + 1, none⟩) hbl).trans hk2
        have HSrc : Hid (SrcAt w (.slice aL L.length cL) L) := hsrc
        have hltI : (j : Int) < (ops.length : Int) := by omega
        clear hk1 hk2 hsrc hlm hp eL HO
        have hbiH : bi < wr.heap.size := HP.out.ia.lt
        have HBW : Hid (bw < wr.heap.size) := HP.out.sv.bwlt
        by_cases h60 : 60 < L.length
        · as_aux_lemma =>
          have HLo : Hid (Below w.heap.size w (wr.alloc (.cells #[.int .i64 kd, .slice aL L.length cL] 37))) := HP.out.lo.alloc HP.out.lo.size _
          go_wp2_with fail
          go_ret
          exact ⟨rfl, HLo.out⟩
        · as_aux_lemma =>
          have HS4 : Hid (SrcAt (wr.alloc (.cells #[.int .i64 kd, .slice aL L.length cL] 37)) (.slice aL L.length cL) L) := (HSrc.out.below HP.out.lo).alloc _
          have HR4 : Hid ((wr.alloc (.cells #[.int .i64 kd, .slice aL L.length cL] 37)).rowIs wr.heap.size 37 2 (opC kd (.slice aL L.length cL))) :=
            World.rowIs_alloc wr #[.int .i64 kd, .slice aL L.length cL] 37 (opC kd (.slice aL L.length cL)) (fun i hi => by
              have h2 : i < 2 := by simpa using hi
              have : i = 0 ∨ i = 1 := by omega
              rcases this with rfl | rfl <;> rfl)
          go_wp2_with fail
          refine (lent_any L aL cL _ (by omega) HS4.out).mono ?_
          rintro e w5 ⟨g, cap, rfl, hown, hB5⟩
          have HR5 : Hid (w5.rowIs wr.heap.size 37 2 (opC kd (.slice aL L.length cL))) := HR4.out.of_block (hB5.block _ HR4.out.lt)
          have hH0 : w5.cell? ⟨wr.heap.size, 0, none⟩ = some (.int .i64 kd) := HR5.out.cell (i := 0) (by decide)
          have hH1 : w5.cell? ⟨wr.heap.size, 1, none⟩ = some (.slice aL L.length cL) := HR5.out.cell (i := 1) (by decide)
          have HP5 : Hid (PlSt w w5 b bw bi bk N j S S) := (HP.out.alloc _).below hB5
          have HM5 : Hid (w5.ownsRow (wr.heap.size + 1) 3 1 (.slice (some ⟨g, 0, none⟩) (L.length + 1) cap) (L.length + 1) ((L ++ [-77]).map (Value.int .i64))) := by
            show w5.ownsRow (wr.heap.size + 1) _ _ _ _ _
            simpa using hown
          have HH5 : Hid (wr.heap.size < w5.heap.size) := by have := hB5.size; simp at this; show wr.heap.size < w5.heap.size; omega
          clear hown hB5 HS4 HR4 hc1 hc2 HP
          generalize wr.heap.size = H at *
          obtain ⟨want, hwant⟩ : ∃ want, want = (if kd = 3 then 0 else sgC (kd == 1) N S L) := ⟨_, rfl⟩
          obtain ⟨A5, hA5⟩ : ∃ A5, A5 = (if kd = 3 then S else sgS (kd == 1) N S L) := ⟨_, rfl⟩
          have HWa : Hid (want = (if kd = 3 then 0 else sgC (kd == 1) N S L)) := hwant
          have HA5 : Hid (A5 = (if kd = 3 then S else sgS (kd == 1) N S L)) := hA5
          clear hwant hA5
          go_upto_block 2 with (fail)
          go_cut [15] (fun c wk => c = .int .i64 (want : Int) ∧ wk.rowIs bi 4 N (fun x => .bool (A5 x)) ∧ But bi w5 wk)
          case first => as_aux_lemma =>
            by_cases hk3 : kd = 3
            · as_aux_lemma =>
              subst hk3
              have e1 : want = 0 := by rw [HWa.out, if_pos rfl]
              have e2 : A5 = S := by rw [HA5.out, if_pos rfl]
              have HRow : Hid (w5.rowIs bi 4 N (fun x => .bool (A5 x))) := by rw [e2]; exact HP5.out.ia
              have HE1 : Hid (want = 0) := e1
              clear e1 e2
              go_wp2_with fail
              go_loopw [15, 17] (fun c i wk => c = .int .i64 0 ∧ i = .int .i64 0 ∧ wk = w5) (fun _ _ _ => 0)
              case atStart => exact ⟨rfl, rfl, rfl⟩
              case round =>
                obtain ⟨rfl, rfl, rfl⟩ := hrel
                go_wp2
                all_goals
                  go_meet
                  case rel => exact ⟨by rw [HE1.out]; rfl, HRow.out, But.refl _ _⟩
            · obtain ⟨bb, hbb⟩ : ∃ bb, bb = (kd == 1) := ⟨_, rfl⟩
              have e1 : want = sgC bb N S L := by rw [HWa.out, if_neg hk3, ← hbb]
              have e2 : A5 = sgS bb N S L := by rw [HA5.out, if_neg hk3, ← hbb]
              have HE1 : Hid (want = sgC bb N S L) := e1
              have HE2 : Hid (A5 = sgS bb N S L) := e2
              have hkb : (kd == 1) = bb := hbb.symm
              have hkc : (kd != 3) = true := by rw [bne_iff_ne]; exact hk3
              clear e1 e2 hbb
              go_wp2_with fail
              go_loopw [15, 17] (fun c i wk => ∃ q : Nat, q ≤ L.length ∧ i = .int .i64 q ∧ c = .int .i64 ((sgC bb N S (L.take q) : Nat) : Int) ∧ wk.rowIs bi 4 N (fun x => .bool (sgS bb N S (L.take q) x)) ∧ But bi w5 wk) (fun _ i _ => L.length - (intOf i).toNat)
              case atStart => exact ⟨0, Nat.zero_le _, rfl, by rw [List.take_zero, sgC_nil]; rfl, by rw [List.take_zero, sgS_nil]; exact HP5.out.ia, But.refl _ _⟩
              case round =>
                obtain ⟨q, hq, rfl, rfl, hrow, hbut⟩ := hrel
                have HRo : Hid (wr.rowIs bi 4 N (fun x => .bool (sgS bb N S (L.take q) x))) := hrow
                have HBu : Hid (But bi w5 wr) := hbut
                have hk0 : wr.cell? ⟨H, 0, none⟩ = some (.int .i64 kd) := (World.cell?_of_block (HBu.out.block H HH5.out (by omega))).trans hH0
                have hk1 : wr.cell? ⟨H, 1, none⟩ = some (.slice aL L.length cL) := (World.cell?_of_block (HBu.out.block H HH5.out (by omega))).trans hH1
                clear hrow hbut hH0 hH1
                by_cases hlq : q < L.length
                · obtain ⟨bs, os, cs, es, hbs, hcs⟩ : ∃ bs os cs, Value.slice aL L.length cL = .slice (some ⟨bs, os, none⟩) L.length cs ∧ bs < w.heap.size ∧ ∀ j, j < L.length → w.cell? ⟨bs, os + j, none⟩ = some (.int .i64 (L.getD j 0)) := by
                    rcases HSrc.out with ⟨h, _⟩ | h
                    · rw [h] at hlq; simp at hlq
                    · exact h
                  simp only [Value.slice.injEq, true_and] at es
                  obtain ⟨rfl, rfl⟩ := es
                  have hx : wr.cell? ⟨bs, os + q, none⟩ = some (.int .i64 (L.getD q 0)) := by
                    have h1 : w5.cell? ⟨bs, os + q, none⟩ = some (.int .i64 (L.getD q 0)) := (HP5.out.lo.cell (p := ⟨bs, os + q, none⟩) hbs).trans (hcs q hlq)
                    have hbi := HP5.out.hi
                    have h2 := HP5.out.lo.size
                    exact (World.cell?_of_block (HBu.out.block bs (by omega) (by omega))).trans h1
                  have HSn : Hid (sgS bb N S (L.take (q + 1)) = sg1 bb N (sgS bb N S (L.take q)) (L.getD q 0)) := by rw [take_snocD L q hlq]; exact sgS_snoc bb N S _ _
                  have HCn : Hid (sgC bb N S (L.take (q + 1)) = sgC bb N S (L.take q) + sgC1 bb N (sgS bb N S (L.take q)) (L.getD q 0)) := by rw [take_snocD L q hlq]; exact sgC_snoc bb N S _ _
                  have hcl : sgC bb N S (L.take q) ≤ q := Nat.le_trans (sgC_le bb N S _) (List.length_take_le q L)
                  have hqI : (q : Int) < (L.length : Int) := by omega
                  clear hcs hbs
                  generalize L.getD q 0 = x at *
                  generalize sgS bb N S (L.take q) = T at *
                  generalize sgC bb N S (L.take q) = c0 at *
                  by_cases hx0 : 0 ≤ x
                  · by_cases hx1 : x < (N : Int)
                    · obtain ⟨y, rfl⟩ := Int.eq_ofNat_of_zero_le hx0
                      have hy : y < N := by omega
                      have hin := HRo.out.cell hy
                      have hfz := HRo.out.frozen y
                      by_cases hT : T y = bb
                      · as_aux_lemma =>
                        rw [hT] at hin
                        obtain ⟨f1, f2⟩ := sg1_same bb N T y hy hT
                        have HF : Hid (sg1 bb N T (y : Int) = T ∧ sgC1 bb N T (y : Int) = 0) := ⟨f1, f2⟩
                        clear f1 f2 hT
                        go_upto_region 21 with (fail)
                        go_quiet (fail)
                        go_wp2
                        go_roundw
                        case rel => exact ⟨q + 1, by omega, by go_num, by rw [HCn.out, HF.out.2]; go_num, by rw [HSn.out, HF.out.1]; exact HRo.out, HBu.out.drewN _⟩
                        case measure => simp [intOf]; omega
                      · as_aux_lemma =>
                        have hT' : T y = !bb := bool_ne hT
                        rw [hT'] at hin
                        obtain ⟨f1, f2⟩ := sg1_new bb N T y hy hT'
                        have HF : Hid (sg1 bb N T (y : Int) = up T y bb ∧ sgC1 bb N T (y : Int) = 1) := ⟨f1, f2⟩
                        have HR2 : Hid ((wr.setCell ⟨bi, y, none⟩ (.bool bb)).rowIs bi 4 N (fun x => .bool (up T y bb x))) := (HRo.out.set y (.bool bb)).congr fun i _ => by
                          by_cases e : i = y <;> simp [up, e]
                        have HB2' : Hid (But bi w5 (wr.setCell ⟨bi, y, none⟩ (.bool bb))) := HBu.out.setCell y _
                        clear f1 f2 hT hT'
                        go_upto_region 21 with (fail)
                        go_quiet (fail)
                        go_wp2
                        go_roundw
                        case rel => exact ⟨q + 1, by omega, by go_num, by rw [HCn.out, HF.out.2]; go_num, by rw [HSn.out, HF.out.1]; exact HR2.out, HB2'.out.drewN _⟩
                        case measure => simp [intOf]; omega
                    · as_aux_lemma =>
                      have hd : decide (x < (N : Int)) = false := by simpa using hx1
                      obtain ⟨f1, f2⟩ := sg1_out bb N T x (by simp [mayB]; omega)
                      have HF : Hid (sg1 bb N T x = T ∧ sgC1 bb N T x = 0) := ⟨f1, f2⟩
                      clear f1 f2
                      go_upto_region 21 with (fail)
                      go_quiet (fail)
                      go_wp2
                      go_roundw
                      case rel => exact ⟨q + 1, by omega, by go_num, by rw [HCn.out, HF.out.2]; go_num, by rw [HSn.out, HF.out.1]; exact HRo.out, HBu.out.drewN _⟩
                      case measure => simp [intOf]; omega
                  · as_aux_lemma =>
                    have hd : decide (0 ≤ x) = false := by simpa using hx0
                    obtain ⟨f1, f2⟩ := sg1_out bb N T x (by simp [mayB]; omega)
                    have HF : Hid (sg1 bb N T x = T ∧ sgC1 bb N T x = 0) := ⟨f1, f2⟩
                    clear f1 f2
                    go_upto_region 21 with (fail)
                    go_quiet (fail)
                    go_wp2
                    go_roundw
                    case rel => exact ⟨q + 1, by omega, by go_num, by rw [HCn.out, HF.out.2]; go_num, by rw [HSn.out, HF.out.1]; exact HRo.out, HBu.out.drewN _⟩
                    case measure => simp [intOf]; omega
                · as_aux_lemma =>
                  have HRo2 : Hid (wr.rowIs bi 4 N (fun x => .bool (A5 x))) := by
                    have e : L.take q = L := List.take_of_length_le (by omega)
                    have := HRo.out
                    rw [e, ← HE2.out] at this
                    exact this
                  have HC2 : Hid (sgC bb N S (L.take q) = want) := by
                    have e : L.take q = L := List.take_of_length_le (by omega)
                    show sgC bb N S (L.take q) = want
                    rw [e, HE1.out]
                  go_wp2
                  go_meet
                  case rel => exact ⟨by rw [HC2.out], HRo2.out, HBu.out⟩
          case rest => as_aux_lemma =>
            obtain ⟨rfl, hrow, hbut⟩ := hcut
            obtain ⟨w6, hw6⟩ : ∃ w6, w6 = wc := ⟨_, rfl⟩
            subst hw6
            have HP6 : Hid (PlSt w w6 b bw bi bk N j S A5) := HP5.out.arr hbut hrow
            have hK0 : w6.cell? ⟨H, 0, none⟩ = some (.int .i64 kd) := (World.cell?_of_block (hbut.block H HH5.out (by omega))).trans hH0
            have HK1 : Hid (w6.rowIs H 37 2 (opC kd (.slice aL L.length cL))) := hbut.row HR5.out (by omega)
            have HM6 : Hid (w6.ownsRow (H + 1) 3 1 (.slice (some ⟨g, 0, none⟩) (L.length + 1) cap) (L.length + 1) ((L ++ [-77]).map (Value.int .i64))) := (Ty.of_but hbut HP5.out.ia HP5.out.hi).own HM5.out (by decide)
            have HH6 : Hid (H < w6.heap.size) := Nat.lt_of_lt_of_le HH5.out hbut.size
            have hbwH : bw < H := HBW.out
            clear hrow hbut HP5 HM5 hH0 hH1 HH5 HR5
            obtain ⟨S6, hS6⟩ : ∃ S6, S6 = (if kd = 3 then (fun _ => false) else sgS (kd == 1) N S L) := ⟨_, rfl⟩
            have HS6 : Hid (S6 = (if kd = 3 then (fun _ => false) else sgS (kd == 1) N S L)) := hS6
            clear hS6
            go_upto_block 4 with (fail)
            go_cut [10, 16] (fun a c wk => c = .int .i64 (want : Int) ∧ ∃ bi', a = .slice (some ⟨bi', 0, none⟩) N N ∧ PlSt w wk b bw bi' bk N j S6 S6 ∧ wk.rowIs H 37 2 (opC kd (.slice aL L.length cL)) ∧ wk.ownsRow (H + 1) 3 1 (.slice (some ⟨g, 0, none⟩) (L.length + 1) cap) (L.length + 1) ((L ++ [-77]).map (Value.int .i64)))
            case first => as_aux_lemma =>
              have hmrow := HM6.out
              rw [List.map_append] at hmrow
              have hpre := own_prefix (n := L.length) (m := 1) hmrow (by simp)
              have HMC : Hid (∀ j, j < L.length → w6.cell? ⟨g, 0 + j, none⟩ = some (.int .i64 (L.getD j 0))) := by
                intro j' hj'
                rw [Nat.zero_add, hpre.cellAt j' (by omega)]
                simp [hj']
              obtain ⟨hg1, hg2⟩ := HM6.out.lt g rfl
              have HGW : Hid (g ≠ bw ∧ g < w6.heap.size) := ⟨by omega, hg2⟩
              have HLM : Hid (L.length ≤ maxLen) := by show L.length ≤ maxLen; unfold maxLen; omega
              have hKeep : ∀ (wk : World), But bw w6 wk → wk.rowIs H 37 2 (opC kd (.slice aL L.length cL)) ∧ wk.ownsRow (H + 1) 3 1 (.slice (some ⟨g, 0, none⟩) (L.length + 1) cap) (L.length + 1) ((L ++ [-77]).map (Value.int .i64)) := fun wk hb =>
                ⟨hb.row HK1.out (by omega), (Ty.of_but hb HP6.out.sv.ws HP6.out.hw).own HM6.out (by decide)⟩
              have HKeep : Hid (∀ (wk : World), But bw w6 wk → wk.rowIs H 37 2 (opC kd (.slice aL L.length cL)) ∧ wk.ownsRow (H + 1) 3 1 (.slice (some ⟨g, 0, none⟩) (L.length + 1) cap) (L.length + 1) ((L ++ [-77]).map (Value.int .i64))) := hKeep
              clear hmrow hpre hg1 hg2 hKeep
              by_cases hk1 : kd = 1
              · as_aux_lemma =>
                subst hk1
                have e1 : want = putC N S L := by rw [HWa.out]; rfl
                have e2 : A5 = putS N S L := by rw [HA5.out]; rfl
                have e3 : S6 = putS N S L := by rw [HS6.out]; rfl
                have HE : Hid (want = putC N S L ∧ A5 = putS N S L ∧ S6 = putS N S L) := ⟨e1, e2, e3⟩
                clear e1 e2 e3
                go_wp2_with fail
                refine (put_core L w6 HP6.out.sv HGW.out.1 HGW.out.2 HLM.out HMC.out).mono ?_
                rintro e w7 ⟨rfl, hs7, hB7⟩
                have HX : Hid (PlSt w w7 b bw bi bk N j S6 S6) := by
                  have := HP6.out.sieve hB7 hs7
                  rw [HE.out.2.1] at this
                  show PlSt w w7 b bw bi bk N j S6 S6
                  rw [HE.out.2.2]; exact this
                have HKK := HKeep.out w7 hB7
                clear hs7 hB7
                go_wp2_with fail
                go_meet
                case rel => exact ⟨by rw [HE.out.1], bi, rfl, HX.out, HKK⟩
              · by_cases hk3 : kd = 3
                · as_aux_lemma =>
                  subst hk3
                  have e1 : want = 0 := by rw [HWa.out]; rfl
                  have e3 : S6 = fun _ => false := by rw [HS6.out]; rfl
                  have HE : Hid (want = 0 ∧ S6 = fun _ => false) := ⟨e1, e3⟩
                  clear e1 e3
                  go_wp2_with fail
                  refine (clear_any w6 HP6.out.sv).mono ?_
                  rintro e w7 ⟨rfl, hs7, hB7⟩
                  have HX : Hid (PlSt w (w7.alloc (.cells (madeCells #[.bool false] N) 4)) b bw w7.heap.size bk N j S6 S6) := by
                    have := (HP6.out.sieve hB7 hs7).fresh
                    show PlSt w (w7.alloc (.cells (madeCells #[.bool false] N) 4)) b bw w7.heap.size bk N j S6 S6
                    rw [HE.out.2]; exact this
                  have HKK := HKeep.out w7 hB7
                  have HKL : Hid ((w7.alloc (.cells (madeCells #[.bool false] N) 4)).rowIs H 37 2 (opC 3 (.slice aL L.length cL)) ∧ (w7.alloc (.cells (madeCells #[.bool false] N) 4)).ownsRow (H + 1) 3 1 (.slice (some ⟨g, 0, none⟩) (L.length + 1) cap) (L.length + 1) ((L ++ [-77]).map (Value.int .i64))) :=
                    ⟨HKK.1.alloc _, HKK.2.alloc _⟩
                  have hmk := run_make_row' (P := Tryd.prog) 26 4 (.bool false) 1 Tryd.underlying26 Tryd.info4 rfl .i64 .i64 N (by omega) (by omega)
                  clear hs7 hB7 HKK
                  go_wp2_with fail
                  go_meet
                  case rel => exact ⟨by rw [HE.out.1]; rfl, _, rfl, HX.out, HKL.out⟩
                · as_aux_lemma =>
                  have hkb : (kd == 1) = false := by simpa using hk1
                  have hkc : (kd == 3) = false := by simpa using hk3
                  have e1 : want = cutC N S L := by rw [HWa.out, if_neg hk3, hkb]; rfl
                  have e2 : A5 = cutS N S L := by rw [HA5.out, if_neg hk3, hkb]; rfl
                  have e3 : S6 = cutS N S L := by rw [HS6.out, if_neg hk3, hkb]; rfl
                  have HE : Hid (want = cutC N S L ∧ A5 = cutS N S L ∧ S6 = cutS N S L) := ⟨e1, e2, e3⟩
                  clear e1 e2 e3
                  go_wp2_with fail
                  refine (cut_core L w6 HP6.out.sv HGW.out.1 HGW.out.2 HLM.out HMC.out).mono ?_
                  rintro e w7 ⟨rfl, hs7, hB7⟩
                  have HX : Hid (PlSt w w7 b bw bi bk N j S6 S6) := by
                    have := HP6.out.sieve hB7 hs7
                    rw [HE.out.2.1] at this
                    show PlSt w w7 b bw bi bk N j S6 S6
                    rw [HE.out.2.2]; exact this
                  have HKK := HKeep.out w7 hB7
                  clear hs7 hB7
                  go_wp2_with fail
                  go_meet
                  case rel => exact ⟨by rw [HE.out.1], bi, rfl, HX.out, HKK⟩
            case rest => as_aux_lemma =>
              obtain ⟨rfl, bi2, rfl, hps, hh1, hm7⟩ := hcut
              obtain ⟨w7, hw7⟩ : ∃ w7, w7 = wc := ⟨_, rfl⟩
              subst hw7
              have HP7 : Hid (PlSt w w7 b bw bi2 bk N j S6 S6) := hps
              have HK7 : Hid (w7.rowIs H 37 2 (opC kd (.slice aL L.length cL))) := hh1
              have HM7 : Hid (w7.ownsRow (H + 1) 3 1 (.slice (some ⟨g, 0, none⟩) (L.length + 1) cap) (L.length + 1) ((L ++ [-77]).map (Value.int .i64))) := hm7
              clear hps hh1 hm7 HP6 HK1 HM6 hK0 HA5 HS6 HWa
              go_upto_block 5 with (fail)
              go_cut [19, 20, 21, 22] (fun al nv gv wv wk => nv = .int .i64 (nx S6 N fr) ∧ gv = .int .i64 (nx (notIn S6) N fr) ∧ wv = .int .u64 ((wordF S6 k : Nat) : Int) ∧ wk.ownsRow w7.heap.size 3 1 al (cnt S6 N) ((els S6 N).map (Value.int .i64)) ∧ Below w7.heap.size w7 wk)
              case first => as_aux_lemma =>
                obtain ⟨i0, hi, hz0, hz1, hz2⟩ := info_parts Tryd.info3
                go_wp2_with fail
                go_loopw [19, 20, 21, 22, 23] (fun al nv gv wv v wk => ∃ t : Nat, t ≤ N ∧ v = .int .i64 t ∧ nv = .int .i64 (nx S6 t fr) ∧ gv = .int .i64 (nx (notIn S6) t fr) ∧ wv = .int .u64 ((wordUp S6 k t : Nat) : Int) ∧ wk.ownsRow w7.heap.size 3 1 al (cnt S6 t) ((els S6 t).map (Value.int .i64)) ∧ Below w7.heap.size w7 wk) (fun _ _ _ _ v _ => N - (intOf v).toNat)
                case atStart => exact ⟨0, Nat.zero_le _, rfl, by rw [nx_at_zero], by rw [nx_at_zero], by rw [wordUp_zero]; rfl, World.ownsRow_nil _ _ _ _, Below.refl _ _⟩
                case round =>
                  obtain ⟨t, ht, rfl, rfl, rfl, rfl, hown, hB⟩ := hrel
                  have HOw : Hid (wr.ownsRow w7.heap.size 3 1 u19 (cnt S6 t) ((els S6 t).map (Value.int .i64))) := hown
                  have HBl : Hid (Below w7.heap.size w7 wr) := hB
                  clear hown hB
                  by_cases hltt : t < N
                  · have hia := HP7.out.ia
                    have hin : wr.cell? ⟨bi2, t, none⟩ = some (.bool (S6 t)) := (HBl.out.cell (p := ⟨bi2, t, none⟩) hia.lt).trans (hia.cell hltt)
                    have HN1 : Hid (nx S6 (t + 1) fr = if nx S6 t fr < 0 ∧ fr ≤ (t : Int) ∧ S6 t = true then (t : Int) else nx S6 t fr) := nx_step S6 t fr
                    have HG1 : Hid (nx (notIn S6) (t + 1) fr = if nx (notIn S6) t fr < 0 ∧ fr ≤ (t : Int) ∧ notIn S6 t = true then (t : Int) else nx (notIn S6) t fr) := nx_step (notIn S6) t fr
                    have hcm := cnt_le S6 t
                    have htI : (t : Int) < (N : Int) := by omega
                    clear hia
                    generalize nx S6 t fr = nv at *
                    generalize nx (notIn S6) t fr = gv at *
                    cases hS : S6 t
                    · as_aux_lemma =>
                      rw [hS] at hin
                      have HE : Hid (els S6 (t + 1) = els S6 t ∧ cnt S6 (t + 1) = cnt S6 t) := by
                        have e : els S6 (t + 1) = els S6 t := by show els S6 t ++ (if S6 t then [(t : Int)] else []) = _; rw [hS]; simp
                        exact ⟨e, by rw [← els_len, e, els_len]⟩
                      have HWd : Hid (wordUp S6 k (t + 1) = wordUp S6 k t) := wordUp_same S6 k t (fun h => by rw [hS] at h; exact absurd h.1 (by simp))
                      have HNn : Hid (nx S6 (t + 1) fr = nv) := by show _ = _; rw [HN1.out, if_neg (fun h => by rw [hS] at h; exact absurd h.2.2 (by simp))]
                      have HNi : Hid (notIn S6 t = true) := by show notIn S6 t = true; unfold notIn; rw [hS]; rfl
                      have HS0 : Hid (S6 t = false) := hS
                      clear hS
                      by_cases hc1 : gv < 0
                      · by_cases hc2 : fr ≤ (t : Int)
                        · as_aux_lemma =>
                          have HGn : Hid (nx (notIn S6) (t + 1) fr = (t : Int)) := by show _ = _; rw [HG1.out, if_pos ⟨hc1, hc2, HNi.out⟩]
                          go_wp2
                          go_roundw
                          case rel => exact ⟨t + 1, by omega, by go_num, by rw [HNn.out], by rw [HGn.out], by rw [HWd.out], by rw [HE.out.1, HE.out.2]; exact HOw.out, HBl.out⟩
                          case measure => simp [intOf]; omega
                        · as_aux_lemma =>
                          have HGn : Hid (nx (notIn S6) (t + 1) fr = gv) := by show _ = _; rw [HG1.out, if_neg (fun h => hc2 h.2.1)]
                          go_wp2
                          go_roundw
                          case rel => exact ⟨t + 1, by omega, by go_num, by rw [HNn.out], by rw [HGn.out], by rw [HWd.out], by rw [HE.out.1, HE.out.2]; exact HOw.out, HBl.out⟩
                          case measure => simp [intOf]; omega
                      · as_aux_lemma =>
                        have HGn : Hid (nx (notIn S6) (t + 1) fr = gv) := by show _ = _; rw [HG1.out, if_neg (fun h => hc1 h.1)]
                        go_wp2
                        go_roundw
                        case rel => exact ⟨t + 1, by omega, by go_num, by rw [HNn.out], by rw [HGn.out], by rw [HWd.out], by rw [HE.out.1, HE.out.2]; exact HOw.out, HBl.out⟩
                        case measure => simp [intOf]; omega
                    · as_aux_lemma =>
                      rw [hS] at hin
                      have HE : Hid (els S6 (t + 1) = els S6 t ++ [(t : Int)] ∧ cnt S6 (t + 1) = cnt S6 t + 1) := by
                        have e : els S6 (t + 1) = els S6 t ++ [(t : Int)] := by show els S6 t ++ (if S6 t then [(t : Int)] else []) = _; rw [hS]; simp
                        exact ⟨e, by rw [← els_len, e, List.length_append, els_len]; rfl⟩
                      have HGn : Hid (nx (notIn S6) (t + 1) fr = gv) := by show _ = _; rw [HG1.out, if_neg (fun h => by have := h.2.2; unfold notIn at this; rw [hS] at this; simp at this)]
                      obtain ⟨nw, hnw⟩ : ∃ nw, nw = nx S6 (t + 1) fr := ⟨_, rfl⟩
                      have HNn : Hid (nw = nx S6 (t + 1) fr) := hnw
                      have HNm : Hid (nw = if nv < 0 ∧ fr ≤ (t : Int) then (t : Int) else nv) := by
                        show nw = _
                        rw [hnw, HN1.out]
                        by_cases hc : nv < 0 ∧ fr ≤ (t : Int)
                        · rw [if_pos hc, if_pos ⟨hc.1, hc.2, hS⟩]
                        · rw [if_neg hc, if_neg (fun h => hc ⟨h.1, h.2.1⟩)]
                      have HS1 : Hid (S6 t = true) := hS
                      clear hS hnw
                      have hwl := wordUp_lt S6 k t
                      have HWl : Hid (wordUp S6 k t < 18446744073709551616) := hwl
                      obtain ⟨ww, hww⟩ : ∃ ww, ww = wordUp S6 k t := ⟨_, rfl⟩
                      have HWw : Hid (ww = wordUp S6 k t) := hww
                      rw [← hww]
                      clear hwl hww
                      obtain ⟨aa, ca, ea⟩ := own_len HOw.out
                      have hb1 : w7.heap.size ≤ wr.heap.size := HBl.out.size
                      have HH8 : Hid (cnt S6 t + 1 ≤ maxLen ∧ (cnt S6 t + 1) * 8 ≤ 140737488355328 ∧ w7.heap.size ≤ (wr.alloc (.cells #[.int .i64 (t : Int)] 3)).heap.size) := ⟨by unfold maxLen; omega, by omega, by simp; omega⟩
                      have HNO : Hid (∀ j u, [Value.int .i64 (t : Int)][j]? = some u → (wr.alloc (.cells #[.int .i64 (t : Int)] 3)).cell? ((⟨wr.heap.size, 0, none⟩ : Addr).add j) = some u) := new_one wr _ _
                      clear ea aa ca hb1
                      go_wp2_with (at_builtin; refine wpList_append_own _ rfl _ _ 35 rfl w7.heap.size 3 i0 (.int .i64 0) 1 8 Tryd.underlying35 hi hz0 hz1 hz2 rfl (by decide) _ _ _ rfl (HOw.out.alloc _) ⟨wr.heap.size, 0, none⟩ 1 1 [.int .i64 (t : Int)] rfl rfl HNO.out (one_of rfl) HH8.out.1 HH8.out.2.1 HH8.out.2.2 ?_)
                      · intro v' w8 hown' hgrow _
                        have HOw2 : Hid (w8.ownsRow w7.heap.size 3 1 v' (cnt S6 t + 1) ((els S6 t).map (Value.int .i64) ++ [.int .i64 (t : Int)])) := hown'
                        have HB2 : Hid (Below w7.heap.size w7 w8) := (HBl.out.alloc HBl.out.size _).grown hgrow HH8.out.2.2 (fun q hq => (HOw.out.lt q hq).1)
                        clear hown' hgrow HNO HH8 HOw HBl hin
                        by_cases hk0 : 0 ≤ k
                        · by_cases hkq : ((t / 64 : Nat) : Int) = k
                          · as_aux_lemma =>
                            have hq1 : ((t : Int) / 64 == k) = true := by rw [beq_iff_eq]; omega
                            have hrem : (t : Int) % 64 = ((t % 64 : Nat) : Int) := by omega
                            have hm64 : t % 64 < 64 := Nat.mod_lt _ (by decide)
                            have hsh := bit_num (t % 64) hm64
                            have hp : 2 ^ (t % 64) < 2 ^ 64 := Nat.pow_lt_pow_of_lt (by decide) hm64
                            have hor := u64_or_nat ww (2 ^ (t % 64)) (by rw [HWw.out]; exact HWl.out) hp
                            have HWd : Hid (wordUp S6 k (t + 1) = ww ||| 2 ^ (t % 64)) := by
                              show wordUp S6 k (t + 1) = _
                              rw [← hkq, wordUp_bit S6 t HS1.out, hkq, HWw.out]
                            generalize ww ||| 2 ^ (t % 64) = ww2 at *
                            generalize hpp : 2 ^ (t % 64) = pw at *
                            have HPP : Hid (2 ^ (t % 64) = pw) := hpp
                            generalize t % 64 = m64 at *
                            clear hpp hp HPP
                            go_wp2
                            all_goals
                              go_roundw
                              case rel => exact ⟨t + 1, by omega, by go_num, by rw [← HNn.out, HNm.out]; first | rw [if_pos (by omega)] | rw [if_neg (by omega)], by rw [HGn.out], by rw [HWd.out], by rw [HE.out.1, HE.out.2, List.map_append]; exact HOw2.out, HB2.out⟩
                              case measure => simp [intOf]; omega
                          · as_aux_lemma =>
                            have hq1 : ((t : Int) / 64 == k) = false := by rw [beq_eq_false_iff_ne]; omega
                            have HWd : Hid (wordUp S6 k (t + 1) = ww) := by
                              show wordUp S6 k (t + 1) = ww
                              rw [HWw.out]; exact wordUp_same S6 k t (fun h => hkq h.2.2)
                            go_wp2
                            all_goals
                              go_roundw
                              case rel => exact ⟨t + 1, by omega, by go_num, by rw [← HNn.out, HNm.out]; first | rw [if_pos (by omega)] | rw [if_neg (by omega)], by rw [HGn.out], by rw [HWd.out], by rw [HE.out.1, HE.out.2, List.map_append]; exact HOw2.out, HB2.out⟩
                              case measure => simp [intOf]; omega
                        · as_aux_lemma =>
                          have HWd : Hid (wordUp S6 k (t + 1) = ww) := by
                            show wordUp S6 k (t + 1) = ww
                            rw [HWw.out]; exact wordUp_same S6 k t (fun h => hk0 h.2.1)
                          go_wp2
                          all_goals
                            go_roundw
                            case rel => exact ⟨t + 1, by omega, by go_num, by rw [← HNn.out, HNm.out]; first | rw [if_pos (by omega)] | rw [if_neg (by omega)], by rw [HGn.out], by rw [HWd.out], by rw [HE.out.1, HE.out.2, List.map_append]; exact HOw2.out, HB2.out⟩
                            case measure => simp [intOf]; omega
                  · as_aux_lemma =>
                    have e : t = N := by omega
                    subst e
                    have HWe : Hid (wordUp S6 k t = wordF S6 k) := wordUp_end S6 k t HP7.out.sv.out
                    go_wp2
                    go_meet
                    case rel => exact ⟨rfl, rfl, by rw [HWe.out], HOw.out, HBl.out⟩
              case rest => as_aux_lemma =>
                obtain ⟨rfl, rfl, rfl, hown8, hB8⟩ := hcut
                obtain ⟨w8, hw8⟩ : ∃ w8, w8 = wc := ⟨_, rfl⟩
                subst hw8
                obtain ⟨aa, ca, eaa⟩ := own_len hown8
                subst eaa
                have HP8 : Hid (PlSt w w8 b bw bi2 bk N j S6 S6) := HP7.out.below hB8
                have tb8 : Ty [] 0 w7 w8 := Ty.of_below hB8
                have HK8 : Hid (w8.rowIs H 37 2 (opC kd (.slice aL L.length cL))) := tb8.row HK7.out (by simp)
                have HM8 : Hid (w8.ownsRow (H + 1) 3 1 (.slice (some ⟨g, 0, none⟩) (L.length + 1) cap) (L.length + 1) ((L ++ [-77]).map (Value.int .i64))) := tb8.own HM7.out (by simp)
                have HA8 : Hid (w8.ownsRow w7.heap.size 3 1 (.slice aa (cnt S6 N) ca) (cnt S6 N) ((els S6 N).map (Value.int .i64))) := hown8
                have HT8 : Hid (Tab w8) := HT.out.below HP8.out.lo HT.out.size
                obtain ⟨vi, vw, I, W, hbk, hIl, hWl, hIW, hL9⟩ := HP8.out.bo
                have HBK : Hid (BookAt w8 w.heap.size bk vi vw I W ∧ I.length = j ∧ W.length = j ∧ I.map Prod.snd = W.map Prod.snd ∧ ∀ p ∈ I, p.2.length ≤ 900) := ⟨hbk, hIl, hWl, hIW, hL9⟩
                have hcN := cnt_le S6 N
                clear hown8 hB8 tb8 HP7 HK7 HM7 hbk hIl hWl hIW hL9
                go_wp2_with fail
                refine (all_any _ HP8.out.sv HT8.out).mono ?_
                rintro e w9 ⟨va, rfl, howna, hBa⟩
                obtain ⟨av, cv, rfl⟩ := own_len howna
                have tb9 : Ty [] 0 w8 w9 := Ty.of_below hBa
                have hIa : ∀ p ∈ I, Apt p.1 (.slice av (cnt S6 N) cv) := fun p hp => apt_fresh (HBK.out.1.ri p hp) howna (Nat.le_refl _)
                have hWa : ∀ p ∈ W, Apt (.slice av (cnt S6 N) cv) p.1 := fun p hp => (apt_fresh (HBK.out.1.rc p hp) howna (Nat.le_refl _)).symm'
                have hva : OwnInts w9 w.heap.size (.slice av (cnt S6 N) cv, els S6 N) := by
                  show w9.ownsRow w.heap.size 3 1 _ (els S6 N).length _
                  rw [els_len]
                  exact own_base howna HP8.out.lo.size
                have HX9 : Hid (BookAt w9 w.heap.size bk vi vw I W ∧ w.heap.size ≤ w9.heap.size ∧ (els S6 N).length ≤ 1000 ∧ I.length < 250 ∧ W.length < 250 ∧ OwnInts w9 w.heap.size (.slice av (cnt S6 N) cv, els S6 N) ∧ (∀ p ∈ I, Apt p.1 (.slice av (cnt S6 N) cv)) ∧ ∀ p ∈ W, Apt (.slice av (cnt S6 N) cv) p.1) :=
                  ⟨HBK.out.1.below hBa, Nat.le_trans HP8.out.lo.size hBa.size, by rw [els_len]; omega, by have := HBK.out.2.1; omega, by have := HBK.out.2.2.1; omega, hva, hIa, hWa⟩
                have HP9 : Hid (PlSt w w9 b bw bi2 bk N j S6 S6) := HP8.out.below hBa
                have HK9 : Hid (w9.rowIs H 37 2 (opC kd (.slice aL L.length cL))) := tb9.row HK8.out (by simp)
                have HM9 : Hid (w9.ownsRow (H + 1) 3 1 (.slice (some ⟨g, 0, none⟩) (L.length + 1) cap) (L.length + 1) ((L ++ [-77]).map (Value.int .i64))) := tb9.own HM8.out (by simp)
                have HA9 : Hid (w9.ownsRow w7.heap.size 3 1 (.slice aa (cnt S6 N) ca) (cnt S6 N) ((els S6 N).map (Value.int .i64))) := tb9.own HA8.out (by simp)
                clear howna hBa tb9 hIa hWa hva HP8 HK8 HM8 HA8 HT8
                go_wp2_with fail
                refine (ints_any (els S6 N) _ _ HX9.out.1 HX9.out.2.1 HX9.out.2.2.1 HX9.out.2.2.2.1 HX9.out.2.2.2.2.1 HX9.out.2.2.2.2.2.1 HX9.out.2.2.2.2.2.2.1 HX9.out.2.2.2.2.2.2.2).mono ?_
                rintro e w10 ⟨rfl, vi', vw', v2, hb10, ht10⟩
                have HP10 : Hid (PlSt w w10 b bw bi2 bk N (j + 1) S6 S6) := by
                  refine ⟨⟨ht10.row HP9.out.sv.hd (by decide), ht10.row HP9.out.sv.ws (by decide), HP9.out.sv.le, HP9.out.sv.out⟩, ht10.row HP9.out.ia (by decide), ⟨vi', vw', _, _, hb10, ?_, ?_, ?_, ?_⟩, HP9.out.lo.trans (ht10.below HP9.out.lo.size), HP9.out.hw, HP9.out.hi⟩
                  · have := HBK.out.2.1; simp; omega
                  · have := HBK.out.2.2.1; simp; omega
                  · rw [List.map_append, List.map_append, HBK.out.2.2.2.1]; rfl
                  · intro p hp
                    rcases List.mem_append.1 hp with hp | hp
                    · exact HBK.out.2.2.2.2 p hp
                    · simp at hp; subst hp
                      show (els S6 N).length ≤ 900
                      rw [els_len]; omega
                have HK10 : Hid (w10.rowIs H 37 2 (opC kd (.slice aL L.length cL))) := ht10.row HK9.out (by decide)
                have HM10 : Hid (w10.ownsRow (H + 1) 3 1 (.slice (some ⟨g, 0, none⟩) (L.length + 1) cap) (L.length + 1) ((L ++ [-77]).map (Value.int .i64))) := ht10.own HM9.out (by decide)
                have HSS : Hid (SrcAt w10 (.slice av (cnt S6 N) cv) (els S6 N) ∧ SrcAt w10 (.slice aa (cnt S6 N) ca) (els S6 N)) := by
                  have h1 := ht10.own HX9.out.2.2.2.2.2.1 (by decide)
                  have h2 := ht10.own HA9.out (by decide)
                  have e := els_len S6 N
                  refine ⟨src_of_own h1, ?_⟩
                  rw [← e] at h2
                  have := src_of_own h2
                  rw [e] at this
                  exact this
                have HT10 : Hid (Tab w10) := HT.out.below HP10.out.lo HT.out.size
                have HSL : Hid (SrcAt w10 (.slice aL L.length cL) L) := HSrc.out.below HP10.out.lo
                have hk1 : w10.cell? ⟨H, 1, none⟩ = some (.slice aL L.length cL) := HK10.out.cell (i := 1) (by decide)
                have HEL : Hid ((els S6 N).length ≤ maxLen) := by show (els S6 N).length ≤ maxLen; rw [els_len]; unfold maxLen; omega
                clear hb10 ht10 HP9 HK9 HM9 HA9 HX9 HBK HK10
                have hin : ∀ y : Nat, y < N → w10.cell? ⟨bi2, y, none⟩ = some (.bool (S6 y)) := fun y hy => HP10.out.ia.cell hy
                have hcase : (fr < 0 ∧ hasB N S6 fr = false) ∨ ((N : Int) ≤ fr ∧ 0 ≤ fr ∧ hasB N S6 fr = false) ∨ ∃ y : Nat, y < N ∧ fr = (y : Int) ∧ hasB N S6 fr = S6 y := by
                  by_cases h0 : fr < 0
                  · exact Or.inl ⟨h0, by simp [hasB, mayB]; omega⟩
                  · by_cases h1 : (N : Int) ≤ fr
                    · exact Or.inr (Or.inl ⟨h1, by omega, by simp [hasB, mayB]; omega⟩)
                    · refine Or.inr (Or.inr ⟨fr.toNat, by omega, by omega, ?_⟩)
                      have hm : mayB N fr = true := (may_spec N fr).2 (by omega)
                      simp [hasB, hm]
                have HFR : Hid (fr ≤ 9223372036854775807) := hfr
                have HSt : Hid (L.length ≤ 1000) := by show L.length ≤ 1000; omega
                obtain ⟨v20, hv20⟩ : ∃ v20, v20 = nx S6 N fr := ⟨_, rfl⟩
                obtain ⟨v21, hv21⟩ : ∃ v21, v21 = nx (notIn S6) N fr := ⟨_, rfl⟩
                obtain ⟨v22, hv22⟩ : ∃ v22, v22 = wordF S6 k := ⟨_, rfl⟩
                have H20 : Hid (nx S6 N fr = v20) := hv20.symm
                have H21 : Hid (nx (notIn S6) N fr = v21) := hv21.symm
                have H22 : Hid (wordF S6 k = v22) := hv22.symm
                rw [← hv20, ← hv21, ← hv22]
                clear hv20 hv21 hv22
                rcases hcase with ⟨hA, hB⟩ | ⟨hA, hA2, hB⟩ | ⟨y, hy, hA, hB⟩
                · as_aux_lemma =>
                  have HHas : Hid (hasB N S6 fr = false) := hB
                  have hd1 : decide (0 ≤ fr) = false := by simpa using hA
                  clear hB hin
                  go_wp2_with fail
                  refine (same_any (els S6 N) _ _ _ HEL.out HSS.out.1 HSS.out.2).mono ?_
                  rintro e w11 ⟨rfl, q1, rfl⟩
                  go_wp2_with fail
                  refine (count_any _ (HP10.out.sv.drewN _)).mono ?_
                  rintro e w11 ⟨rfl, rfl⟩
                  go_wp2_with fail
                  refine (next_any _ _ HFR.out (HP10.out.sv.drewN _) (SvAt.tab HT10.out _)).mono ?_
                  rintro e w11 ⟨rfl, q2, rfl⟩
                  rw [H20.out]
                  go_wp2_with fail
                  refine (gap_any _ _ HFR.out (HP10.out.sv.drewN _) (SvAt.tab HT10.out _)).mono ?_
                  rintro e w11 ⟨rfl, q3, rfl⟩
                  rw [H21.out]
                  go_wp2_with fail
                  refine (word_any k _ (HP10.out.sv.drewN _)).mono ?_
                  rintro e w11 ⟨rfl, rfl⟩
                  rw [H22.out]
                  go_wp2_with fail
                  refine (has_is _ false _ (HP10.out.sv.drewN _) HHas.out).mono ?_
                  rintro e w11 ⟨rfl, q4, rfl⟩
                  go_wp2_with fail
                  refine (stays_any L _ g cap (H + 1) (w10.drewN (q1 + q2 + q3 + q4)) HSt.out (own_drewN HM10.out _) (HSL.out.drewN _)).mono ?_
                  rintro e w11 ⟨rfl, q5, rfl⟩
                  go_wp2_with fail
                  go_roundw
                  case rel => exact ⟨j + 1, by omega, by go_num, bi2, S6, rfl, HP10.out.drewN _⟩
                  case measure => simp [intOf]; omega
                · as_aux_lemma =>
                  have HHas : Hid (hasB N S6 fr = false) := hB
                  have hd1 : decide (fr < (N : Int)) = false := by simpa using hA
                  clear hB hin
                  go_wp2_with fail
                  refine (same_any (els S6 N) _ _ _ HEL.out HSS.out.1 HSS.out.2).mono ?_
                  rintro e w11 ⟨rfl, q1, rfl⟩
                  go_wp2_with fail
                  refine (count_any _ (HP10.out.sv.drewN _)).mono ?_
                  rintro e w11 ⟨rfl, rfl⟩
                  go_wp2_with fail
                  refine (next_any _ _ HFR.out (HP10.out.sv.drewN _) (SvAt.tab HT10.out _)).mono ?_
                  rintro e w11 ⟨rfl, q2, rfl⟩
                  rw [H20.out]
                  go_wp2_with fail
                  refine (gap_any _ _ HFR.out (HP10.out.sv.drewN _) (SvAt.tab HT10.out _)).mono ?_
                  rintro e w11 ⟨rfl, q3, rfl⟩
                  rw [H21.out]
                  go_wp2_with fail
                  refine (word_any k _ (HP10.out.sv.drewN _)).mono ?_
                  rintro e w11 ⟨rfl, rfl⟩
                  rw [H22.out]
                  go_wp2_with fail
                  refine (has_is _ false _ (HP10.out.sv.drewN _) HHas.out).mono ?_
                  rintro e w11 ⟨rfl, q4, rfl⟩
                  go_wp2_with fail
                  refine (stays_any L _ g cap (H + 1) (w10.drewN (q1 + q2 + q3 + q4)) HSt.out (own_drewN HM10.out _) (HSL.out.drewN _)).mono ?_
                  rintro e w11 ⟨rfl, q5, rfl⟩
                  go_wp2_with fail
                  go_roundw
                  case rel => exact ⟨j + 1, by omega, by go_num, bi2, S6, rfl, HP10.out.drewN _⟩
                  case measure => simp [intOf]; omega
                · as_aux_lemma =>
                  subst hA
                  have hiny := hin y hy
                  generalize S6 y = sy at *
                  have HHas : Hid (hasB N S6 (y : Int) = sy) := hB
                  have hyN : (y : Int) < (N : Int) := by omega
                  clear hB hin
                  go_wp2_with fail
                  refine (same_any (els S6 N) _ _ _ HEL.out HSS.out.1 HSS.out.2).mono ?_
                  rintro e w11 ⟨rfl, q1, rfl⟩
                  go_wp2_with fail
                  refine (count_any _ (HP10.out.sv.drewN _)).mono ?_
                  rintro e w11 ⟨rfl, rfl⟩
                  go_wp2_with fail
                  refine (next_any _ _ HFR.out (HP10.out.sv.drewN _) (SvAt.tab HT10.out _)).mono ?_
                  rintro e w11 ⟨rfl, q2, rfl⟩
                  rw [H20.out]
                  go_wp2_with fail
                  refine (gap_any _ _ HFR.out (HP10.out.sv.drewN _) (SvAt.tab HT10.out _)).mono ?_
                  rintro e w11 ⟨rfl, q3, rfl⟩
                  rw [H21.out]
                  go_wp2_with fail
                  refine (word_any k _ (HP10.out.sv.drewN _)).mono ?_
                  rintro e w11 ⟨rfl, rfl⟩
                  rw [H22.out]
                  go_wp2_with fail
                  refine (has_is _ sy _ (HP10.out.sv.drewN _) HHas.out).mono ?_
                  rintro e w11 ⟨rfl, q4, rfl⟩
                  go_wp2_with fail
                  refine (stays_any L _ g cap (H + 1) (w10.drewN (q1 + q2 + q3 + q4)) HSt.out (own_drewN HM10.out _) (HSL.out.drewN _)).mono ?_
                  rintro e w11 ⟨rfl, q5, rfl⟩
                  go_wp2_with fail
                  go_roundw
                  case rel => exact ⟨j + 1, by omega, by go_num, bi2, S6, rfl, HP10.out.drewN _⟩
                  case measure => simp [intOf]; omega
      · as_aux_lemma =>
        have e : j = ops.length := by omega
        have HJ : Hid (j ≤ 40) := by show j ≤ 40; omega
        go_wp2_with fail
        refine (clear_nil _).mono ?_
        rintro e w4 ⟨rfl, rfl⟩
        go_wp2_with fail
        refine (put_nil 1 _ (by simp)).mono ?_
        rintro e w5 ⟨rfl, rfl⟩
        go_wp2_with fail
        refine (cut_nil 1 _ (by simp)).mono ?_
        rintro e w6 ⟨rfl, q1, rfl⟩
        go_wp2_with fail
        refine (count_nil _).mono ?_
        rintro e w6 ⟨rfl, rfl⟩
        go_wp2_with fail
        refine (all_nil _).mono ?_
        rintro e w6 ⟨rfl, q2, rfl⟩
        go_wp2_with fail
        refine (has_nil _ _).mono ?_
        rintro e w6 ⟨rfl, q3, rfl⟩
        go_wp2_with fail
        refine (next_nil _ _).mono ?_
        rintro e w6 ⟨rfl, q4, rfl⟩
        go_wp2_with fail
        refine (gap_nil _ _).mono ?_
        rintro e w6 ⟨rfl, q5, rfl⟩
        go_wp2_with fail
        refine (word_nil _ _).mono ?_
        rintro e w6 ⟨rfl, rfl⟩
        go_wp2_with fail
        have HPz := ((HP.out.alloc (.cells #[.int .i64 1] 3)).alloc (.cells #[.int .i64 1] 3)).drewN (q1 + q2 + q3 + q4 + q5)
        obtain ⟨vi, vw, I, W, hbk, hIl, hWl, hIW, hL9⟩ := HPz.bo
        refine (apart_any _ hbk HPz.lo.size hIW (by have := HJ.out; omega) hL9).mono ?_
        rintro e w7 ⟨rfl, hB7⟩
        have HLz : Hid (Below w.heap.size w w7) := HPz.lo.trans hB7
        clear hbk hIW hL9 HPz hB7
        go_wp2_with fail
        go_ret
        exact ⟨rfl, HLz.out⟩

end Go.Proofs.YthnnbhpaejemnaaDoor

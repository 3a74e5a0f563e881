/- ArenaPlays in parts: the switch's case 1 (Grow). -/
import Derived.Test.YtjpeppflldmffaaDoorApE
import Derived.Deep.RegionHeld3
namespace Go.Proofs.YtjpeppflldmffaaDoor
open Go.RowKit

theorem sz_yes {c : Int} (h : 0 < szN c) : 0 ≤ c ∧ c ≤ 7 := by
  by_cases g : c < 0 ∨ 7 < c
  · rw [none_sz g] at h; omega
  · omega
theorem sz_no {c : Int} (h : ¬ 0 < szN c) : c < 0 ∨ 7 < c := by
  rcases each_class c with g | rfl | rfl | rfl | rfl | rfl | rfl | rfl | rfl
  · exact g
  all_goals exact absurd (by decide) h

theorem sz_eight {c : Int} (h0 : 0 ≤ c) (h7 : c ≤ 7) : (szN c = 1 ∧ slN c = 32) ∨ (szN c = 2 ∧ slN c = 16) ∨ (szN c = 3 ∧ slN c = 10) ∨ (szN c = 4 ∧ slN c = 8) ∨ (szN c = 6 ∧ slN c = 5) ∨ (szN c = 8 ∧ slN c = 4) ∨ (szN c = 12 ∧ slN c = 2) ∨ (szN c = 16 ∧ slN c = 2) := by
  rcases each_class c with h | rfl | rfl | rfl | rfl | rfl | rfl | rfl | rfl
  · omega
  all_goals decide

/-- The model in the midst of Grow: the class of one page is set, its list of used slots is none yet. -/
structure MdC (w : World) (B m c u v n : Nat) (Q : Nat → Option PSt) (V : Nat → Int) (ub : Nat → Nat) (k : Nat) (d : Int) : Prop where
  hd : w.rowIs m 30 3 (mdC c u v n)
  cl : w.rowIs c 3 n (fun j => .int .i64 (if j = k then d else clsO (Q j)))
  us : w.rowIs u 43 n (fun j => usO (Q j) (ub j))
  wd : w.rowIs v 3 (32 * n) (fun x => .int .i64 (V x))
  ur : ∀ j p, Q j = some p → w.rowIs (ub j) 4 p.n (fun s => .bool (p.U s))
theorem MdAt.setC {w : World} {B m c u v n : Nat} {Q : Nat → Option PSt} {V : Nat → Int} {ub : Nat → Nat} (h : MdAt w B m c u v n Q V ub) (k : Nat) (d : Int) (hcv : v ≠ c) : MdC (w.setCell ⟨c, k, none⟩ (.int .i64 d)) B m c u v n Q V ub k d := by
  have g1 : But c w (w.setCell ⟨c, k, none⟩ (.int .i64 d)) := (But.refl _ _).setCell k _
  have t1 := Ty.of_but (B := 0) g1 h.cl (Nat.zero_le _)
  refine ⟨t1.row h.hd (by decide), (h.cl.set k _).congr fun i _ => ?_, t1.row h.us (by decide), g1.row h.wd hcv, fun j p e => t1.row (h.ur j p e) (by decide)⟩
  by_cases e : i = k <;> simp [e]
theorem MdC.below {w w' : World} {B m c u v n : Nat} {Q : Nat → Option PSt} {V : Nat → Int} {ub : Nat → Nat} {k : Nat} {d : Int} (h : MdC w B m c u v n Q V ub k d) (hb : Below w.heap.size w w') : MdC w' B m c u v n Q V ub k d :=
  ⟨h.hd.of_block (hb.block _ h.hd.lt), h.cl.of_block (hb.block _ h.cl.lt), h.us.of_block (hb.block _ h.us.lt), h.wd.of_block (hb.block _ h.wd.lt), fun j p e => (h.ur j p e).of_block (hb.block _ (h.ur j p e).lt)⟩
theorem MdC.drewN {w : World} {B m c u v n : Nat} {Q : Nat → Option PSt} {V : Nat → Int} {ub : Nat → Nat} {k : Nat} {d : Int} (h : MdC w B m c u v n Q V ub k d) (q : Nat) : MdC (w.drewN q) B m c u v n Q V ub k d := ⟨h.hd, h.cl, h.us, h.wd, h.ur⟩
theorem MdC.fin {w0 w : World} {B m c u v n : Nat} {Q : Nat → Option PSt} {V : Nat → Int} {ub : Nat → Nat} {k : Nat} {d : Int} {b blk : Nat} (h0 : MdAt w0 B m c u v n Q V ub) (h : MdC w B m c u v n Q V ub k d) (hk : k < n) (hp : Q k = none) (hd0 : 0 ≤ d) (hd7 : d ≤ 7) (hb : w.rowIs b 4 (slN d).toNat (fun _ => .bool false)) (hne : ∀ j q, Q j = some q → ub j ≠ b) (hB : B ≤ b) :
    MdAt (w.setCell ⟨u, k, none⟩ (.slice (some ⟨b, 0, none⟩) (slN d).toNat (slN d).toNat)) B m c u v n (upP Q k (some ⟨blk, d, ff, ff⟩)) V (fun j => if j = k then b else ub j) := by
  have g2 : But u w (w.setCell ⟨u, k, none⟩ (.slice (some ⟨b, 0, none⟩) (slN d).toNat (slN d).toNat)) := (But.refl _ _).setCell k _
  have t2 := Ty.of_but (B := 0) g2 h.us (Nat.zero_le _)
  refine ⟨t2.row h.hd (by decide), (t2.row h.cl (by decide)).congr fun i _ => ?_, (h.us.set k _).congr fun i _ => ?_, t2.row h.wd (by decide), fun j q e => ?_, fun j j' q q' e e' hj => ?_, fun j hj => ?_, fun j q e => ?_, h0.n64, h0.b0, h0.b1, h0.b2, h0.b3, fun j q e => ?_⟩
  · by_cases e : i = k
    · subst e; simp [upP, clsO]
    · simp [upP, e]
  · by_cases e : i = k
    · subst e; simp [upP, usO, PSt.n]
    · simp [upP, e]
  · by_cases ej : j = k
    · subst ej; rw [upP_same] at e; cases e
      simp only [if_pos]
      exact t2.row hb (by decide)
    · rw [upP_other Q _ ej] at e
      simp only [if_neg ej]
      exact t2.row (h.ur j q e) (by decide)
  · by_cases ej : j = k
    · subst ej
      rw [upP_other Q _ (fun x => hj x.symm)] at e'
      have hj' : j' ≠ j := fun x => hj x.symm
      simp only [if_neg hj', if_pos]
      exact fun x => hne j' q' e' x.symm
    · rw [upP_other Q _ ej] at e
      by_cases ej' : j' = k
      · subst ej'
        simp only [if_neg ej, if_pos]
        exact hne j q e
      · rw [upP_other Q _ ej'] at e'
        simp only [if_neg ej, if_neg ej']
        exact h0.ua j j' q q' e e' hj
  · rw [upP_other Q _ (by omega)]; exact h0.out j hj
  · by_cases ej : j = k
    · subst ej; rw [upP_same] at e; cases e; exact ⟨hd0, hd7⟩
    · rw [upP_other Q _ ej] at e; exact h0.ok j q e
  · by_cases ej : j = k
    · subst ej; simp only [if_pos]; exact hB
    · rw [upP_other Q _ ej] at e; simp only [if_neg ej]; exact h0.b4 j q e

/-- A page that Grow passes by. -/
def bsy (P : Nat → Option PSt) (g : Bool) (x : Nat) : Bool := !((P x).isNone && g)

section
variable {w w6 : World} {X : Arg} {I : Ids} {i ob : Nat} {nn vv : Int} {nr : Bool} {P : Nat → Option PSt} {W : Nat → Int} (a : Act) (hE : Env X I i ob a)
include hE
set_option maxRecDepth 100000 in
set_option maxHeartbeats 8000000 in
theorem sw_grow (h126 : a.tmps.toList[126]? = some (.int .i64 1)) (h : RP w w6 I P W P W ob 1 nn vv nr) : code4.wp Tryd.prog (SwPost w X I i ob 1 nn vv nr) a w6 := by
  have H : Hid (RP w w6 I P W P W ob 1 nn vv nr) := h
  obtain ⟨v, ha, hv⟩ := hE.open
  rw [hv 126 _ h126] at ha
  clear hv h126 hE
  subst ha
  have hn8 := h.ro.n8
  clear h
  unfold SwPost
  conv => arg 2; whnf
  obtain ⟨z, hz⟩ : ∃ z, z = szN nn := ⟨_, rfl⟩
  have HZ : Hid (szN nn = z) := hz.symm
  clear hz
  obtain ⟨g, hg⟩ : ∃ g, decide (0 < z) = g := ⟨_, rfl⟩
  have HG : Hid (decide (0 < z) = g) := hg
  clear hg
  go_wp2_with fail
  go_loopw [18, 19] (fun wv kv wk => ∃ (t : Nat) (y : Int), t ≤ I.n ∧ kv = .int .i64 ((t : Int) - 1) ∧ wv = .int .i64 y ∧ IsLeast (bsy P g) I.n t y ∧ RP w wk I P W P W ob 1 nn vv nr) (fun _ kv _ => (intOf kv + 1).toNat)
  case atStart => exact ⟨I.n, -1, Nat.le_refl _, rfl, rfl, Or.inl ⟨rfl, fun x h1 h2 => by omega⟩, H.out⟩
  case round =>
    obtain ⟨t, y, ht, rfl, rfl, hl, hr⟩ := hrel
    have HL : Hid (IsLeast (bsy P g) I.n t y) := hl
    have HR : Hid (RP w wr I P W P W ob 1 nn vv nr) := hr
    clear hl hr H
    have ho1 := HR.out.o1
    obtain ⟨ub, hmd⟩ := HR.out.ro.md
    have HM : Hid (MdAt wr w.heap.size I.m I.c I.u I.v I.n P W ub) := hmd
    clear hmd
    by_cases ht0 : t = 0
    · subst ht0
      rw [show (((0 : Nat) : Int) - 1) = -1 from rfl]
      rcases HL.out with ⟨rfl, hall⟩ | ⟨k, rfl, _, hk, hU, hlow⟩
      · have HA : Hid (∀ x, x < I.n → bsy P g x = true) := fun x hx => hall x (Nat.zero_le _) hx
        clear hall HL HM
        cases g
        · as_aux_lemma =>
          have HC : Hid (nn < 0 ∨ 7 < nn) := sz_no (by rw [HZ.out]; simpa using HG.out)
          go_wp2_with fail
          refine (grow_bad _ _ HC.out).mono ?_
          rintro e w7 ⟨rfl, rfl⟩
          go_wp2_with fail
          exact ⟨rfl, ⟨by kernel_rfl, rfl, rfl, rfl, rfl, rfl, rfl, rfl, rfl, rfl, rfl, rfl⟩, rfl, _, _, HR.out⟩
        · as_aux_lemma =>
          have HC : Hid (0 ≤ nn ∧ nn ≤ 7) := sz_yes (by rw [HZ.out]; simpa using HG.out)
          have HF : Hid (∀ k, k < I.n → P k ≠ none) := fun k hk e => by
            have := HA.out k hk
            simp [bsy, e] at this
          go_wp2_with fail
          refine (grow_full _ _ HR.out.ro.ar HC.out.1 HC.out.2 HF.out).mono ?_
          rintro e w7 ⟨rfl, hB⟩
          have H7 : Hid (RP w w7 I P W P W ob 1 nn vv nr) := HR.out.below hB
          clear hB
          go_wp2_with fail
          exact ⟨rfl, ⟨by kernel_rfl, rfl, rfl, rfl, rfl, rfl, rfl, rfl, rfl, rfl, rfl, rfl⟩, rfl, _, _, H7.out⟩
      · as_aux_lemma =>
        have hUU : P k = none ∧ g = true := by
          simp [bsy] at hU
          exact ⟨hU.1, hU.2⟩
        have HP : Hid (P k = none) := hUU.1
        have hg := hUU.2
        subst hg
        have HC : Hid (0 ≤ nn ∧ nn ≤ 7) := sz_yes (by rw [HZ.out]; simpa using HG.out)
        have HF : Hid (∀ j, j < k → P j ≠ none) := fun j hj e => by
          have := hlow j (Nat.zero_le _) hj
          simp [bsy, e] at this
        have hkI : (k : Int) < (I.n : Int) := by omega
        clear hU hUU hlow HL HM ho1
        have ho1 := HR.out.o1
        go_wp2_with fail
        refine (grow_some _ _ HR.out.ro.ar HC.out.1 HC.out.2 hk HP.out HF.out HR.out.ro.lo.size).mono ?_
        rintro e w8 ⟨rfl, b, hb, ha, hBu⟩
        have H8 : Hid (RP w w8 I (upP P k (some ⟨b, nn, ff, ff⟩)) W P W ob 1 nn vv nr) := HR.out.arena ha (Fix.of_but hBu (by simp))
        clear ha hBu ho1 HR hb HF
        have ho1 := H8.out.o1
        obtain ⟨ub, hm8⟩ := H8.out.ro.md
        have HM8 : Hid (MdAt w8 w.heap.size I.m I.c I.u I.v I.n P W ub) := hm8
        have hc0 := hm8.c0
        have hcl : w8.cell? ⟨I.c, k, none⟩ = some (.int .i64 (clsO (P k))) := hm8.cl.cell hk
        have hf1 := hm8.cl.frozen k
        generalize clsO (P k) = cv at *
        clear hm8
        go_upto_region 39 with (fail)
        go_cut [] from 227 to 234 (fun wk => ∃ q, wk = (w8.drewN q).setCell ⟨I.c, k, none⟩ (.int .i64 nn))
        case first => as_aux_lemma =>
          go_region
          all_goals
            go_wp2
            go_meet
            case rel => exact ⟨_, rfl⟩
        case rest => as_aux_lemma =>
          obtain ⟨q, hw9⟩ := hcut
          obtain ⟨w9, hw10⟩ : ∃ w9, w9 = wc := ⟨_, rfl⟩
          subst hw10
          have HB9 : Hid (But I.c w8 w9) := by rw [hw9]; exact ((But.refl _ _).drewN q).setCell k _
          have HC9 : Hid (MdC w9 w.heap.size I.m I.c I.u I.v I.n P W ub k nn) := by rw [hw9]; exact (HM8.out.drewN q).setC k nn (fun e => H8.out.ro.d3 e.symm)
          have HO9 : Hid (w9.rowIs ob 40 4 (opC 1 nn vv nr)) := HB9.out.row H8.out.op.hd (by have := H8.out.ol; have := H8.out.ro.l3; omega)
          clear hw9 ho1 hc0 hcl hf1
          obtain ⟨pn, hpn⟩ : ∃ pn, pn = (slN nn).toNat := ⟨_, rfl⟩
          have HPN : Hid ((slN nn).toNat = pn) := hpn.symm
          clear HZ HG hpn
          have ho1 : w9.cell? ⟨ob, 1, none⟩ = some (.int .i64 nn) := HO9.out.cell (i := 1) (by decide)
          have hc1 : w9.cell? ⟨I.m, 1, none⟩ = some (.slice (some ⟨I.u, 0, none⟩) I.n I.n) := HC9.out.hd.cell (i := 1) (by decide)
          have hcu : w9.cell? ⟨I.u, k, none⟩ = some (usO (P k) (ub k)) := HC9.out.us.cell hk
          have hf2 := HC9.out.us.frozen k
          have hl1 := HC9.out.us.lt
          have hl2 := HC9.out.hd.lt
          have hl3 := HO9.out.lt
          generalize usO (P k) (ub k) = uv at *
          have HF : Hid (∀ w10, Below w9.heap.size w9.drew w10 → w10.cell? ⟨ob, 1, none⟩ = some (.int .i64 nn) ∧ w10.cell? ⟨I.m, 1, none⟩ = some (.slice (some ⟨I.u, 0, none⟩) I.n I.n) ∧ w10.cell? ⟨I.u, k, none⟩ = some uv ∧ w10.frozen? ⟨I.u, k, none⟩ = false ∧ I.u < w10.heap.size ∧ I.m < w10.heap.size ∧ (w10.alloc (.cells (madeCells #[.bool false] pn) 4)).cell? ⟨ob, 1, none⟩ = some (.int .i64 nn) ∧ (w10.alloc (.cells (madeCells #[.bool false] pn) 4)).cell? ⟨I.m, 1, none⟩ = some (.slice (some ⟨I.u, 0, none⟩) I.n I.n) ∧ ((w10.setCell ⟨I.u, k, none⟩ (.slice (some ⟨w10.heap.size, 0, none⟩) pn pn)).alloc (.cells (madeCells #[.bool false] pn) 4)).cell? ⟨ob, 1, none⟩ = some (.int .i64 nn) ∧ ((w10.setCell ⟨I.u, k, none⟩ (.slice (some ⟨w10.heap.size, 0, none⟩) pn pn)).alloc (.cells (madeCells #[.bool false] pn) 4)).cell? ⟨I.m, 1, none⟩ = some (.slice (some ⟨I.u, 0, none⟩) I.n I.n)) := by
            intro w10 hB
            have hB' : Below w9.heap.size w9 w10 := ⟨hB.os, hB.tape, hB.output, hB.size, hB.block⟩
            have c10 := HC9.out.below hB'
            have c11 := c10.below ((Below.refl _ _).alloc (Nat.le_refl _) (.cells (madeCells #[.bool false] pn) 4))
            have r10 : w10.rowIs ob 40 4 (opC 1 nn vv nr) := HO9.out.of_block (hB'.block _ hl3)
            have r11 : (w10.alloc (.cells (madeCells #[.bool false] pn) 4)).rowIs ob 40 4 (opC 1 nn vv nr) := r10.alloc _
            have g := (But.refl I.u (w10.alloc (.cells (madeCells #[.bool false] pn) 4))).setCell k (.slice (some ⟨w10.heap.size, 0, none⟩) pn pn)
            have r12 := g.row r11 (row_ne r11 c11.us (by decide))
            have m12 := g.row c11.hd (row_ne c11.hd c11.us (by decide))
            rw [World.setCell_alloc_past _ _ _ _ c10.us.lt] at r12 m12
            exact ⟨r10.cell (i := 1) (by decide), c10.hd.cell (i := 1) (by decide), (hB'.cell (p := ⟨I.u, k, none⟩) hl1).trans hcu, c10.us.frozen k, c10.us.lt, c10.hd.lt, r11.cell (i := 1) (by decide), c11.hd.cell (i := 1) (by decide), r12.cell (i := 1) (by decide), m12.cell (i := 1) (by decide)⟩
          have HS : Hid (∀ w10, Below w9.heap.size w9.drew w10 → RP w ((w10.setCell ⟨I.u, k, none⟩ (.slice (some ⟨w10.heap.size, 0, none⟩) pn pn)).alloc (.cells (madeCells #[.bool false] pn) 4)) I (upP P k (some ⟨b, nn, ff, ff⟩)) W (upP P k (some ⟨b, nn, ff, ff⟩)) W ob 1 nn vv nr) := by
            intro w10 hB
            have hsz : w.heap.size ≤ w9.heap.size := Nat.le_trans H8.out.ro.lo.size HB9.out.size
            have hB' : Below w9.heap.size w9 w10 := ⟨hB.os, hB.tape, hB.output, hB.size, hB.block⟩
            have c10 := HC9.out.below hB'
            have c11 := c10.below ((Below.refl _ _).alloc (Nat.le_refl _) (.cells (madeCells #[.bool false] pn) 4))
            have hrow : (w10.alloc (.cells (madeCells #[.bool false] pn) 4)).rowIs w10.heap.size 4 (slN nn).toNat (fun _ => .bool false) := by rw [HPN.out]; exact World.rowIs_made w10 (.bool false) pn 4
            have hs10 : w9.heap.size ≤ w10.heap.size := hB.size
            have hfin := MdC.fin (blk := b) HM8.out c11 hk HP.out HC.out.1 HC.out.2 hrow (fun j p e => by have := (HC9.out.ur j p e).lt; omega) (by omega)
            rw [HPN.out] at hfin
            rw [← World.setCell_alloc_past _ _ _ _ c10.us.lt]
            refine H8.out.model hfin ?_
            have f1 : Fix w.heap.size [I.c, I.u, I.v] [4] w8 w9 := Fix.of_but HB9.out (by simp)
            have f2 : Fix w.heap.size [I.c, I.u, I.v] [4] w9 w10 := Fix.of_below hB'
            have f3 : Fix w.heap.size [I.c, I.u, I.v] [4] w10 (w10.alloc (.cells (madeCells #[.bool false] pn) 4)) := Fix.of_below ((Below.refl w10.heap.size w10).alloc (Nat.le_refl _) (.cells (madeCells #[.bool false] pn) 4))
            exact ((f1.trans f2).trans f3).trans (Fix.of_but ((But.refl I.u _).setCell k _) (by simp))
          clear HM8 H8 HB9
          have hpn32 : pn ≤ 32 := by have := slN_le nn; have := HPN.out; omega
          have hmk := run_make_row' (P := Tryd.prog) 43 4 (.bool false) 1 Tryd.underlying43 Tryd.info4 rfl .i64 .i64 pn (by omega) (by omega)
          have hwn : IntKind.i64.wrap ((pn : Nat) : Int) = ((pn : Nat) : Int) := by rw [IntKind.wrap_i64]; omega
          rcases sz_eight HC.out.1 HC.out.2 with hz | hz | hz | hz | hz | hz | hz | hz
          all_goals
            have HZS : Hid (szN nn = _) := hz.1
            have hpq := HPN.out
            rw [hz.2] at hpq
            simp at hpq
            subst hpq
            clear hz HPN hpn32
            simp only [Int.cast_ofNat_Int] at hmk hwn
            go_upto_region 40 with (fail)
            go_region_held3 (fun w' => w'.cell? ⟨ob, 1, none⟩ = some (.int .i64 nn) ∧ w'.cell? ⟨I.m, 1, none⟩ = some (.slice (some ⟨I.u, 0, none⟩) I.n I.n)) (first | (exact ⟨ho1', hc1'⟩) | (exact ⟨ho1'', hc1''⟩) | (exact ⟨ho13, hc13⟩) | go_keep) (first | (go_at_call 8; refine (refSize_any' HZS.out _).mono ?_; rintro e w10 ⟨rfl, hB10⟩; obtain ⟨ho1', hc1', hcu', hf2', hl1', hl2', ho1'', hc1'', ho13, hc13⟩ := HF.out _ hB10))
            all_goals
              go_wp2
              exact ⟨rfl, ⟨by kernel_rfl, rfl, rfl, rfl, rfl, rfl, rfl, rfl, rfl, rfl, rfl, rfl⟩, rfl, _, _, HS.out _ (by assumption)⟩
    · obtain ⟨t', rfl⟩ : ∃ t', t = t' + 1 := ⟨t - 1, by omega⟩
      rw [show (((t' + 1 : Nat) : Int) - 1) = (t' : Int) from by omega]
      have hc0 := HM.out.c0
      have htI : (t' : Int) < (I.n : Int) := by omega
      have hcl : wr.cell? ⟨I.c, t', none⟩ = some (.int .i64 (clsO (P t'))) := HM.out.cl.cell (by omega)
      clear ht0 HM
      cases hp : P t' with
      | none =>
        rw [hp] at hcl
        change wr.cell? ⟨I.c, t', none⟩ = some (.int .i64 (-1)) at hcl
        cases g
        · as_aux_lemma =>
          have HN : Hid (IsLeast (bsy P false) I.n t' y) := HL.out.stay (by simp [bsy])
          have hg : ¬ 0 < z := by simpa using HG.out
          clear hp HL
          go_wp2_with fail
          refine (refSize_any' HZ.out _).mono ?_
          rintro e w7 ⟨rfl, hB⟩
          have H7 : Hid (RP w w7 I P W P W ob 1 nn vv nr) := HR.out.below hB
          clear hB
          go_wp2_with fail
          go_roundw
          case rel => exact ⟨t', y, by omega, by go_num, rfl, HN.out, H7.out⟩
          case measure => simp [intOf]
        · as_aux_lemma =>
          have HN : Hid (IsLeast (bsy P true) I.n t' (t' : Int)) := IsLeast.here (by omega) (by simp [bsy, hp])
          have hg : 0 < z := by simpa using HG.out
          clear hp HL
          go_wp2_with fail
          refine (refSize_any' HZ.out _).mono ?_
          rintro e w7 ⟨rfl, hB⟩
          have H7 : Hid (RP w w7 I P W P W ob 1 nn vv nr) := HR.out.below hB
          clear hB
          go_wp2_with fail
          go_roundw
          case rel => exact ⟨t', (t' : Int), by omega, by go_num, rfl, HN.out, H7.out⟩
          case measure => simp [intOf]
      | some p => as_aux_lemma =>
        rw [hp] at hcl
        change wr.cell? ⟨I.c, t', none⟩ = some (.int .i64 p.c) at hcl
        have hpc : 0 ≤ p.c := by
          obtain ⟨ub, hmd⟩ := HR.out.ro.md
          exact (hmd.ok t' p hp).1
        have HN : Hid (IsLeast (bsy P g) I.n t' y) := HL.out.stay (by simp [bsy, hp])
        clear hp HL
        generalize p.c = pc at *
        go_wp2_with fail
        go_roundw
        case rel => exact ⟨t', y, by omega, by go_num, rfl, HN.out, HR.out⟩
        case measure => simp [intOf]
end

end Go.Proofs.YtjpeppflldmffaaDoor

/- The walk of the Heap's SweepPage. -/
import Derived.Test.YtfkimmbnmcgjiaaDoorHpM
namespace Go.Proofs.YtfkimmbnmcgjiaaDoor
open Go.RowKit

theorem step_delete {P : Program} {ops : Array Oper} {o : Oper} {a : Act} {w : World} {K : Act → World → Prop} {Q : Exit → Act → World → Prop} {E : Prop} (hg : o.guard = none) (x y : Operand) (t u : TypeId)
    (ho : o.op = Op.call { callee := Callee.builtin .delete, args := #[x, y], argTypes := #[t, u] }) (vx vy : Value) (hx : a.eval x = vx) (hy : a.eval y = vy) (w' : World) (hrun : ∀ ty, (Builtin.delete_ #[t, u] ty #[vx, vy]).run P w = .ok (.tuple #[]) w')
    (hK : K (a.put o.dst (.tuple #[])) w') : if Region.wanted o (yielded ops a.tmps) = true then Oper.wp P o a w K Q else E := by
  have hw : Region.wanted o (yielded ops a.tmps) = true := by simp [Region.wanted, hg]
  rw [if_pos hw]
  unfold Oper.wp
  simp [execOp, ho, resolve, invoke, builtin, hx, hy, hrun, Result.andThen]
  exact hK

section
variable {w : World} {B : Nat} {b : Hb} {n : Nat} {nf : List Int} {s : Hs}

theorem MpAt.drop_all {bm m : Nat} {O : Nat → Nat → Option Ob} (h : MpAt w bm m O) {k x : Nat} (hk : k ≤ 3000000) (hx : x ≤ 3000000) :
    ∃ w', (∀ ty, (Builtin.delete_ #[55, 61] ty #[.map (some bm), .agg #[.int .i64 k, .int .i64 x]]).run Tryd.prog w = .ok (.tuple #[]) w') ∧ MpAt w' bm m (upO O k x none) ∧ But bm w w' := by
  obtain ⟨w', h1, h2, h3⟩ := h.drop hk hx 0
  refine ⟨w', fun ty => ?_, h2, h3⟩
  obtain ⟨w2, g1, _⟩ := h.drop hk hx ty
  have e : (Builtin.delete_ #[55, 61] ty #[.map (some bm), plV k x]).run Tryd.prog w = (Builtin.delete_ #[55, 61] 0 #[.map (some bm), plV k x]).run Tryd.prog w := rfl
  exact e.trans h1

/-- What is read of the map (without ok) while nothing but new memory is laid. -/
theorem obs_keep2 (h : HpAt w B b n nf s) {k x : Nat} (hk : k ≤ 3000000) (hx : x ≤ 3000000) {o : Ob} (ho : s.O k x = some o) {g : Nat} (c0 : w.cell? ⟨g, 0, none⟩ = some (.int .i64 k)) (c1 : w.cell? ⟨g, 1, none⟩ = some (.int .i64 x)) {w' : World} (hb : Below w.heap.size w w') :
    w'.cell? ⟨b.bh, 2, none⟩ = some (.map (some b.bm)) ∧ w'.cell? ⟨g, 0, none⟩ = some (.int .i64 k) ∧ w'.cell? ⟨g, 1, none⟩ = some (.int .i64 x) ∧ (Instr.lookup 55 (.map (some b.bm)) (.agg #[.int .i64 k, .int .i64 x]) false).run Tryd.prog w' = .ok (.agg #[.int .i64 o.sh, .int .i64 o.se, .int .i64 o.co]) w' := by
  have hg : g < w.heap.size := World.block_lt_of_cell? _ _ c0
  refine ⟨(hb.cell (p := ⟨b.bh, 2, none⟩) h.hd.lt).trans h.c2, (hb.cell (p := ⟨g, 0, none⟩) hg).trans c0, (hb.cell (p := ⟨g, 1, none⟩) hg).trans c1, ?_⟩
  have := ((h.mp.below hb).look hk hx).2
  rw [ho] at this
  exact this

theorem ar_but {w w' : World} {B ba bp bw n bm m : Nat} {P : Nat → Option PSt} {W : Nat → Int} {O : Nat → Nat → Option Ob} (a : ArAt w B ba bp bw n P W) (hb : But bm w w') (hm : MpAt w bm m O) : ArAt w' B ba bp bw n P W :=
  ⟨hb.row a.hd (hm.no_row a.hd), hb.row a.pr (hm.no_row a.pr), hb.row a.wo (hm.no_row a.wo), fun k p e => (a.pg k p e).row (hb.row (a.pg k p e).hd (hm.no_row (a.pg k p e).hd)), a.ap, a.out, a.n64, a.b0, a.b1, a.b2, a.b3⟩
/-- What was laid later is none of the Heap's blocks. -/
theorem sweep_new (h : HpAt w B b n nf s) {x : Nat} (hx : w.heap.size ≤ x) : x ∉ [b.bh, b.bm, b.bp, b.bw] := by
  have h1 := h.hd.lt
  have h2 := h.mp.lt
  have h3 := h.ar.pr.lt
  have h4 := h.ar.wo.lt
  simp
  omega

/-- A cell of an object of its own is changed: the Heap stays. -/
theorem HpAt.own_set (h : HpAt w B b n nf s) {g : Nat} {f : Nat → Value} (r : w.rowIs g 59 3 f) {w' : World} (hb : But g w w') : HpAt w' B b n nf s := by
  have n1 : b.bh ≠ g := row_ne h.hd r (by decide)
  have hfs : w'.ownsRow B 3 1 b.vf nf.length (nf.map (Value.int .i64)) := by
    obtain ⟨c, hc, _⟩ := r
    obtain ⟨h1, h2⟩ := h.fs
    refine ⟨h1, ?_⟩
    rcases h2 with h2 | ⟨g2, cap, cur, hv, hg, hh, r2⟩
    · exact Or.inl h2
    · obtain ⟨hlt, _⟩ := Array.getElem?_eq_some_iff.1 hh
      refine Or.inr ⟨g2, cap, cur, hv, hg, (hb.block g2 hlt (fun e => ?_)).trans hh, r2⟩
      rw [e, hc] at hh
      cases hh
  have har : ArAt w' B b.ba b.bp b.bw n s.P s.W := ⟨hb.row h.ar.hd (row_ne h.ar.hd r (by decide)), hb.row h.ar.pr (row_ne h.ar.pr r (by decide)), hb.row h.ar.wo (row_ne h.ar.wo r (by decide)), fun k p e => (h.ar.pg k p e).row (hb.row (h.ar.pg k p e).hd (row_ne (h.ar.pg k p e).hd r (by decide))), h.ar.ap, h.ar.out, h.ar.n64, h.ar.b0, h.ar.b1, h.ar.b2, h.ar.b3⟩
  exact ⟨hb.row h.hd n1, har, hfs, h.mp.of_block (hb.block _ h.mp.lt (fun e => h.mp.no_row r e.symm)), h.fw, h.use, h.fit, h.small, h.few, h.bB, h.mB, h.ser9, h.giv9⟩
theorem set_oth {w : World} {g h i j : Nat} {v u : Value} (hn : ¬ (h = g ∧ i = j)) (hc : w.cell? ⟨h, i, none⟩ = some u) : (w.setCell ⟨g, j, none⟩ v).cell? ⟨h, i, none⟩ = some u := by
  have hne : (⟨g, j, none⟩ : Addr) ≠ ⟨h, i, none⟩ := by intro e; cases e; exact hn ⟨rfl, rfl⟩
  exact (World.cell?_setCell_other w _ _ v hne).trans hc
theorem six_cells (h : HpAt w B b n nf s) {g g8 : Nat} {f : Nat → Value} (r : w.rowIs g 59 3 f) (_ : g8 ≠ g) {k y : Int} (c0 : w.cell? ⟨g8, 0, none⟩ = some (.int .i64 k)) (c1 : w.cell? ⟨g8, 1, none⟩ = some (.int .i64 y)) {o : Ob} (hc : Oc w g o) :
    (w.setCell ⟨g, 2, none⟩ (.int .i64 0)).cell? ⟨b.bh, 2, none⟩ = some (.map (some b.bm)) ∧ (w.setCell ⟨g, 2, none⟩ (.int .i64 0)).cell? ⟨g8, 0, none⟩ = some (.int .i64 k) ∧ (w.setCell ⟨g, 2, none⟩ (.int .i64 0)).cell? ⟨g8, 1, none⟩ = some (.int .i64 y) ∧ (w.setCell ⟨g, 2, none⟩ (.int .i64 0)).cell? ⟨g, 0, none⟩ = some (.int .i64 o.sh) ∧ (w.setCell ⟨g, 2, none⟩ (.int .i64 0)).cell? ⟨g, 1, none⟩ = some (.int .i64 o.se) ∧ (w.setCell ⟨g, 2, none⟩ (.int .i64 0)).cell? ⟨g, 2, none⟩ = some (.int .i64 0) := by
  have n1 : b.bh ≠ g := row_ne h.hd r (by decide)
  have hg := r.lt
  refine ⟨set_oth (by omega) h.c2, set_oth (by omega) c0, set_oth (by omega) c1, set_oth (by omega) hc.c0, set_oth (by omega) hc.c1, ?_⟩
  exact World.cell?_setCell_same w _ _ hc.c2
/-- What was laid behind w1 may change. -/
theorem Hf.own_set {w1 w w' : World} (h : Hf B b w1 w) {g : Nat} (hg : w1.heap.size ≤ g) (hb : But g w w') : Hf B b w1 w' :=
  ⟨hb.os.trans h.os, hb.tape.trans h.tape, hb.output.trans h.output, Nat.le_trans h.size hb.size, fun i hi hX ht => (hb.block i (Nat.lt_of_lt_of_le hi h.size) (by omega)).trans (h.block i hi hX ht)⟩
/-- The cells of an object of its own. -/
def obC (o : Ob) (i : Nat) : Value := if i = 0 then .int .i64 o.sh else if i = 1 then .int .i64 o.se else .int .i64 o.co
theorem obC_row (w8 : World) (o : Ob) : (w8.alloc (.cells #[.int .i64 o.sh, .int .i64 o.se, .int .i64 o.co] 59)).drew.rowIs w8.heap.size 59 3 (obC o) := by
  have h := World.rowIs_alloc w8 #[.int .i64 o.sh, .int .i64 o.se, .int .i64 o.co] 59 (obC o) (by
    intro i hi
    have hi' : i < 3 := hi
    have : i = 0 ∨ i = 1 ∨ i = 2 := by omega
    rcases this with rfl | rfl | rfl <;> rfl)
  exact h

set_option maxRecDepth 100000 in
set_option maxHeartbeats 4000000 in
theorem sweep_core (h : HpAt w B b n nf s) {k : Nat} {p : PSt} (hp : s.P k = some p) :
    Calls Tryd.prog 13 #[.pointer (some ⟨b.bh, 0, none⟩), .int .i64 k] w fun e w' => e = .returned (.int .i64 (cnt (whiteB s k) p.n)) ∧ HpAt w' B b n nf (s.swept k p) ∧ Hf B b w w' := by
  have hc0 := h.c0
  have H : Hid (HpAt w B b n nf s) := h
  have HP : Hid (s.P k = some p) := hp
  have hk : k < 64 := Nat.lt_of_lt_of_le (h.ar.klt hp) h.ar.n64
  have hn32 : p.n ≤ 32 := (h.ar.num hp).n32
  clear h hp
  go_enter Tryd.func13, Tryd.ntmps13
  go_wp2_with fail
  refine (page_some k _ H.out.ar HP.out).mono ?_
  rintro e w' ⟨rfl, rfl⟩
  go_wp2_with fail
  refine (all_any _ (H.out.ar.pg k p HP.out)).mono ?_
  rintro e w1 ⟨r, rfl, hor, hB1⟩
  obtain ⟨ar, cr, rfl⟩ := own_len hor
  have HO1 : Hid (w1.ownsRow w'.heap.size 3 1 (.slice ar (cnt p.U p.n) cr) (cnt p.U p.n) ((els p.U p.n).map (Value.int .i64)) ∧ Below w'.heap.size w' w1) := ⟨hor, hB1⟩
  have hN : cnt p.U p.n ≤ 32 := Nat.le_trans (cnt_le _ _) hn32
  have H1 : Hid (HpAt w1 B b n nf s) := H.out.below hB1
  clear hor hB1 hc0
  generalize hNN : cnt p.U p.n = N at *
  have HNN : Hid (cnt p.U p.n = N) := hNN
  clear hNN
  go_wp2_with fail
  go_loopw [5, 20] (fun gv iv wr => ∃ i t : Nat, i ≤ N ∧ iv = .int .i64 i ∧ gv = .int .i64 (cnt (whiteB s k) t) ∧ t ≤ 32 ∧ Hid (cnt p.U t = i ∧ t ≤ p.n) ∧ Hid (HpAt wr B b n nf (s.sw k p t) ∧ Hf B b w1 wr))
    (fun _ iv _ => N - (intOf iv).toNat)
  case atStart => exact ⟨0, 0, Nat.zero_le _, rfl, rfl, by omega, ⟨rfl, Nat.zero_le _⟩, by rw [sw_zero s HP.out]; exact ⟨H1.out, Fz.refl _ _ _ _⟩⟩
  case round =>
    obtain ⟨i, t, hi, rfl, rfl, ht32, HC, HR⟩ := hrel
    by_cases hlt : i < N
    · obtain ⟨y, hy1, hy2, hy3, hy4⟩ := els_at p.U p.n i (by rw [HNN.out]; exact hlt)
      obtain ⟨e1, e2⟩ := sw_step H1.out HP.out (HC.out.1.trans hy4.symm) hy2
      rw [e2]
      have HRy : Hid (HpAt wr B b n nf (s.sw k p y) ∧ Hf B b w1 wr) := by rw [← e1]; exact HR.out
      obtain ⟨o, ho⟩ := Option.isSome_iff_exists.1 ((H1.out.use k y).2 ⟨p, HP.out, hy1, hy2⟩)
      have HOo : Hid (s.O k y = some o) := ho
      have HOy : Hid ((s.sw k p y).O k y = some o) := by
        show swO s k y k y = some o
        unfold swO
        rw [if_neg (by omega), ho]
      have HY : Hid (y < p.n ∧ p.U y = true ∧ cnt p.U y = i) := ⟨hy1, hy2, hy4⟩
      have hy32 : y < 32 := by omega
      have hlenN : (els p.U p.n).length = N := by rw [els_len, HNN.out]
      have ho9 := HRy.out.2.own HO1.out.1 (fun x hx => sweep_new H.out (HO1.out.1.lt x hx).1) (by decide)
      rw [← hlenN] at ho9
      have hsrc := src_of_own ho9
      clear ho9
      clear e1 e2 ho hy1 hy2 hy4 HR HC ht32 t
      rcases hsrc with ⟨e, _⟩ | ⟨gl, off, cc, e, hgl, hcl0⟩
      · exfalso
        rw [e] at hlenN
        simp at hlenN
        omega
      · have hcl := hcl0 i (by omega)
        rw [hy3] at hcl
        clear hcl0
        cases e
        clear hy3
        have hbhl := HRy.out.1.hd.lt
        go_upto_region 8 with (fail)
        have H8 : Hid (HpAt (wr.alloc (.cells #[.int .i64 (k : Int), .int .i64 (y : Int)] 61)) B b n nf (s.sw k p y) ∧ Hf B b w1 (wr.alloc (.cells #[.int .i64 (k : Int), .int .i64 (y : Int)] 61))) := ⟨HRy.out.1.below ((Below.refl _ _).alloc (Nat.le_refl _) _), HRy.out.2.trans (Fz.of_below ((Below.refl _ _).alloc (Nat.le_refl _) _))⟩
        have HP8 : Hid ((wr.alloc (.cells #[.int .i64 (k : Int), .int .i64 (y : Int)] 61)).cell? ⟨wr.heap.size, 0, none⟩ = some (.int .i64 (k : Int)) ∧ (wr.alloc (.cells #[.int .i64 (k : Int), .int .i64 (y : Int)] 61)).cell? ⟨wr.heap.size, 1, none⟩ = some (.int .i64 (y : Int))) := by
          constructor <;> simp
        generalize wr.alloc (.cells #[.int .i64 (k : Int), .int .i64 (y : Int)] 61) = w8 at *
        generalize wr.heap.size = g8 at *
        clear HRy hcl hgl hbhl
        go_region_held3 (fun w' => w'.cell? ⟨b.bh, 2, none⟩ = some (.map (some b.bm)) ∧ w'.cell? ⟨g8, 0, none⟩ = some (.int .i64 (k : Int)) ∧ w'.cell? ⟨g8, 1, none⟩ = some (.int .i64 (y : Int)) ∧ (Instr.lookup 55 (.map (some b.bm)) (.agg #[.int .i64 k, .int .i64 y]) false).run Tryd.prog w' = .ok (.agg #[.int .i64 o.sh, .int .i64 o.se, .int .i64 o.co]) w')
          (first | (refine obs_keep2 H8.out.1 (by omega) (by omega) HOy.out HP8.out.1 HP8.out.2 ?_; first | exact (Below.refl _ _).drew | exact ((Below.refl _ _).drew).alloc (Nat.le_refl _) _))
          (fail)
        all_goals
          rename_i hHeld
          clear hHeld
          have HB9 : Hid (Below w8.heap.size w8 (w8.alloc (.cells #[.int .i64 o.sh, .int .i64 o.se, .int .i64 o.co] 59)).drew) := ((Below.refl _ _).alloc (Nat.le_refl _) _).drew
          have H9 : Hid (HpAt (w8.alloc (.cells #[.int .i64 o.sh, .int .i64 o.se, .int .i64 o.co] 59)).drew B b n nf (s.sw k p y) ∧ Hf B b w1 (w8.alloc (.cells #[.int .i64 o.sh, .int .i64 o.se, .int .i64 o.co] 59)).drew) := ⟨H8.out.1.below HB9.out, H8.out.2.trans (Fz.of_below HB9.out)⟩
          have HC9 : Hid (Oc (w8.alloc (.cells #[.int .i64 o.sh, .int .i64 o.se, .int .i64 o.co] 59)).drew w8.heap.size o) := by
            refine ⟨?_, ?_, ?_⟩ <;> simp
          have hg8 : g8 < w8.heap.size := World.block_lt_of_cell? _ _ HP8.out.1
          have HP9 : Hid ((w8.alloc (.cells #[.int .i64 o.sh, .int .i64 o.se, .int .i64 o.co] 59)).drew.cell? ⟨g8, 0, none⟩ = some (.int .i64 (k : Int)) ∧ (w8.alloc (.cells #[.int .i64 o.sh, .int .i64 o.se, .int .i64 o.co] 59)).drew.cell? ⟨g8, 1, none⟩ = some (.int .i64 (y : Int))) := ⟨(HB9.out.cell (p := ⟨g8, 0, none⟩) hg8).trans HP8.out.1, (HB9.out.cell (p := ⟨g8, 1, none⟩) hg8).trans HP8.out.2⟩
          have HF9 : Hid ((w8.alloc (.cells #[.int .i64 o.sh, .int .i64 o.se, .int .i64 o.co] 59)).drew.frozen? ⟨w8.heap.size, 2, none⟩ = false) := by show _ = _; simp
          have HRW : Hid ((w8.alloc (.cells #[.int .i64 o.sh, .int .i64 o.se, .int .i64 o.co] 59)).drew.rowIs w8.heap.size 59 3 (obC o) ∧ w1.heap.size ≤ w8.heap.size ∧ g8 ≠ w8.heap.size) := ⟨obC_row w8 o, H8.out.2.size, by omega⟩
          generalize (w8.alloc (.cells #[.int .i64 o.sh, .int .i64 o.se, .int .i64 o.co] 59)).drew = w9 at *
          generalize w8.heap.size = g9 at *
          clear HB9 H8 HP8 hg8 w8
          have c2 := HC9.out.c2
          by_cases hw : o.co = 0
          · rw [hw] at c2
            go_upto_region 10 with (fail)
            obtain ⟨w10, hrun, hm10, hb10⟩ := (H9.out.1.mp.drewN 1).drop_all (k := k) (x := y) (by omega) (by omega)
            have HS9 : Hid (w9.cell? ⟨b.bh, 2, none⟩ = some (.map (some b.bm)) ∧ w9.cell? ⟨g8, 0, none⟩ = some (.int .i64 (k : Int)) ∧ w9.cell? ⟨g8, 1, none⟩ = some (.int .i64 (y : Int))) := ⟨H9.out.1.c2, HP9.out.1, HP9.out.2⟩
            have HS10 : Hid (w10.cell? ⟨b.bh, 2, none⟩ = some (.map (some b.bm)) ∧ w10.cell? ⟨g8, 0, none⟩ = some (.int .i64 (k : Int)) ∧ w10.cell? ⟨g8, 1, none⟩ = some (.int .i64 (y : Int))) := ⟨but_cell hb10 (H9.out.1.mp.drewN 1) H9.out.1.c2, but_cell hb10 (H9.out.1.mp.drewN 1) HP9.out.1, but_cell hb10 (H9.out.1.mp.drewN 1) HP9.out.2⟩
            have HD10 : Hid (MpAt w10 b.bm s.ser (upO (s.sw k p y).O k y none) ∧ But b.bm (w9.drewN 1) w10) := ⟨hm10, hb10⟩
            clear hm10 hb10
            go_region_held3 (fun w' => w'.cell? ⟨b.bh, 2, none⟩ = some (.map (some b.bm)) ∧ w'.cell? ⟨g8, 0, none⟩ = some (.int .i64 (k : Int)) ∧ w'.cell? ⟨g8, 1, none⟩ = some (.int .i64 (y : Int)))
              (first | exact HS9.out | exact HS10.out)
              (first | (refine step_delete (by rfl) _ _ _ _ (by rfl) _ _ (by rfl) (by rfl) w10 hrun ?_))
            rename_i hHeld
            clear hHeld HS9 HS10 hrun
            have HA10 : Hid (ArAt w10 B b.ba b.bp b.bw n (s.sw k p y).P s.W) := ar_but (H9.out.1.ar.drewN 1) HD10.out.2 (H9.out.1.mp.drewN 1)
            have hc10 : w10.cell? ⟨b.bh, 0, none⟩ = some (.pointer (some ⟨b.ba, 0, none⟩)) := but_cell HD10.out.2 (H9.out.1.mp.drewN 1) H9.out.1.c0
            have HI10 : Hid (InS (s.sw k p y).P ((adr k y p.sz : Nat) : Int) k y 0 ⟨p.blk, p.c, swS s k y p.U, swS s k y p.M⟩) := ⟨upP_same _ _ _, HY.out.1, by simp [swS, HY.out.2.1], (H1.out.ar.num HP.out).s1, rfl⟩
            have HBs : Hid (Calls Tryd.prog 33 #[.pointer (some ⟨b.ba, 0, none⟩), .int .i64 k, .int .i64 y] w10.drew fun e w' => e = .returned (.int .i64 (adr k y p.sz : Nat)) ∧ w' = w10.drew) := base_some k y _ (p := ⟨p.blk, p.c, swS s k y p.U, swS s k y p.M⟩) (HA10.out.drewN 1) (upP_same _ _ _) HY.out.1
            have had : adr k y p.sz < 1048576 + 2048 := by
              have h1 := slot_le (H1.out.ar.num HP.out).m HY.out.1
              have h2 := (H1.out.ar.num HP.out).s1
              unfold adr
              omega
            go_upto_region 11 with (fail)
            go_region_held3 (fun w' => w'.cell? ⟨b.bh, 0, none⟩ = some (.pointer (some ⟨b.ba, 0, none⟩)))
              (first | exact hc10 | exact hc11.out)
              (first
                | (go_at_call 33; refine HBs.out.mono ?_; rintro e w' ⟨rfl, rfl⟩)
                | (go_at_call 32; refine (afree_in _ _ (HA10.out.drewN 1) ⟨by omega, by omega⟩ HI10.out).mono ?_; rintro e w11 ⟨rfl, ha11, hb11⟩; have HE11 := HpAt.free (H9.out.1.drewN 1) (upP_same _ _ _) HD10.out.1 HD10.out.2 ha11 ⟨hb11.os, hb11.tape, hb11.output, hb11.size, hb11.block⟩; have HG11 : Hid (HpAt w11 B b n nf (s.sw k p (y + 1)) ∧ Hf B b w1 w11) := (by rw [← sw_free HOo.out hw]; exact ⟨HE11.1, H9.out.2.trans ⟨HE11.2.os, HE11.2.tape, HE11.2.output, HE11.2.size, HE11.2.block⟩⟩); have hc11 : Hid (w11.cell? ⟨b.bh, 0, none⟩ = some (.pointer (some ⟨b.ba, 0, none⟩))) := HG11.out.1.c0; clear HE11 ha11 hb11))
            rename_i hHeld
            clear hHeld hc11 hc10 HBs HI10 HA10 HD10 H9 HP9 HC9 c2 HF9
            have HCN : Hid (cnt (whiteB s k) (y + 1) = cnt (whiteB s k) y + 1) := by
              show cnt (whiteB s k) y + (if whiteB s k y then 1 else 0) = _
              rw [show whiteB s k y = true by simp [whiteB, HOo.out, hw]]
              rfl
            have hcl := cnt_le (whiteB s k) y
            have HCU : Hid (cnt p.U (y + 1) = i + 1 ∧ y + 1 ≤ p.n) := ⟨by show cnt p.U y + (if p.U y then 1 else 0) = _; rw [HY.out.2.1, HY.out.2.2]; rfl, HY.out.1⟩
            generalize cnt (whiteB s k) y = cw at *
            go_wp2_with fail
            go_roundw
            case rel => exact ⟨i + 1, y + 1, by omega, by go_num, by rw [HCN.out]; go_num, by omega, HCU, HG11⟩
            case measure => simp [intOf]; omega
          · have hf2 := HF9.out
            have hg9 : g9 < w9.heap.size := World.block_lt_of_cell? _ _ c2
            go_upto_region 14 with (fail)
            have HB13 : Hid (But g9 w9 (w9.setCell ⟨g9, 2, none⟩ (.int .i64 0))) := (But.refl _ _).setCell 2 _
            have H13 : Hid (HpAt (w9.setCell ⟨g9, 2, none⟩ (.int .i64 0)) B b n nf (s.sw k p y) ∧ Hf B b w1 (w9.setCell ⟨g9, 2, none⟩ (.int .i64 0))) := ⟨H9.out.1.own_set HRW.out.1 HB13.out, H9.out.2.own_set HRW.out.2.1 HB13.out⟩
            have HS13 : Hid ((w9.setCell ⟨g9, 2, none⟩ (.int .i64 0)).cell? ⟨b.bh, 2, none⟩ = some (.map (some b.bm)) ∧ (w9.setCell ⟨g9, 2, none⟩ (.int .i64 0)).cell? ⟨g8, 0, none⟩ = some (.int .i64 (k : Int)) ∧ (w9.setCell ⟨g9, 2, none⟩ (.int .i64 0)).cell? ⟨g8, 1, none⟩ = some (.int .i64 (y : Int)) ∧ (w9.setCell ⟨g9, 2, none⟩ (.int .i64 0)).cell? ⟨g9, 0, none⟩ = some (.int .i64 o.sh) ∧ (w9.setCell ⟨g9, 2, none⟩ (.int .i64 0)).cell? ⟨g9, 1, none⟩ = some (.int .i64 o.se) ∧ (w9.setCell ⟨g9, 2, none⟩ (.int .i64 0)).cell? ⟨g9, 2, none⟩ = some (.int .i64 0)) := six_cells H9.out.1 HRW.out.1 HRW.out.2.2 HP9.out.1 HP9.out.2 HC9.out
            generalize w9.setCell ⟨g9, 2, none⟩ (.int .i64 0) = w13 at *
            obtain ⟨w14, hrun, hm14, hb14⟩ := (show MpAt w13.drew b.bm s.ser (s.sw k p y).O from H13.out.1.mp.drewN 1).store (k := k) (s := y) (by omega) (by omega) ⟨o.sh, o.se, 0⟩ (by have := H13.out.1.ser9; exact Nat.le_trans this (by omega))
            unfold plV Ob.v at hrun
            have HS14 : Hid (w14.cell? ⟨b.bh, 2, none⟩ = some (.map (some b.bm)) ∧ w14.cell? ⟨g8, 0, none⟩ = some (.int .i64 (k : Int)) ∧ w14.cell? ⟨g8, 1, none⟩ = some (.int .i64 (y : Int)) ∧ w14.cell? ⟨g9, 0, none⟩ = some (.int .i64 o.sh) ∧ w14.cell? ⟨g9, 1, none⟩ = some (.int .i64 o.se) ∧ w14.cell? ⟨g9, 2, none⟩ = some (.int .i64 0)) := ⟨but_cell hb14 (H13.out.1.mp.drewN 1) HS13.out.1, but_cell hb14 (H13.out.1.mp.drewN 1) HS13.out.2.1, but_cell hb14 (H13.out.1.mp.drewN 1) HS13.out.2.2.1, but_cell hb14 (H13.out.1.mp.drewN 1) HS13.out.2.2.2.1, but_cell hb14 (H13.out.1.mp.drewN 1) HS13.out.2.2.2.2.1, but_cell hb14 (H13.out.1.mp.drewN 1) HS13.out.2.2.2.2.2⟩
            rw [HOy.out] at hm14
            have HG14 : Hid (HpAt w14 B b n nf (s.sw k p (y + 1)) ∧ Hf B b w1 w14) := by
              rw [← sw_keep HOo.out hw]
              exact ⟨(H13.out.1.drewN 1).setO (o' := ⟨o.sh, o.se, 0⟩) HOy.out rfl hm14 hb14, (H13.out.2.drewN 1).trans (Fz.of_but hb14 (by simp))⟩
            clear hm14 hb14 c2 hf2 HB13 H9 HP9 HC9 HF9
            go_region_held3 (fun w' => w'.cell? ⟨b.bh, 2, none⟩ = some (.map (some b.bm)) ∧ w'.cell? ⟨g8, 0, none⟩ = some (.int .i64 (k : Int)) ∧ w'.cell? ⟨g8, 1, none⟩ = some (.int .i64 (y : Int)) ∧ w'.cell? ⟨g9, 0, none⟩ = some (.int .i64 o.sh) ∧ w'.cell? ⟨g9, 1, none⟩ = some (.int .i64 o.se) ∧ w'.cell? ⟨g9, 2, none⟩ = some (.int .i64 0))
              (first | exact HS13.out | exact HS14.out)
              (fail)
            rename_i hHeld
            clear hHeld HS13 HS14 hrun H13
            have HCN : Hid (cnt (whiteB s k) (y + 1) = cnt (whiteB s k) y) := by
              show cnt (whiteB s k) y + (if whiteB s k y then 1 else 0) = _
              rw [show whiteB s k y = false by simp [whiteB, HOo.out, hw]]
              rfl
            have HCU : Hid (cnt p.U (y + 1) = i + 1 ∧ y + 1 ≤ p.n) := ⟨by show cnt p.U y + (if p.U y then 1 else 0) = _; rw [HY.out.2.1, HY.out.2.2]; rfl, HY.out.1⟩
            go_wp2_with fail
            go_roundw
            case rel => exact ⟨i + 1, y + 1, by omega, by go_num, by rw [HCN.out], by omega, HCU, HG14⟩
            case measure => simp [intOf]; omega
    · obtain ⟨e1, e2⟩ := sw_end H1.out HP.out (HC.out.1.trans (by rw [HNN.out]; omega)) HC.out.2
      rw [e2]
      have HRn : Hid (HpAt wr B b n nf (s.sw k p p.n) ∧ Hf B b w1 wr) := by rw [← e1]; exact HR.out
      have HF1 : Hid (Hf B b w' w1) := Fz.of_below HO1.out.2
      have hi' : i = N := by omega
      subst hi'
      clear e1 e2 HR HC H1 HO1
      have hc0 := HRn.out.1.c0
      have HQ : Hid ((s.sw k p p.n).P k = some ⟨p.blk, p.c, swS s k p.n p.U, swS s k p.n p.M⟩) := upP_same _ _ _
      have hcwl := cnt_le (whiteB s k) p.n
      generalize hcw : cnt (whiteB s k) p.n = cw at *
      have HCW : Hid (cnt (whiteB s k) p.n = cw) := hcw
      clear hcw
      by_cases hz : cnt (swS s k p.n p.U) p.n = 0
      · have HZ : Hid (cnt (swS s k p.n p.U) p.n = 0) := hz
        clear hz
        go_wp2_with fail
        refine (drop_yes _ HRn.out.1.ar HQ.out HZ.out).mono ?_
        rintro e w5 ⟨rfl, ha, hb⟩
        have HE : Hid (HpAt w5 B b n nf (s.swept k p) ∧ Hf B b w' w5) := by
          refine ⟨?_, (HF1.out.trans HRn.out.2).trans (Fz.of_but hb (by simp))⟩
          unfold Hs.swept
          rw [if_pos HZ.out]
          exact HRn.out.1.cut HQ.out HZ.out ha hb
        clear ha hb
        go_wp2_with fail
        go_ret
        exact ⟨Eq.trans (b := Ending.returned (.int .i64 (cw : Int))) rfl (by rw [HCW.out]), HE.out⟩
      · have HZ : Hid (cnt (swS s k p.n p.U) p.n ≠ 0) := hz
        clear hz
        go_wp2_with fail
        refine (drop_used _ HRn.out.1.ar HQ.out HZ.out).mono ?_
        rintro e w5 ⟨rfl, q, rfl⟩
        go_wp2_with fail
        go_ret
        refine ⟨Eq.trans (b := Ending.returned (.int .i64 (cw : Int))) rfl (by rw [HCW.out]), ?_, (HF1.out.trans HRn.out.2).drewN q⟩
        unfold Hs.swept
        rw [if_neg HZ.out]
        exact HRn.out.1.drewN q
theorem sweep_none (h : HpAt w B b n nf s) {k : Int} (hp : atI s.P k = none) :
    Calls Tryd.prog 13 #[.pointer (some ⟨b.bh, 0, none⟩), .int .i64 k] w fun e w' => e = .returned (.int .i64 0) ∧ Below w.heap.size w w' := by
  have hc0 := h.c0
  have H : Hid (HpAt w B b n nf s) := h
  clear h
  go_enter Tryd.func13, Tryd.ntmps13
  go_wp2_with fail
  refine (page_none _ _ H.out.ar hp).mono ?_
  rintro e w' ⟨rfl, rfl⟩
  go_wp2_with fail
  refine (all_nil _).mono ?_
  rintro e w1 ⟨rfl, rfl⟩
  go_wp2_with fail
  go_loopw [5, 20] (fun gv iv wr => gv = .int .i64 0 ∧ iv = .int .i64 0 ∧ Hid (wr = w1)) (fun _ _ _ => 0)
  case atStart => exact ⟨rfl, rfl, rfl⟩
  case round =>
    obtain ⟨rfl, rfl, HR⟩ := hrel
    have e1 := HR.out
    subst e1
    go_wp2_with fail
    refine (drop_none _ H.out.ar _ hp).mono ?_
    rintro e w5 ⟨rfl, q, rfl⟩
    go_wp2_with fail
    go_ret
    exact ⟨rfl, below_drewN (Below.refl _ _) q⟩
end

end Go.Proofs.YtfkimmbnmcgjiaaDoor

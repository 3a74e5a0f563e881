/- The walk of the Heap's Object. -/
import Derived.Test.YtfkimmbnmcgjiaaDoorHpG
namespace Go.Proofs.YtfkimmbnmcgjiaaDoor
open Go.RowKit

section
variable {w : World} {B : Nat} {b : Hb} {n : Nat} {nf : List Int} {s : Hs}

/-- An api.Object as a value. -/
def objV (ad sh se : Int) (f : Value) (mk : Bool) : Value := .agg #[.int .i64 ad, .int .i64 sh, .int .i64 se, f, .bool mk]

theorem object_nil (ad : Int) (w : World) : Calls Tryd.prog 18 #[.pointer none, .int .i64 ad] w fun e w' => e = .returned (.tuple #[objV 0 0 0 (.slice none 0 0) false, .bool false]) ∧ Below w.heap.size w w' := by
  have hB1 : Below w.heap.size w (w.alloc (.cells #[.int .i64 0, .int .i64 0, .int .i64 0, .slice none 0 0, .bool false] 44)) := (Below.refl _ _).alloc (Nat.le_refl _) _
  unfold objV
  go_enter Tryd.func18, Tryd.ntmps18
  go_wp2_with fail
  refine (obj_nil ad _).mono ?_
  rintro e w1 ⟨rfl, hB⟩
  have q : ∀ j : Nat, w1.cell? ⟨w.heap.size, j, none⟩ = (w.alloc (.cells #[.int .i64 0, .int .i64 0, .int .i64 0, .slice none 0 0, .bool false] 44)).cell? ⟨w.heap.size, j, none⟩ := fun j => hB.cell (p := ⟨w.heap.size, j, none⟩) (by simp)
  have f : ∀ j : Nat, w1.frozen? ⟨w.heap.size, j, none⟩ = (w.alloc (.cells #[.int .i64 0, .int .i64 0, .int .i64 0, .slice none 0 0, .bool false] 44)).frozen? ⟨w.heap.size, j, none⟩ := fun j => hB.frozen (p := ⟨w.heap.size, j, none⟩) (by simp)
  have q0 := q 0; have q1 := q 1; have q2 := q 2; have q3 := q 3; have q4 := q 4
  have f0 := f 0; have f1 := f 1; have f2 := f 2; have f3 := f 3; have f4 := f 4
  simp at q0 q1 q2 q3 q4 f0 f1 f2 f3 f4
  have hs1 := hB.size
  simp at hs1
  have hl1 : w.heap.size < w1.heap.size := by omega
  have HB : Hid (Below w.heap.size w w1) := hB1.trans (hB.mono (by simp))
  clear q f hB hB1
  go_wp2_with fail
  refine bodyPost_ret (v := .tuple #[.agg #[.int .i64 0, .int .i64 0, .int .i64 0, .slice none 0 0, .bool false], .bool false]) (by simp [results, go_sem, q0, q1, q2, q3, q4, hl1]) rfl ?_
  refine ⟨rfl, ?_⟩
  with_reducible exact (((((HB.out.setCell (Nat.le_refl _) _).setCell (Nat.le_refl _) _).setCell (Nat.le_refl _) _).setCell (Nat.le_refl _) _).setCell (Nat.le_refl _) _).alloc (by simp; omega) _
theorem object_no (h : HpAt w B b n nf s) {ad : Int} (hb : I64 ad) (hn : NoBeg s.P ad) : Calls Tryd.prog 18 #[.pointer (some ⟨b.bh, 0, none⟩), .int .i64 ad] w fun e w' => e = .returned (.tuple #[objV 0 0 0 (.slice none 0 0) false, .bool false]) ∧ Below w.heap.size w w' := by
  have hB1 : Below w.heap.size w (w.alloc (.cells #[.int .i64 0, .int .i64 0, .int .i64 0, .slice none 0 0, .bool false] 44)) := (Below.refl _ _).alloc (Nat.le_refl _) _
  have H : Hid (HpAt (w.alloc (.cells #[.int .i64 0, .int .i64 0, .int .i64 0, .slice none 0 0, .bool false] 44)) B b n nf s) := h.below hB1
  clear h
  unfold objV
  go_enter Tryd.func18, Tryd.ntmps18
  go_wp2_with fail
  refine (obj_no H.out hb hn).mono ?_
  rintro e w1 ⟨rfl, hB⟩
  have q : ∀ j : Nat, w1.cell? ⟨w.heap.size, j, none⟩ = (w.alloc (.cells #[.int .i64 0, .int .i64 0, .int .i64 0, .slice none 0 0, .bool false] 44)).cell? ⟨w.heap.size, j, none⟩ := fun j => hB.cell (p := ⟨w.heap.size, j, none⟩) (by simp)
  have f : ∀ j : Nat, w1.frozen? ⟨w.heap.size, j, none⟩ = (w.alloc (.cells #[.int .i64 0, .int .i64 0, .int .i64 0, .slice none 0 0, .bool false] 44)).frozen? ⟨w.heap.size, j, none⟩ := fun j => hB.frozen (p := ⟨w.heap.size, j, none⟩) (by simp)
  have q0 := q 0; have q1 := q 1; have q2 := q 2; have q3 := q 3; have q4 := q 4
  have f0 := f 0; have f1 := f 1; have f2 := f 2; have f3 := f 3; have f4 := f 4
  simp at q0 q1 q2 q3 q4 f0 f1 f2 f3 f4
  have hs1 := hB.size
  simp at hs1
  have hl1 : w.heap.size < w1.heap.size := by omega
  have HB : Hid (Below w.heap.size w w1) := hB1.trans (hB.mono (by simp))
  clear q f hB hB1
  go_wp2_with fail
  refine bodyPost_ret (v := .tuple #[.agg #[.int .i64 0, .int .i64 0, .int .i64 0, .slice none 0 0, .bool false], .bool false]) (by simp [results, go_sem, q0, q1, q2, q3, q4, hl1]) rfl ?_
  refine ⟨rfl, ?_⟩
  with_reducible exact (((((HB.out.setCell (Nat.le_refl _) _).setCell (Nat.le_refl _) _).setCell (Nat.le_refl _) _).setCell (Nat.le_refl _) _).setCell (Nat.le_refl _) _).alloc (by simp; omega) _

set_option maxRecDepth 100000 in
set_option maxHeartbeats 2000000 in
theorem object_yes (h : HpAt w B b n nf s) {ad : Int} (hb : I64 ad) {k x : Nat} {p : PSt} {o : Ob} (hi : InS s.P ad k x 0 p) (ho : s.O k x = some o) {j m : Nat} (hj : o.sh = (j : Int)) (hjl : j < nf.length) (hm : nf.getD j 0 = (m : Int)) :
    Calls Tryd.prog 18 #[.pointer (some ⟨b.bh, 0, none⟩), .int .i64 ad] w fun e w' => ∃ g, e = .returned (.tuple #[objV ad o.sh o.se (.slice (some ⟨g, 0, none⟩) m m) (!decide (o.co = 0)), .bool true]) ∧
      w.heap.size ≤ g ∧ w'.rowIs g 3 m (fun i => .int .i64 (s.W (32 * k + x * p.sz + i))) ∧ Below w.heap.size w w' := by
  obtain ⟨i0, hi0, hz0, hz1, hz2⟩ := info_parts Tryd.info3
  have hB1 : Below w.heap.size w (w.alloc (.cells #[.int .i64 0, .int .i64 0, .int .i64 0, .slice none 0 0, .bool false] 44)) := (Below.refl _ _).alloc (Nat.le_refl _) _
  have H1 : Hid (HpAt (w.alloc (.cells #[.int .i64 0, .int .i64 0, .int .i64 0, .slice none 0 0, .bool false] 44)) B b n nf s) := h.below hB1
  have HO : Hid (s.O k x = some o) := ho
  have HI : Hid (InS s.P ad k x 0 p) := hi
  have HJ : Hid (o.sh = (j : Int)) := hj
  have HM : Hid (nf.getD j 0 = (m : Int)) := hm
  have hsm := ins_small h hi
  obtain ⟨j', m', e1, _, e3, e4, e5, e6⟩ := h.sz_fit ho hi.hp
  have e7 : j' = j := by omega
  subst e7
  have e8 : m' = m := by omega
  subst e8
  have HSZ : Hid (m' ≤ p.sz) := e6
  clear h hi ho hj hm e1 e3 e6
  unfold objV
  go_enter Tryd.func18, Tryd.ntmps18
  go_wp2_with fail
  refine (obj_yes H1.out hb HI.out HO.out).mono ?_
  rintro e w1 ⟨rfl, hB⟩
  unfold Ob.v
  rw [HJ.out]
  have HB : Hid (Below w.heap.size w (w1.alloc (.cells #[.int .i64 (j' : Int), .int .i64 o.se, .int .i64 o.co] 59))) := (hB1.trans (hB.mono (by simp))).alloc (by have := hB.size; simp at this; omega) _
  have HH : Hid (HpAt (w1.alloc (.cells #[.int .i64 (j' : Int), .int .i64 o.se, .int .i64 o.co] 59)) B b n nf s) := (H1.out.below hB).below ((Below.refl _ _).alloc (Nat.le_refl _) _)
  have HOc : Hid (Oc (w1.alloc (.cells #[.int .i64 (j' : Int), .int .i64 o.se, .int .i64 o.co] 59)) w1.heap.size ⟨j', o.se, o.co⟩) := by
    refine ⟨?_, ?_, ?_⟩ <;> simp
  have hsz1 := hB.size
  simp at hsz1
  have HR5 : Hid ((w1.alloc (.cells #[.int .i64 (j' : Int), .int .i64 o.se, .int .i64 o.co] 59)).rowIs w.heap.size 44 5 (fun i => #[.int .i64 0, .int .i64 0, .int .i64 0, .slice none 0 0, .bool false].getD i undef)) := by
    have r0 := World.rowIs_alloc w #[.int .i64 0, .int .i64 0, .int .i64 0, .slice none 0 0, .bool false] 44 (fun i => #[.int .i64 0, .int .i64 0, .int .i64 0, .slice none 0 0, .bool false].getD i undef) (fun i hi => by
      have : i = 0 ∨ i = 1 ∨ i = 2 ∨ i = 3 ∨ i = 4 := by simp at hi; omega
      rcases this with rfl | rfl | rfl | rfl | rfl <;> rfl)
    exact (r0.of_block (hB.block _ r0.lt)).alloc _
  have hgl : w.heap.size < w1.heap.size ∧ w1.heap.size < (w1.alloc (.cells #[.int .i64 (j' : Int), .int .i64 o.se, .int .i64 o.co] 59)).heap.size := by simp; omega
  go_upto_region 4 with (fail)
  generalize w1.alloc (.cells #[.int .i64 (j' : Int), .int .i64 o.se, .int .i64 o.co] 59) = w3 at *
  generalize w1.heap.size = g2 at *
  clear hB hB1 H1 hsz1 w1
  obtain ⟨gf, cap, hv, hgf, hcf⟩ := HH.out.field hjl
  rw [HM.out] at hcf
  have hc1 : w3.cell? ⟨b.bh, 1, none⟩ = some (.slice (some ⟨gf, 0, none⟩) nf.length cap) := by rw [HH.out.c1, hv]
  have hjI : (j' : Int) < (nf.length : Int) := by omega
  have hbhl := HH.out.hd.lt
  have hmk := run_make_row' (P := Tryd.prog) 22 3 (.int .i64 0) 8 Tryd.underlying22 Tryd.info3 rfl .i64 .i64 m' (by omega) (by omega)
  have HB4 : Hid (Below w3.heap.size w3 (w3.alloc (.cells (madeCells #[.int .i64 0] m') 3)).drew) := ((Below.refl _ _).alloc (Nat.le_refl _) _).drew
  have HS3 : Hid (w3.cell? ⟨b.bh, 1, none⟩ = some (.slice (some ⟨gf, 0, none⟩) nf.length cap) ∧ w3.cell? ⟨g2, 0, none⟩ = some (.int .i64 (j' : Int)) ∧ w3.cell? ⟨gf, j', none⟩ = some (.int .i64 (m' : Int))) := ⟨hc1, HOc.out.c0, hcf⟩
  have HS4 : Hid ((w3.alloc (.cells (madeCells #[.int .i64 0] m') 3)).drew.cell? ⟨b.bh, 1, none⟩ = some (.slice (some ⟨gf, 0, none⟩) nf.length cap) ∧ (w3.alloc (.cells (madeCells #[.int .i64 0] m') 3)).drew.cell? ⟨g2, 0, none⟩ = some (.int .i64 (j' : Int)) ∧ (w3.alloc (.cells (madeCells #[.int .i64 0] m') 3)).drew.cell? ⟨gf, j', none⟩ = some (.int .i64 (m' : Int))) :=
    ⟨(HB4.out.cell (p := ⟨b.bh, 1, none⟩) hbhl).trans hc1, (HB4.out.cell (p := ⟨g2, 0, none⟩) hgl.2).trans HOc.out.c0, (HB4.out.cell (p := ⟨gf, j', none⟩) hgf).trans hcf⟩
  clear hc1 hcf
  go_region_held3 (fun w' => w'.cell? ⟨b.bh, 1, none⟩ = some (.slice (some ⟨gf, 0, none⟩) nf.length cap) ∧ w'.cell? ⟨g2, 0, none⟩ = some (.int .i64 (j' : Int)) ∧ w'.cell? ⟨gf, j', none⟩ = some (.int .i64 (m' : Int)))
    (first
      | exact HS3.out
      | exact HS4.out)
    (fail)
  rename_i hHeld
  clear hHeld HS3 HS4 hmk hgf hv
  have HRow : Hid ((w3.alloc (.cells (madeCells #[.int .i64 0] m') 3)).drew.rowIs w3.heap.size 3 m' (fun _ => .int .i64 0)) := World.rowIs_made w3 (.int .i64 0) m' 3
  generalize (w3.alloc (.cells (madeCells #[.int .i64 0] m') 3)).drew = w4 at *
  obtain ⟨g4, hg4⟩ : ∃ g4, g4 = w3.heap.size := ⟨_, rfl⟩
  rw [← hg4]
  have HG4 : Hid (g4 = w3.heap.size) := hg4
  rw [← hg4] at HRow
  clear hg4
  go_wp2_with fail
  go_loopw [30] (fun i wr => ∃ kk : Nat, kk ≤ m' ∧ i = .int .i64 kk ∧ Hid (wr.rowIs g4 3 m' (fun y => .int .i64 (if y < kk then s.W (32 * k + x * p.sz + y) else 0)) ∧ Below w3.heap.size w3 wr))
    (fun i _ => m' - (intOf i).toNat)
  case atStart => exact ⟨0, Nat.zero_le _, rfl, HRow.out.congr (fun y _ => by simp), HB4.out⟩
  case round =>
    obtain ⟨kk, hkk, rfl, HR⟩ := hrel
    have HHr : Hid (HpAt wr B b n nf s) := HH.out.below HR.out.2
    by_cases hlt : kk < m'
    · have hc0 := HHr.out.c0
      have hce := HR.out.1.cell hlt
      have hfr := HR.out.1.frozen kk
      have hg4l := HR.out.1.lt
      have HI2 : Hid (InS s.P (ad + (kk : Int)) k x kk p) := ins_field HI.out (by have := HSZ.out; omega)
      have hltI : (kk : Int) < (m' : Int) := by omega
      go_wp2_with fail
      refine (load_in (ad + (kk : Int)) _ HHr.out.ar ⟨by omega, by omega⟩ HI2.out).mono ?_
      rintro e w9 ⟨rfl, q, rfl⟩
      go_wp2_with fail
      have HN : Hid (((wr.drewN q).setCell ⟨g4, kk, none⟩ (.int .i64 (s.W (32 * k + x * p.sz + kk)))).rowIs g4 3 m' (fun y => .int .i64 (if y < kk + 1 then s.W (32 * k + x * p.sz + y) else 0)) ∧ Below w3.heap.size w3 ((wr.drewN q).setCell ⟨g4, kk, none⟩ (.int .i64 (s.W (32 * k + x * p.sz + kk))))) := by
        refine ⟨((show (wr.drewN q).rowIs g4 3 m' _ from HR.out.1).set kk _).congr (fun y _ => ?_), (below_drewN HR.out.2 q).setCell (by rw [HG4.out]; exact Nat.le_refl _) _⟩
        by_cases e : y = kk
        · subst e; simp
        · rw [if_neg e]
          by_cases e2 : y < kk
          · rw [if_pos e2, if_pos (by omega)]
          · rw [if_neg e2, if_neg (by omega)]
      go_roundw
      case rel => exact ⟨kk + 1, by omega, by go_num, HN⟩
      case measure => simp [intOf]; omega
    · have hw3 := HR.out.2.size
      have HRr := HR5.out.of_block (HR.out.2.block _ HR5.out.lt)
      have q0 := HRr.cell (i := 0) (by decide); have q1 := HRr.cell (i := 1) (by decide); have q2 := HRr.cell (i := 2) (by decide); have q3 := HRr.cell (i := 3) (by decide); have q4 := HRr.cell (i := 4) (by decide)
      have f0 := HRr.frozen 0; have f1 := HRr.frozen 1; have f2 := HRr.frozen 2; have f3 := HRr.frozen 3; have f4 := HRr.frozen 4
      obtain ⟨c0, c1, c2⟩ := HOc.out.below HR.out.2 hgl.2
      simp at q0 q1 q2 q3 q4
      have hl1 := HRr.lt
      clear HRr
      go_wp2_with fail
      refine bodyPost_ret (v := .tuple #[.agg #[.int .i64 ad, .int .i64 (j' : Int), .int .i64 o.se, .slice (some ⟨g4, 0, none⟩) m' m', .bool (!decide (o.co = 0))], .bool true]) (by simp [results, go_sem, q0, q1, q2, q3, q4]; rfl) rfl ?_
      have e1 : kk = m' := by omega
      subst e1
      have hs0 := HB.out.size
      have hg4 := HG4.out
      have hne : g4 ≠ w.heap.size := by have := hgl; omega
      refine ⟨g4, by rw [HJ.out], by omega, ?_, ?_⟩
      · with_reducible exact (((((HR.out.1.setOther (a := ⟨w.heap.size, 0, none⟩) hne _).setOther (a := ⟨w.heap.size, 1, none⟩) hne _).setOther (a := ⟨w.heap.size, 2, none⟩) hne _).setOther (a := ⟨w.heap.size, 3, none⟩) hne _).setOther (a := ⟨w.heap.size, 4, none⟩) hne _).congr (fun y hy => by rw [if_pos hy])
      · have hb9 : Below w.heap.size w wr := HB.out.trans (HR.out.2.mono (by omega))
        with_reducible exact ((((hb9.setCell (Nat.le_refl _) _).setCell (Nat.le_refl _) _).setCell (Nat.le_refl _) _).setCell (Nat.le_refl _) _).setCell (Nat.le_refl _) _
end

end Go.Proofs.YtfkimmbnmcgjiaaDoor

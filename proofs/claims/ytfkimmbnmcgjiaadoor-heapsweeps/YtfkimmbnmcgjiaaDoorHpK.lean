/- The walk of the Heap's Alloc where there is a slot. -/
import Derived.Test.YtfkimmbnmcgjiaaDoorHpJ
import Derived.BigRegion
namespace Go.Proofs.YtfkimmbnmcgjiaaDoor
open Go.RowKit

section
variable {w : World} {B : Nat} {b : Hb} {n : Nat} {nf : List Int} {s : Hs}

/-- What Alloc leaves. -/
def Hs.took (s : Hs) (j m : Nat) (bl : Bool) (k z : Nat) (p : PSt) : Hs :=
  ⟨upP s.P k (some ⟨p.blk, p.c, up p.U z true, p.M⟩), clrF s.W (32 * k + z * p.sz) p.sz, upO s.O k z (some ⟨j, s.ser + 1, if bl then 2 else 0⟩), s.ser + 1, s.giv + m⟩

set_option maxRecDepth 100000 in
set_option maxHeartbeats 4000000 in
theorem alloc_some (h : HpAt w B b n nf s) (j : Nat) (bl : Bool) (hj : j < nf.length) {m : Nat} (hm : nf.getD j 0 = (m : Int)) {k z : Nat} {p : PSt} (hf : NoFit s.P (ofN (nf.getD j 0)) k) (hi : Fit s.P (ofN (nf.getD j 0)) k z p) (hT : Tab w) (hser : s.ser < 2000000) :
    Calls Tryd.prog 9 #[.pointer (some ⟨b.bh, 0, none⟩), .int .i64 j, .bool bl] w fun e w' => e = .returned (.tuple #[.int .i64 (adr k z p.sz : Nat), .int .i64 0]) ∧
      HpAt w' B b n nf (s.took j m bl k z p) ∧ Hf B b w w' := by
  have hc0 := h.c0
  have hc1 := h.c1
  obtain ⟨g, cap, hv, hg, hc⟩ := h.field hj
  rw [hv] at hc1
  rw [hm] at hc
  have hjI : (j : Int) < (nf.length : Int) := by omega
  have hk : k < 64 := Nat.lt_of_lt_of_le (h.ar.klt hi.hp) h.ar.n64
  have hz : z < 32 := Nat.lt_of_lt_of_le hi.hz (h.ar.num hi.hp).n32
  have H : Hid (HpAt w B b n nf s) := h
  have HT : Hid (Tab w) := hT
  have HV : Hid (b.vf = .slice (some ⟨g, 0, none⟩) nf.length cap) := hv
  have HM : Hid (nf.getD j 0 = (m : Int)) := hm
  have hm16 : m ≤ 16 := by obtain ⟨f, e1, _, e2⟩ := h.sm hj; omega
  have hg16 := h.giv9
  obtain ⟨c, hcl⟩ : ∃ c, Hid (ofN (m : Int) = c) := ⟨_, rfl⟩
  have HF : Hid (NoFit s.P c k) := by rw [← hcl.out, ← hm]; exact hf
  have HI : Hid (Fit s.P c k z p) := by rw [← hcl.out, ← hm]; exact hi
  have HI0 : Hid (Fit s.P (ofN (nf.getD j 0)) k z p) := hi
  have hgb : b.bh < w.heap.size := h.hd.lt
  clear h hf hv hi hT hm
  go_enter Tryd.func9, Tryd.ntmps9
  go_upto_region 5 with (fail)
  go_region_held3 (fun w' => w'.cell? ⟨b.bh, 0, none⟩ = some (.pointer (some ⟨b.ba, 0, none⟩)) ∧ w'.cell? ⟨b.bh, 1, none⟩ = some (.slice (some ⟨g, 0, none⟩) nf.length cap) ∧ w'.cell? ⟨g, j, none⟩ = some (.int .i64 (m : Int)))
    (first
      | exact ⟨hc0, hc1, hc⟩
      | exact hS1.out)
    (first
      | (go_at_call 25; refine (of_any' hcl.out _).mono ?_; rintro e w' ⟨rfl, rfl⟩)
      | (go_at_call 24; refine (atake_some c _ (H.out.ar.drewN 1) HF.out HI.out (fun j hj => HT.out j hj)).mono ?_; rintro e w1 ⟨rfl, ha, w2, hg1, hg2⟩; have HM1 : Hid (Mid w w1 B b n nf (upP s.P k (some ⟨p.blk, p.c, up p.U z true, p.M⟩)) (clrF s.W (32 * k + z * p.sz) p.sz) s.O s.ser s.ser s.giv) := H.out.mid HI.out.hp ha ⟨hg1.os, hg1.tape, hg1.output, hg1.size, hg1.block⟩ hg2; clear ha hg1 hg2; have hS1 : Hid (w1.cell? ⟨b.bh, 0, none⟩ = some (.pointer (some ⟨b.ba, 0, none⟩)) ∧ w1.cell? ⟨b.bh, 1, none⟩ = some (.slice (some ⟨g, 0, none⟩) nf.length cap) ∧ w1.cell? ⟨g, j, none⟩ = some (.int .i64 (m : Int))) := mid_cells HM1.out HV.out HM.out hj))
  clear hc0 hc1 hc hS1 HT HF hgb
  rename_i hHeld
  clear hHeld
  have hc3 := HM1.out.c3
  have hfz3 := HM1.out.hd.frozen 3
  have hbl1 := HM1.out.hd.lt
  have HM2 := HM1.out.ser1
  have HM2' : Hid (Mid w (w1.setCell ⟨b.bh, 3, none⟩ (.int .i64 ((s.ser : Int) + 1))) B b n nf (upP s.P k (some ⟨p.blk, p.c, up p.U z true, p.M⟩)) (clrF s.W (32 * k + z * p.sz) p.sz) s.O s.ser (s.ser + 1) s.giv) := HM2
  clear HM2
  go_upto_region 9 with (fail)
  clear hc3 hfz3 hbl1
  generalize w1.setCell ⟨b.bh, 3, none⟩ (.int .i64 ((s.ser : Int) + 1)) = w3 at *
  clear HM1 w1 w2
  have hc4 := HM2'.out.c4
  have hfz4 := HM2'.out.hd.frozen 4
  have hbl3 := HM2'.out.hd.lt
  have HS3 : Hid (w3.cell? ⟨b.bh, 1, none⟩ = some (.slice (some ⟨g, 0, none⟩) nf.length cap) ∧ w3.cell? ⟨g, j, none⟩ = some (.int .i64 (m : Int))) := (mid_cells HM2'.out HV.out HM.out hj).2
  have HM4 : Hid (Mid w (w3.setCell ⟨b.bh, 4, none⟩ (.int .i64 ((s.giv : Int) + (m : Int)))).drew B b n nf (upP s.P k (some ⟨p.blk, p.c, up p.U z true, p.M⟩)) (clrF s.W (32 * k + z * p.sz) p.sz) s.O s.ser (s.ser + 1) (s.giv + m)) := (HM2'.out.giv1 m).drew
  have HS4 : Hid ((w3.setCell ⟨b.bh, 4, none⟩ (.int .i64 ((s.giv : Int) + (m : Int)))).drew.cell? ⟨b.bh, 1, none⟩ = some (.slice (some ⟨g, 0, none⟩) nf.length cap) ∧ (w3.setCell ⟨b.bh, 4, none⟩ (.int .i64 ((s.giv : Int) + (m : Int)))).drew.cell? ⟨g, j, none⟩ = some (.int .i64 (m : Int))) := (mid_cells HM4.out HV.out HM.out hj).2
  obtain ⟨hs1, hs2⟩ := HS3.out
  have ew : IntKind.i64.wrap ((s.giv : Int) + (m : Int)) = (s.giv : Int) + (m : Int) := by rw [IntKind.wrap_i64]; omega
  go_region
  clear hs1 hs2 HS3 HS4 hc4 hfz4 hbl3 HM2' ew
  generalize (w3.setCell ⟨b.bh, 4, none⟩ (.int .i64 ((s.giv : Int) + (m : Int)))).drew = w4 at *
  clear w3
  have hc3 : w4.cell? ⟨b.bh, 3, none⟩ = some (.int .i64 ((s.ser : Int) + 1)) := by rw [HM4.out.c3]; simp
  cases bl
  · go_upto_region 13 with (fail)
    have HM5 : Hid (Mid w (w4.alloc (.cells #[.int .i64 (j : Int), .int .i64 ((s.ser : Int) + 1), .int .i64 0] 59)) B b n nf (upP s.P k (some ⟨p.blk, p.c, up p.U z true, p.M⟩)) (clrF s.W (32 * k + z * p.sz) p.sz) s.O s.ser (s.ser + 1) (s.giv + m)) := HM4.out.below ((Below.refl _ _).alloc (Nat.le_refl _) _)
    have HC : Hid (Oc (w4.alloc (.cells #[.int .i64 (j : Int), .int .i64 ((s.ser : Int) + 1), .int .i64 0] 59)) w4.heap.size ⟨(j : Int), (s.ser : Int) + 1, 0⟩) := by
      refine ⟨?_, ?_, ?_⟩ <;> simp
    have hl5 : w4.heap.size < (w4.alloc (.cells #[.int .i64 (j : Int), .int .i64 ((s.ser : Int) + 1), .int .i64 0] 59)).heap.size := by simp
    generalize (w4.alloc (.cells #[.int .i64 (j : Int), .int .i64 ((s.ser : Int) + 1), .int .i64 0] 59)) = w5 at *
    generalize w4.heap.size = g5 at *
    clear HM4 hc3
    have HPl : Hid (Calls Tryd.prog 26 #[.pointer (some ⟨b.bh, 0, none⟩), .int .i64 (adr k z p.sz : Nat)] w5.drew fun e w' => e = .returned (plV k z) ∧ Below w5.drew.heap.size w5.drew w') := place_core (w := w5.drew) (p := ⟨p.blk, p.c, up p.U z true, p.M⟩) HM5.out.c0 (HM5.out.ar.drewN 1) (upP_same _ _ _) HI.out.hz
    go_region_held3 (fun w' => w'.cell? ⟨b.bh, 2, none⟩ = some (.map (some b.bm)) ∧ w'.cell? ⟨g5, 0, none⟩ = some (.int .i64 (j : Int)) ∧ w'.cell? ⟨g5, 1, none⟩ = some (.int .i64 ((s.ser : Int) + 1)) ∧ w'.cell? ⟨g5, 2, none⟩ = some (.int .i64 0))
      (first
        | exact ⟨HM5.out.c2, HC.out.c0, HC.out.c1, HC.out.c2⟩
        | exact hS6.out
        | exact hS7.out)
      (first
        | (go_at_call 26; refine HPl.out.mono ?_; rintro e w6 ⟨rfl, hB6⟩; unfold plV; have HB6 : Hid (Below w5.heap.size w5 w6) := ⟨hB6.os, hB6.tape, hB6.output, hB6.size, hB6.block⟩; have HM6 : Hid (Mid w w6 B b n nf (upP s.P k (some ⟨p.blk, p.c, up p.U z true, p.M⟩)) (clrF s.W (32 * k + z * p.sz) p.sz) s.O s.ser (s.ser + 1) (s.giv + m)) := HM5.out.below HB6.out; obtain ⟨c0, c1, c2⟩ := HC.out.below HB6.out hl5; have hS6 : Hid (w6.cell? ⟨b.bh, 2, none⟩ = some (.map (some b.bm)) ∧ w6.cell? ⟨g5, 0, none⟩ = some (.int .i64 (j : Int)) ∧ w6.cell? ⟨g5, 1, none⟩ = some (.int .i64 ((s.ser : Int) + 1)) ∧ w6.cell? ⟨g5, 2, none⟩ = some (.int .i64 0)) := ⟨HM6.out.c2, c0, c1, c2⟩; obtain ⟨w7, hrun, hm7, hb7⟩ := HM6.out.mp.store (k := k) (s := z) (by omega) (by omega) ⟨(j : Int), (s.ser : Int) + 1, 0⟩ (by omega); unfold plV Ob.v at hrun; have HM7 : Hid (MpAt w7 b.bm (if (s.O k z).isSome then s.ser else s.ser + 1) (upO s.O k z (some ⟨(j : Int), (s.ser : Int) + 1, 0⟩)) ∧ But b.bm w6 w7) := ⟨hm7, hb7⟩; have hS7 : Hid (w7.cell? ⟨b.bh, 2, none⟩ = some (.map (some b.bm)) ∧ w7.cell? ⟨g5, 0, none⟩ = some (.int .i64 (j : Int)) ∧ w7.cell? ⟨g5, 1, none⟩ = some (.int .i64 ((s.ser : Int) + 1)) ∧ w7.cell? ⟨g5, 2, none⟩ = some (.int .i64 0)) := but_four hb7 HM6.out.mp HM6.out.c2 c0 c1 c2; clear hm7 hb7 hB6 c0 c1 c2))
    all_goals
      have hmp : MpAt w7 b.bm (s.ser + 1) (upO s.O k z (some ⟨(j : Int), (s.ser : Int) + 1, 0⟩)) := HM7.out.1.mono (by split <;> omega)
      have HD : Hid (HpAt w7 B b n nf (s.took j m false k z p) ∧ Hf B b w w7) := Mid.done H.out HI0.out hj HM.out (o := ⟨(j : Int), (s.ser : Int) + 1, 0⟩) rfl hser HM6.out hmp HM7.out.2
      clear hmp HM7 hS7 hS6 HM6 HB6 HM5 HC HI HPl hrun
      go_wp2_with fail
      go_ret2
      exact ⟨rfl, HD.out⟩
  · go_upto_region 13 with (fail)
    have HM5 : Hid (Mid w (w4.alloc (.cells #[.int .i64 (j : Int), .int .i64 ((s.ser : Int) + 1), .int .i64 2] 59)) B b n nf (upP s.P k (some ⟨p.blk, p.c, up p.U z true, p.M⟩)) (clrF s.W (32 * k + z * p.sz) p.sz) s.O s.ser (s.ser + 1) (s.giv + m)) := HM4.out.below ((Below.refl _ _).alloc (Nat.le_refl _) _)
    have HC : Hid (Oc (w4.alloc (.cells #[.int .i64 (j : Int), .int .i64 ((s.ser : Int) + 1), .int .i64 2] 59)) w4.heap.size ⟨(j : Int), (s.ser : Int) + 1, 2⟩) := by
      refine ⟨?_, ?_, ?_⟩ <;> simp
    have hl5 : w4.heap.size < (w4.alloc (.cells #[.int .i64 (j : Int), .int .i64 ((s.ser : Int) + 1), .int .i64 2] 59)).heap.size := by simp
    generalize (w4.alloc (.cells #[.int .i64 (j : Int), .int .i64 ((s.ser : Int) + 1), .int .i64 2] 59)) = w5 at *
    generalize w4.heap.size = g5 at *
    clear HM4 hc3
    have HPl : Hid (Calls Tryd.prog 26 #[.pointer (some ⟨b.bh, 0, none⟩), .int .i64 (adr k z p.sz : Nat)] w5.drew fun e w' => e = .returned (plV k z) ∧ Below w5.drew.heap.size w5.drew w') := place_core (w := w5.drew) (p := ⟨p.blk, p.c, up p.U z true, p.M⟩) HM5.out.c0 (HM5.out.ar.drewN 1) (upP_same _ _ _) HI.out.hz
    go_region_held3 (fun w' => w'.cell? ⟨b.bh, 2, none⟩ = some (.map (some b.bm)) ∧ w'.cell? ⟨g5, 0, none⟩ = some (.int .i64 (j : Int)) ∧ w'.cell? ⟨g5, 1, none⟩ = some (.int .i64 ((s.ser : Int) + 1)) ∧ w'.cell? ⟨g5, 2, none⟩ = some (.int .i64 2))
      (first
        | exact ⟨HM5.out.c2, HC.out.c0, HC.out.c1, HC.out.c2⟩
        | exact hS6.out
        | exact hS7.out)
      (first
        | (go_at_call 26; refine HPl.out.mono ?_; rintro e w6 ⟨rfl, hB6⟩; unfold plV; have HB6 : Hid (Below w5.heap.size w5 w6) := ⟨hB6.os, hB6.tape, hB6.output, hB6.size, hB6.block⟩; have HM6 : Hid (Mid w w6 B b n nf (upP s.P k (some ⟨p.blk, p.c, up p.U z true, p.M⟩)) (clrF s.W (32 * k + z * p.sz) p.sz) s.O s.ser (s.ser + 1) (s.giv + m)) := HM5.out.below HB6.out; obtain ⟨c0, c1, c2⟩ := HC.out.below HB6.out hl5; have hS6 : Hid (w6.cell? ⟨b.bh, 2, none⟩ = some (.map (some b.bm)) ∧ w6.cell? ⟨g5, 0, none⟩ = some (.int .i64 (j : Int)) ∧ w6.cell? ⟨g5, 1, none⟩ = some (.int .i64 ((s.ser : Int) + 1)) ∧ w6.cell? ⟨g5, 2, none⟩ = some (.int .i64 2)) := ⟨HM6.out.c2, c0, c1, c2⟩; obtain ⟨w7, hrun, hm7, hb7⟩ := HM6.out.mp.store (k := k) (s := z) (by omega) (by omega) ⟨(j : Int), (s.ser : Int) + 1, 2⟩ (by omega); unfold plV Ob.v at hrun; have HM7 : Hid (MpAt w7 b.bm (if (s.O k z).isSome then s.ser else s.ser + 1) (upO s.O k z (some ⟨(j : Int), (s.ser : Int) + 1, 2⟩)) ∧ But b.bm w6 w7) := ⟨hm7, hb7⟩; have hS7 : Hid (w7.cell? ⟨b.bh, 2, none⟩ = some (.map (some b.bm)) ∧ w7.cell? ⟨g5, 0, none⟩ = some (.int .i64 (j : Int)) ∧ w7.cell? ⟨g5, 1, none⟩ = some (.int .i64 ((s.ser : Int) + 1)) ∧ w7.cell? ⟨g5, 2, none⟩ = some (.int .i64 2)) := but_four hb7 HM6.out.mp HM6.out.c2 c0 c1 c2; clear hm7 hb7 hB6 c0 c1 c2))
    all_goals
      have hmp : MpAt w7 b.bm (s.ser + 1) (upO s.O k z (some ⟨(j : Int), (s.ser : Int) + 1, 2⟩)) := HM7.out.1.mono (by split <;> omega)
      have HD : Hid (HpAt w7 B b n nf (s.took j m true k z p) ∧ Hf B b w w7) := Mid.done H.out HI0.out hj HM.out (o := ⟨(j : Int), (s.ser : Int) + 1, 2⟩) rfl hser HM6.out hmp HM7.out.2
      clear hmp HM7 hS7 hS6 HM6 HB6 HM5 HC HI HPl hrun
      go_wp2_with fail
      go_ret2
      exact ⟨rfl, HD.out⟩
end

end Go.Proofs.YtfkimmbnmcgjiaaDoor

/- The walk of the Heap's object where one begins. -/
import Derived.Test.YtfkimmbnmcgjiaaDoorHpB
namespace Go.Proofs.YtfkimmbnmcgjiaaDoor
open Go.RowKit

/-- Three cells of 0 at block g. -/
structure Zc (w : World) (g : Nat) : Prop where
  c0 : w.cell? ⟨g, 0, none⟩ = some (.int .i64 0)
  c1 : w.cell? ⟨g, 1, none⟩ = some (.int .i64 0)
  c2 : w.cell? ⟨g, 2, none⟩ = some (.int .i64 0)
  f0 : w.frozen? ⟨g, 0, none⟩ = false
  f1 : w.frozen? ⟨g, 1, none⟩ = false
  f2 : w.frozen? ⟨g, 2, none⟩ = false
theorem Zc.below {w w' : World} {g B : Nat} (h : Zc w g) (hb : Below B w w') (hg : g < B) : Zc w' g :=
  ⟨(hb.cell (p := ⟨g, 0, none⟩) hg).trans h.c0, (hb.cell (p := ⟨g, 1, none⟩) hg).trans h.c1, (hb.cell (p := ⟨g, 2, none⟩) hg).trans h.c2, (hb.frozen (p := ⟨g, 0, none⟩) hg).trans h.f0, (hb.frozen (p := ⟨g, 1, none⟩) hg).trans h.f1, (hb.frozen (p := ⟨g, 2, none⟩) hg).trans h.f2⟩

theorem below_set3 {B : Nat} {a w : World} (h : Below B a w) {g : Nat} (hg : B ≤ g) (x y z : Value) : Below B a (((w.setCell ⟨g, 0, none⟩ x).setCell ⟨g, 1, none⟩ y).setCell ⟨g, 2, none⟩ z) :=
  ((h.setCell hg x).setCell hg y).setCell hg z

section
variable {w : World} {B : Nat} {b : Hb} {n : Nat} {nf : List Int} {s : Hs}

set_option maxHeartbeats 2000000 in
theorem obj_yes (h : HpAt w B b n nf s) {ad : Int} (hb : I64 ad) {k x : Nat} {p : PSt} {o : Ob} (hi : InS s.P ad k x 0 p) (ho : s.O k x = some o) :
    Calls Tryd.prog 37 #[.pointer (some ⟨b.bh, 0, none⟩), .int .i64 ad] w fun e w' => e = .returned (.tuple #[o.v, .bool true]) ∧ Below w.heap.size w w' := by
  have hB1 : Below w.heap.size w (w.alloc (.cells #[.int .i64 0, .int .i64 0, .int .i64 0] 59)) := (Below.refl _ _).alloc (Nat.le_refl _) _
  have H1 : Hid (HpAt (w.alloc (.cells #[.int .i64 0, .int .i64 0, .int .i64 0] 59)) B b n nf s) := h.below hB1
  have H0 : Hid (HpAt w B b n nf s) := h
  have hk : k < 64 := Nat.lt_of_lt_of_le (h.ar.klt hi.hp) h.ar.n64
  have hx : x < 32 := Nat.lt_of_lt_of_le hi.hs (h.ar.num hi.hp).n32
  have he : ad = ((adr k x p.sz : Nat) : Int) := hi.he
  subst he
  generalize hA : adr k x p.sz = A at *
  have HA : Hid (adr k x p.sz = A) := hA
  have HI : Hid (InS s.P (A : Int) k x 0 p) := hi
  have HO : Hid (s.O k x = some o) := ho
  clear hA h hi ho
  unfold Ob.v
  go_enter Tryd.func37, Tryd.ntmps37
  go_wp2_with fail
  refine (hfind_in H1.out hb HI.out).mono ?_
  rintro e w' ⟨rfl, q, rfl⟩
  rw [HA.out]
  go_upto_region 4 with (fail)
  have hs1 : ((w.alloc (.cells #[.int .i64 0, .int .i64 0, .int .i64 0] 59)).drewN q).heap.size = w.heap.size + 1 := by simp
  have HB1 : Hid (Below w.heap.size w ((w.alloc (.cells #[.int .i64 0, .int .i64 0, .int .i64 0] 59)).drewN q)) := below_drewN hB1 q
  have HQ0 : Hid (Zc ((w.alloc (.cells #[.int .i64 0, .int .i64 0, .int .i64 0] 59)).drewN q) w.heap.size) := by
    refine ⟨?_, ?_, ?_, ?_, ?_, ?_⟩ <;> simp
  have HH : Hid (HpAt ((w.alloc (.cells #[.int .i64 0, .int .i64 0, .int .i64 0] 59)).drewN q) B b n nf s) := H1.out.drewN q
  clear H1 hB1
  generalize ((w.alloc (.cells #[.int .i64 0, .int .i64 0, .int .i64 0] 59)).drewN q) = w1 at *
  have HP : Hid (s.P k = some p ∧ x < p.n) := ⟨HI.out.hp, HI.out.hs⟩
  have hlt1 := HH.out.hd.lt
  have HAl : Hid (Below w1.heap.size w1 (w1.alloc (.cells #[.int .i64 0, .int .i64 0, .int .i64 0] 59))) := (Below.refl _ _).alloc (Nat.le_refl _) _
  have HQ1 : Hid (Zc (w1.alloc (.cells #[.int .i64 0, .int .i64 0, .int .i64 0] 59)) w1.heap.size) := by
    refine ⟨?_, ?_, ?_, ?_, ?_, ?_⟩ <;> simp
  go_region_held3 (fun w' => w'.cell? ⟨b.bh, 2, none⟩ = some (.map (some b.bm)) ∧ (Instr.lookup 55 (.map (some b.bm)) (.agg #[.int .i64 k, .int .i64 x]) true).run Tryd.prog w' = .ok (.tuple #[.agg #[.int .i64 o.sh, .int .i64 o.se, .int .i64 o.co], .bool true]) w' ∧ Hid (Below w1.heap.size w1 w'))
    (first | (refine obs_keep HH.out (by omega) (by omega) HO.out ?_; first | exact (Below.refl _ _).drew | exact ((Below.refl _ _).drew).alloc (Nat.le_refl _) _ | exact HB2.out | exact HB2.out.alloc HB2.out.size _ | exact ((HB2.out.setCell hs2 _).setCell hs2 _).setCell hs2 _))
    (first
      | (go_at_call 26; rw [← HA.out]; refine (place_any (HH.out.drewN 1) HP.out.1 HP.out.2).mono ?_; rintro e w2 ⟨rfl, hB2⟩; unfold plV; have HB2 : Hid (Below w1.heap.size w1 w2) := ⟨hB2.os, hB2.tape, hB2.output, hB2.size, hB2.block⟩; obtain ⟨q0, q1, q2, f0, f1, f2⟩ := HQ0.out.below HB2.out (by omega); have hl2 : w.heap.size < w2.heap.size := Nat.lt_of_lt_of_le (by omega) HB2.out.size; clear hB2)
      | (go_at_call 26; rw [← HA.out]; refine (place_any ((HH.out.below HAl.out).drewN 1) HP.out.1 HP.out.2).mono ?_; rintro e w2 ⟨rfl, hB2⟩; unfold plV; have hB3 : Below (w1.alloc (.cells #[.int .i64 0, .int .i64 0, .int .i64 0] 59)).heap.size (w1.alloc (.cells #[.int .i64 0, .int .i64 0, .int .i64 0] 59)) w2 := ⟨hB2.os, hB2.tape, hB2.output, hB2.size, hB2.block⟩; have HB2 : Hid (Below w1.heap.size w1 w2) := HAl.out.trans (hB3.mono (by simp)); obtain ⟨q0, q1, q2, f0, f1, f2⟩ := HQ0.out.below HB2.out (by omega); have hZ : Zc w2 w1.heap.size := HQ1.out.below hB3 (by simp); have hs2 : w1.heap.size ≤ w.heap.size + 1 := (by omega); rw [hs1] at hZ; obtain ⟨r0, r1, r2, g0, g1, g2⟩ := hZ; have hl2 : w.heap.size + 1 < w2.heap.size := Nat.lt_of_lt_of_le (by simp; omega) hB3.size; clear hB2 hB3))
  all_goals
    go_wp2_with fail
    refine bodyPost_ret (v := .tuple #[.agg #[.int .i64 o.sh, .int .i64 o.se, .int .i64 o.co], .bool true]) (by simp [results, go_sem, q0, q1, q2, hl2]) rfl ?_
    refine ⟨rfl, HB1.out.trans ?_⟩
    have hB4 : Below w.heap.size w1 w2 := HB2.out.mono (by omega)
    clear HB2 HH HAl HQ1 HQ0 HI HA H0
    first
      | with_reducible exact (below_set3 hB4 (Nat.le_refl _) _ _ _).alloc (by simp; omega) _
      | with_reducible exact below_set3 (below_set3 hB4 (Nat.le_succ _) _ _ _) (Nat.le_refl _) _ _ _
end

end Go.Proofs.YtfkimmbnmcgjiaaDoor

import Derived.Test.YtfkimmbnmcgjiaaDoorHpC
/- The walks of the Heap's Color, turn, Shade, Finish. -/
namespace Go.Proofs.YtfkimmbnmcgjiaaDoor
open Go.RowKit

section
variable {w : World} {B : Nat} {b : Hb} {n : Nat} {nf : List Int} {s : Hs}

theorem HpAt.some_ob (h : HpAt w B b n nf s) {ad : Int} {k x : Nat} {p : PSt} (hi : InS s.P ad k x 0 p) : ∃ o, s.O k x = some o := by
  have := (h.use k x).2 ⟨p, hi.hp, hi.hs, hi.hu⟩
  exact Option.isSome_iff_exists.1 this

theorem color_nil (ad : Int) (w : World) : Calls Tryd.prog 17 #[.pointer none, .int .i64 ad] w fun e w' => e = .returned (.int .i64 0) ∧ Below w.heap.size w w' := by
  go_enter Tryd.func17, Tryd.ntmps17
  go_wp2_with fail
  refine (obj_nil ad _).mono ?_
  rintro e w' ⟨rfl, hB⟩
  go_wp2_with fail
  go_ret
  exact ⟨rfl, hB.alloc hB.size _⟩
set_option maxHeartbeats 400000 in
theorem color_no (h : HpAt w B b n nf s) {ad : Int} (hb : I64 ad) (hn : NoBeg s.P ad) :
    Calls Tryd.prog 17 #[.pointer (some ⟨b.bh, 0, none⟩), .int .i64 ad] w fun e w' => e = .returned (.int .i64 0) ∧ Below w.heap.size w w' := by
  have H : Hid (HpAt w B b n nf s) := h
  clear h
  go_enter Tryd.func17, Tryd.ntmps17
  go_wp2_with fail
  refine (obj_no H.out hb hn).mono ?_
  rintro e w' ⟨rfl, hB⟩
  go_wp2_with fail
  go_ret
  exact ⟨rfl, hB.alloc hB.size _⟩
set_option maxHeartbeats 400000 in
theorem color_yes (h : HpAt w B b n nf s) {ad : Int} (hb : I64 ad) {k x : Nat} {p : PSt} {o : Ob} (hi : InS s.P ad k x 0 p) (ho : s.O k x = some o) :
    Calls Tryd.prog 17 #[.pointer (some ⟨b.bh, 0, none⟩), .int .i64 ad] w fun e w' => e = .returned (.int .i64 o.co) ∧ Below w.heap.size w w' := by
  have H : Hid (HpAt w B b n nf s) := h
  have HO : Hid (s.O k x = some o) := ho
  clear h ho
  go_enter Tryd.func17, Tryd.ntmps17
  go_wp2_with fail
  refine (obj_yes H.out hb hi HO.out).mono ?_
  rintro e w' ⟨rfl, hB⟩
  unfold Ob.v
  go_wp2_with fail
  go_ret
  exact ⟨rfl, hB.alloc hB.size _⟩

/-! ### turn -/
theorem turn_nil (ad f t : Int) (w : World) : Calls Tryd.prog 29 #[.pointer none, .int .i64 ad, .int .i64 f, .int .i64 t] w fun e w' => e = .returned (.bool false) ∧ Below w.heap.size w w' := by
  go_enter Tryd.func29, Tryd.ntmps29
  go_wp2_with fail
  refine (obj_nil ad _).mono ?_
  rintro e w' ⟨rfl, hB⟩
  go_wp2_with fail
  go_ret
  exact ⟨rfl, hB.alloc hB.size _⟩
set_option maxHeartbeats 400000 in
theorem turn_no (h : HpAt w B b n nf s) {ad : Int} (f t : Int) (hb : I64 ad) (hn : NoBeg s.P ad) :
    Calls Tryd.prog 29 #[.pointer (some ⟨b.bh, 0, none⟩), .int .i64 ad, .int .i64 f, .int .i64 t] w fun e w' => e = .returned (.bool false) ∧ Below w.heap.size w w' := by
  have H : Hid (HpAt w B b n nf s) := h
  clear h
  go_enter Tryd.func29, Tryd.ntmps29
  go_wp2_with fail
  refine (obj_no H.out hb hn).mono ?_
  rintro e w' ⟨rfl, hB⟩
  go_wp2_with fail
  go_ret
  exact ⟨rfl, hB.alloc hB.size _⟩
set_option maxHeartbeats 400000 in
theorem turn_other (h : HpAt w B b n nf s) {ad : Int} (f t : Int) (hb : I64 ad) {k x : Nat} {p : PSt} {o : Ob} (hi : InS s.P ad k x 0 p) (ho : s.O k x = some o) (hc : o.co ≠ f) :
    Calls Tryd.prog 29 #[.pointer (some ⟨b.bh, 0, none⟩), .int .i64 ad, .int .i64 f, .int .i64 t] w fun e w' => e = .returned (.bool false) ∧ Below w.heap.size w w' := by
  have H : Hid (HpAt w B b n nf s) := h
  have HO : Hid (s.O k x = some o) := ho
  have hc2 : decide (o.co = f) = false := by simpa using hc
  clear h ho
  go_enter Tryd.func29, Tryd.ntmps29
  go_wp2_with fail
  refine (obj_yes H.out hb hi HO.out).mono ?_
  rintro e w' ⟨rfl, hB⟩
  unfold Ob.v
  go_wp2_with fail
  go_ret
  exact ⟨rfl, hB.alloc hB.size _⟩
end

end Go.Proofs.YtfkimmbnmcgjiaaDoor
/- The walk of turn where it turns. -/
namespace Go.Proofs.YtfkimmbnmcgjiaaDoor
open Go.RowKit

/-- An object's three cells at block g. -/
structure Oc (w : World) (g : Nat) (o : Ob) : Prop where
  c0 : w.cell? ⟨g, 0, none⟩ = some (.int .i64 o.sh)
  c1 : w.cell? ⟨g, 1, none⟩ = some (.int .i64 o.se)
  c2 : w.cell? ⟨g, 2, none⟩ = some (.int .i64 o.co)
theorem Oc.below {w w' : World} {g B : Nat} {o : Ob} (h : Oc w g o) (hb : Below B w w') (hg : g < B) : Oc w' g o :=
  ⟨(hb.cell (p := ⟨g, 0, none⟩) hg).trans h.c0, (hb.cell (p := ⟨g, 1, none⟩) hg).trans h.c1, (hb.cell (p := ⟨g, 2, none⟩) hg).trans h.c2⟩
theorem but_cell {w w' : World} {m bm : Nat} {O : Nat → Nat → Option Ob} (hb : But bm w w') (hm : MpAt w bm m O) {a : Addr} {v : Value} (h : w.cell? a = some v) : w'.cell? a = some v := by
  rw [← h]
  refine World.cell?_of_block (hb.block a.block ?_ ?_)
  · exact World.block_lt_of_cell? _ _ h
  · intro e
    obtain ⟨D, ⟨es, clock, he, _⟩, _⟩ := hm
    rw [← e] at he
    simp [World.cell?, he] at h
theorem but_four {w w' : World} {m bm : Nat} {O : Nat → Nat → Option Ob} (hb : But bm w w') (hm : MpAt w bm m O) {a1 a2 a3 a4 : Addr} {v1 v2 v3 v4 : Value} (h1 : w.cell? a1 = some v1) (h2 : w.cell? a2 = some v2) (h3 : w.cell? a3 = some v3) (h4 : w.cell? a4 = some v4) :
    w'.cell? a1 = some v1 ∧ w'.cell? a2 = some v2 ∧ w'.cell? a3 = some v3 ∧ w'.cell? a4 = some v4 := ⟨but_cell hb hm h1, but_cell hb hm h2, but_cell hb hm h3, but_cell hb hm h4⟩

section
variable {w : World} {B : Nat} {b : Hb} {n : Nat} {nf : List Int} {s : Hs}

/-- The Heap with another color of one object. -/
theorem HpAt.setO (h : HpAt w B b n nf s) {w' : World} {k x : Nat} {o o' : Ob} (ho : s.O k x = some o) (hs : o'.sh = o.sh) (hm : MpAt w' b.bm s.ser (upO s.O k x (some o'))) (hb : But b.bm w w') :
    HpAt w' B b n nf { s with O := upO s.O k x (some o') } := by
  have hf : Hf B b w w' := Fz.of_but hb (by simp)
  have n1 : b.bh ≠ b.bm := h.mp.no_row h.hd
  refine ⟨hb.row h.hd n1, ?_, hf.own h.fs h.fm (by decide), hm, h.fw, ?_, ?_, h.small, h.few, h.bB, h.mB, h.ser9, h.giv9⟩
  · have a := h.ar
    exact ⟨hb.row a.hd (h.mp.no_row a.hd), hb.row a.pr (h.mp.no_row a.pr), hb.row a.wo (h.mp.no_row a.wo), fun k p e => (a.pg k p e).row (hb.row (a.pg k p e).hd (h.mp.no_row (a.pg k p e).hd)), a.ap, a.out, a.n64, a.b0, a.b1, a.b2, a.b3⟩
  · intro k' x'
    show (upO s.O k x (some o') k' x').isSome = true ↔ _
    by_cases e : k' = k ∧ x' = x
    · obtain ⟨rfl, rfl⟩ := e
      rw [upO_same]
      have := h.use k' x'
      rw [ho] at this
      exact this
    · rw [upO_other _ _ e]
      exact h.use k' x'
  · intro k' x' o2 h2
    have h3 : upO s.O k x (some o') k' x' = some o2 := h2
    by_cases e : k' = k ∧ x' = x
    · obtain ⟨rfl, rfl⟩ := e
      rw [upO_same] at h3
      cases h3
      rw [hs]
      exact h.fit k' x' o ho
    · rw [upO_other _ _ e] at h3
      exact h.fit k' x' o2 h3

set_option maxHeartbeats 2000000 in
theorem turn_yes (h : HpAt w B b n nf s) {ad : Int} (f t : Int) (hb : I64 ad) {k x : Nat} {p : PSt} {o : Ob} (hi : InS s.P ad k x 0 p) (ho : s.O k x = some o) (hc : o.co = f) :
    Calls Tryd.prog 29 #[.pointer (some ⟨b.bh, 0, none⟩), .int .i64 ad, .int .i64 f, .int .i64 t] w fun e w' => e = .returned (.bool true) ∧
      HpAt w' B b n nf { s with O := upO s.O k x (some ⟨o.sh, o.se, t⟩) } ∧ Hf B b w w' := by
  have H : Hid (HpAt w B b n nf s) := h
  have HO : Hid (s.O k x = some o) := ho
  have HI : Hid (InS s.P ad k x 0 p) := hi
  have hk : k < 64 := Nat.lt_of_lt_of_le (h.ar.klt hi.hp) h.ar.n64
  have hx : x < 32 := Nat.lt_of_lt_of_le hi.hs (h.ar.num hi.hp).n32
  have hser := h.ser9
  have he : ad = ((adr k x p.sz : Nat) : Int) := hi.he
  subst he
  subst hc
  clear h ho hi
  generalize hA : adr k x p.sz = A at *
  have HA : Hid (adr k x p.sz = A) := hA
  clear hA
  go_enter Tryd.func29, Tryd.ntmps29
  go_wp2_with fail
  refine (obj_yes H.out hb HI.out HO.out).mono ?_
  rintro e w1 ⟨rfl, hB⟩
  have HB : Hid (Below w.heap.size w w1) := hB
  clear hB
  unfold Ob.v
  go_upto_region 5 with (fail)
  have HB2 : Hid (Below w.heap.size w (w1.alloc (.cells #[.int .i64 o.sh, .int .i64 o.se, .int .i64 t] 59))) := HB.out.alloc HB.out.size _
  have HC : Hid (Oc (w1.alloc (.cells #[.int .i64 o.sh, .int .i64 o.se, .int .i64 t] 59)) w1.heap.size ⟨o.sh, o.se, t⟩) := by
    refine ⟨?_, ?_, ?_⟩ <;> simp
  have hl1 : w1.heap.size < (w1.alloc (.cells #[.int .i64 o.sh, .int .i64 o.se, .int .i64 t] 59)).heap.size := by simp
  generalize w1.alloc (.cells #[.int .i64 o.sh, .int .i64 o.se, .int .i64 t] 59) = w2 at *
  generalize w1.heap.size = g at *
  have H2 : Hid (HpAt w2 B b n nf s) := H.out.below HB2.out
  have HP : Hid (s.P k = some p ∧ x < p.n) := ⟨HI.out.hp, HI.out.hs⟩
  have hlt2 := H2.out.hd.lt
  clear HB w1
  go_region_held3 (fun w' => w'.cell? ⟨b.bh, 2, none⟩ = some (.map (some b.bm)) ∧ w'.cell? ⟨g, 0, none⟩ = some (.int .i64 o.sh) ∧ w'.cell? ⟨g, 1, none⟩ = some (.int .i64 o.se) ∧ w'.cell? ⟨g, 2, none⟩ = some (.int .i64 t))
    (first
      | exact ⟨H2.out.c2, HC.out.c0, HC.out.c1, HC.out.c2⟩
      | exact hS3.out
      | exact hS4.out)
    (first
      | (go_at_call 26; rw [← HA.out]; refine (place_any (H2.out.drewN 1) HP.out.1 HP.out.2).mono ?_; rintro e w3 ⟨rfl, hB3⟩; unfold plV; have HB3 : Hid (Below w2.heap.size w2 w3) := ⟨hB3.os, hB3.tape, hB3.output, hB3.size, hB3.block⟩; have H3 : Hid (HpAt w3 B b n nf s) := H2.out.below HB3.out; obtain ⟨c0, c1, c2⟩ := HC.out.below HB3.out hl1; have hS3 : Hid (w3.cell? ⟨b.bh, 2, none⟩ = some (.map (some b.bm)) ∧ w3.cell? ⟨g, 0, none⟩ = some (.int .i64 o.sh) ∧ w3.cell? ⟨g, 1, none⟩ = some (.int .i64 o.se) ∧ w3.cell? ⟨g, 2, none⟩ = some (.int .i64 t)) := ⟨H3.out.c2, c0, c1, c2⟩; obtain ⟨w4, hrun, hm4, hb4⟩ := H3.out.mp.store (k := k) (s := x) (by omega) (by omega) ⟨o.sh, o.se, t⟩ (by omega); unfold plV Ob.v at hrun; have HM4 : Hid (MpAt w4 b.bm (if (s.O k x).isSome then s.ser else s.ser + 1) (upO s.O k x (some ⟨o.sh, o.se, t⟩)) ∧ But b.bm w3 w4) := ⟨hm4, hb4⟩; have hS4 : Hid (w4.cell? ⟨b.bh, 2, none⟩ = some (.map (some b.bm)) ∧ w4.cell? ⟨g, 0, none⟩ = some (.int .i64 o.sh) ∧ w4.cell? ⟨g, 1, none⟩ = some (.int .i64 o.se) ∧ w4.cell? ⟨g, 2, none⟩ = some (.int .i64 t)) := but_four hb4 H3.out.mp H3.out.c2 c0 c1 c2; clear hm4 hb4 hB3 c0 c1 c2))
  all_goals
    have hm := HM4.out.1
    rw [HO.out] at hm
    have HF : Hid (HpAt w4 B b n nf { s with O := upO s.O k x (some ⟨o.sh, o.se, t⟩) }) := H3.out.setO (o' := ⟨o.sh, o.se, t⟩) HO.out rfl hm HM4.out.2
    have HG : Hid (Hf B b w w4) := ((Fz.of_below HB2.out).trans (Fz.of_below HB3.out)).trans (Fz.of_but HM4.out.2 (by simp))
    clear hm HM4 hS4 hS3 H3 HB3 H2 HB2 HC HI HP hrun
    go_wp2_with fail
    go_ret
    exact ⟨rfl, HF.out, HG.out⟩
end

end Go.Proofs.YtfkimmbnmcgjiaaDoor

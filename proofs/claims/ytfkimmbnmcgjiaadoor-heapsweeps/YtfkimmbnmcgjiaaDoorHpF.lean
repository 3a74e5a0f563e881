/- The Heap whose arena changed; the walks of has, Load, Store, Shade, Finish, Given, Fresh. -/
import Derived.Test.YtfkimmbnmcgjiaaDoorHpE
namespace Go.Proofs.YtfkimmbnmcgjiaaDoor
open Go.RowKit

theorem row_ne {w : World} {a c : Nat} {t u : TypeId} {m k : Nat} {f g : Nat → Value} (r : w.rowIs a t m f) (r' : w.rowIs c u k g) (h : t ≠ u) : a ≠ c := by
  intro e
  subst e
  obtain ⟨x, h1, _⟩ := r
  obtain ⟨y, h2, _⟩ := r'
  rw [h1] at h2
  cases h2
  exact h rfl
theorem Fz.mono {B : Nat} {X X' : List Nat} {K : List TypeId} {a b : World} (h : Fz B X K a b) (hX : ∀ x, x ∈ X → x ∈ X') : Fz B X' K a b :=
  ⟨h.os, h.tape, h.output, h.size, fun i hi hx ht => h.block i hi (fun e => hx (hX i e)) ht⟩

section
variable {w : World} {B : Nat} {b : Hb} {n : Nat} {nf : List Int} {s : Hs}

/-- What the arena's calls may change. -/
abbrev Af (B : Nat) (b : Hb) (w w' : World) : Prop := Fz B [b.bp, b.bw] [81] w w'
theorem Af.heap {w' : World} (h : Af B b w w') : Hf B b w w' := h.mono (by intro x hx; simp at hx ⊢; omega)

theorem HpAt.arena (h : HpAt w B b n nf s) {w' : World} {P' : Nat → Option PSt} {W' : Nat → Int} (ha : ArAt w' B b.ba b.bp b.bw n P' W') (hf : Af B b w w')
    (hu : ∀ k x, (s.O k x).isSome = true ↔ ∃ p, P' k = some p ∧ x < p.n ∧ p.U x = true)
    (hi : ∀ k x o, s.O k x = some o → ∃ (j : Nat) (p : PSt), o.sh = (j : Int) ∧ j < nf.length ∧ P' k = some p ∧ p.c = ofN (nf.getD j 0)) :
    HpAt w' B b n nf { s with P := P', W := W' } := by
  have n1 : b.bh ≠ b.bp := row_ne h.hd h.ar.pr (by decide)
  have n2 : b.bh ≠ b.bw := row_ne h.hd h.ar.wo (by decide)
  have n3 : b.bp ≠ b.bm := h.mp.no_row h.ar.pr
  have n4 : b.bw ≠ b.bm := h.mp.no_row h.ar.wo
  have hm := h.mp
  refine ⟨hf.row h.hd (by simp; omega) (by decide), ha, hf.own h.fs (fun x hx => ?_) (by decide), ?_, h.fw, hu, hi, h.small, h.few, h.bB, h.mB, h.ser9, h.giv9⟩
  · have := h.fm x hx
    simp at this ⊢
    omega
  · refine hm.of_block (hf.block b.bm hm.lt (by simp; omega) (Or.inr fun cs t fz hc => ?_))
    obtain ⟨D, ⟨es, clock, he, _⟩, _⟩ := hm
    rw [he] at hc
    cases hc
theorem HpAt.sz_fit (h : HpAt w B b n nf s) {k x : Nat} {o : Ob} {p : PSt} (ho : s.O k x = some o) (hp : s.P k = some p) : ∃ j f : Nat, o.sh = (j : Int) ∧ j < nf.length ∧ nf.getD j 0 = (f : Int) ∧ 1 ≤ f ∧ f ≤ 16 ∧ f ≤ p.sz := by
  obtain ⟨j, p', h1, h2, h3, h4⟩ := h.fit k x o ho
  rw [hp] at h3
  cases h3
  obtain ⟨f, h5, h6, h7⟩ := h.sm h2
  refine ⟨j, f, h1, h2, h5, h6, h7, ?_⟩
  have hr := of_range (nf.getD j 0)
  rw [← h4] at hr
  have h0 := (h.ar.pg k p hp).lo
  unfold PSt.sz
  rw [h5] at hr
  omega

/-! ### has -/
theorem has_nil (ad f : Int) (w : World) : Calls Tryd.prog 39 #[.pointer none, .int .i64 ad, .int .i64 f] w fun e w' => e = .returned (.bool false) ∧ Below w.heap.size w w' := by
  go_enter Tryd.func39, Tryd.ntmps39
  go_wp2_with fail
  refine (obj_nil ad _).mono ?_
  rintro e w' ⟨rfl, hB⟩
  have HB : Hid (Below w.heap.size w (w'.alloc (.cells #[.int .i64 0, .int .i64 0, .int .i64 0] 59))) := hB.alloc hB.size _
  clear hB
  go_upto_region 2 with (fail)
  generalize w'.alloc (.cells #[.int .i64 0, .int .i64 0, .int .i64 0] 59) = w2 at *
  go_quiet (fail)
  go_wp2_with fail
  go_ret
  exact ⟨rfl, below_drewN HB.out _⟩
set_option maxHeartbeats 1000000 in
theorem has_no (h : HpAt w B b n nf s) {ad : Int} (f : Int) (hb : I64 ad) (hn : NoBeg s.P ad) :
    Calls Tryd.prog 39 #[.pointer (some ⟨b.bh, 0, none⟩), .int .i64 ad, .int .i64 f] w fun e w' => e = .returned (.bool false) ∧ Below w.heap.size w w' := by
  have H : Hid (HpAt w B b n nf s) := h
  clear h
  go_enter Tryd.func39, Tryd.ntmps39
  go_wp2_with fail
  refine (obj_no H.out hb hn).mono ?_
  rintro e w' ⟨rfl, hB⟩
  have HB : Hid (Below w.heap.size w (w'.alloc (.cells #[.int .i64 0, .int .i64 0, .int .i64 0] 59))) := hB.alloc hB.size _
  clear hB
  go_upto_region 2 with (fail)
  generalize w'.alloc (.cells #[.int .i64 0, .int .i64 0, .int .i64 0] 59) = w2 at *
  go_quiet (fail)
  go_wp2_with fail
  go_ret
  exact ⟨rfl, below_drewN HB.out _⟩
set_option maxHeartbeats 1000000 in
theorem has_ob (h : HpAt w B b n nf s) {ad : Int} (f : Int) (hb : I64 ad) {k x : Nat} {p : PSt} {o : Ob} (hi : InS s.P ad k x 0 p) (ho : s.O k x = some o) {j m : Nat} (hj : o.sh = (j : Int)) (hjl : j < nf.length) (hm : nf.getD j 0 = (m : Int)) {r : Bool} (hr : (decide (0 ≤ f) && decide (f < (m : Int))) = r) :
    Calls Tryd.prog 39 #[.pointer (some ⟨b.bh, 0, none⟩), .int .i64 ad, .int .i64 f] w fun e w' => e = .returned (.bool r) ∧ Below w.heap.size w w' := by
  have H : Hid (HpAt w B b n nf s) := h
  have HO : Hid (s.O k x = some o) := ho
  have HR : Hid ((decide (0 ≤ f) && decide (f < (m : Int))) = r) := hr
  obtain ⟨g, cap, hv, hg, hc⟩ := h.field hjl
  have HC : Hid (w.cell? ⟨g, j, none⟩ = some (.int .i64 (m : Int)) ∧ w.cell? ⟨b.bh, 1, none⟩ = some (.slice (some ⟨g, 0, none⟩) nf.length cap) ∧ g < w.heap.size ∧ b.bh < w.heap.size) := ⟨by rw [hc, hm], by rw [h.c1, hv], hg, h.hd.lt⟩
  have hJ : Hid (o.sh = (j : Int)) := hj
  have hjI : (j : Int) < (nf.length : Int) := by omega
  clear h ho hc hm hv hj hr hg
  go_enter Tryd.func39, Tryd.ntmps39
  go_wp2_with fail
  refine (obj_yes H.out hb hi HO.out).mono ?_
  rintro e w' ⟨rfl, hB⟩
  unfold Ob.v
  rw [hJ.out]
  have HB : Hid (Below w.heap.size w (w'.alloc (.cells #[.int .i64 (j : Int), .int .i64 o.se, .int .i64 o.co] 59))) := hB.alloc hB.size _
  have HG : Hid ((w'.alloc (.cells #[.int .i64 (j : Int), .int .i64 o.se, .int .i64 o.co] 59)).cell? ⟨w'.heap.size, 0, none⟩ = some (.int .i64 (j : Int))) := by show _ = _; simp
  clear hB
  go_upto_region 2 with (fail)
  generalize w'.alloc (.cells #[.int .i64 (j : Int), .int .i64 o.se, .int .i64 o.co] 59) = w2 at *
  generalize w'.heap.size = g2 at *
  have c0 : w2.cell? ⟨g2, 0, none⟩ = some (.int .i64 (j : Int)) := HG.out
  have c1 : w2.cell? ⟨b.bh, 1, none⟩ = some (.slice (some ⟨g, 0, none⟩) nf.length cap) := (HB.out.cell (p := ⟨b.bh, 1, none⟩) HC.out.2.2.2).trans HC.out.2.1
  have c2 : w2.cell? ⟨g, j, none⟩ = some (.int .i64 (m : Int)) := (HB.out.cell (p := ⟨g, j, none⟩) HC.out.2.2.1).trans HC.out.1
  by_cases h0 : 0 ≤ f
  · have h0' : decide (0 ≤ f) = true := by simpa using h0
    go_quiet (fail)
    go_wp2_with fail
    go_ret
    refine ⟨?_, below_drewN HB.out _⟩
    rw [← HR.out]
    simp [h0]
  · have h0' : decide (0 ≤ f) = false := by simpa using h0
    go_quiet (fail)
    go_wp2_with fail
    go_ret
    refine ⟨?_, below_drewN HB.out _⟩
    rw [← HR.out, h0']
    rfl
end

end Go.Proofs.YtfkimmbnmcgjiaaDoor

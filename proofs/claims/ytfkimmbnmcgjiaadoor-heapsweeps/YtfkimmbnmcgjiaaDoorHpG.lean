/- The walks of the Heap's Load, Store, Shade, Finish, Given, Fresh. -/
import Derived.Test.YtfkimmbnmcgjiaaDoorHpF
namespace Go.Proofs.YtfkimmbnmcgjiaaDoor
open Go.RowKit

section
variable {w : World} {B : Nat} {b : Hb} {n : Nat} {nf : List Int} {s : Hs}

theorem load_nil_h (ad f : Int) (w : World) : Calls Tryd.prog 21 #[.pointer none, .int .i64 ad, .int .i64 f] w fun e w' => e = .returned (.tuple #[.int .i64 0, .bool false]) ∧ Below w.heap.size w w' := by
  go_enter Tryd.func21, Tryd.ntmps21
  go_wp2_with fail
  refine (has_nil ad f _).mono ?_
  rintro e w' ⟨rfl, hB⟩
  go_wp2_with fail
  go_ret2
  exact ⟨rfl, hB⟩
set_option maxHeartbeats 400000 in
theorem hload_no (h : HpAt w B b n nf s) {ad : Int} (f : Int) (hb : I64 ad) (hn : NoBeg s.P ad) :
    Calls Tryd.prog 21 #[.pointer (some ⟨b.bh, 0, none⟩), .int .i64 ad, .int .i64 f] w fun e w' => e = .returned (.tuple #[.int .i64 0, .bool false]) ∧ Below w.heap.size w w' := by
  have H : Hid (HpAt w B b n nf s) := h
  clear h
  go_enter Tryd.func21, Tryd.ntmps21
  go_wp2_with fail
  refine (has_no H.out f hb hn).mono ?_
  rintro e w' ⟨rfl, hB⟩
  go_wp2_with fail
  go_ret2
  exact ⟨rfl, hB⟩
set_option maxHeartbeats 400000 in
theorem hload_over (h : HpAt w B b n nf s) {ad : Int} (f : Int) (hb : I64 ad) {k x : Nat} {p : PSt} {o : Ob} (hi : InS s.P ad k x 0 p) (ho : s.O k x = some o) {j m : Nat} (hj : o.sh = (j : Int)) (hjl : j < nf.length) (hm : nf.getD j 0 = (m : Int)) (hr : f < 0 ∨ (m : Int) ≤ f) :
    Calls Tryd.prog 21 #[.pointer (some ⟨b.bh, 0, none⟩), .int .i64 ad, .int .i64 f] w fun e w' => e = .returned (.tuple #[.int .i64 0, .bool false]) ∧ Below w.heap.size w w' := by
  have HS : Hid (Calls Tryd.prog 39 #[.pointer (some ⟨b.bh, 0, none⟩), .int .i64 ad, .int .i64 f] w fun e w' => e = .returned (.bool false) ∧ Below w.heap.size w w') := has_ob h f hb hi ho hj hjl hm (by simp; omega)
  clear h hi ho hj hm hr
  go_enter Tryd.func21, Tryd.ntmps21
  go_wp2_with fail
  refine HS.out.mono ?_
  rintro e w' ⟨rfl, hB⟩
  go_wp2_with fail
  go_ret2
  exact ⟨rfl, hB⟩
theorem ins_field {P : Nat → Option PSt} {ad : Int} {k x : Nat} {p : PSt} (hi : InS P ad k x 0 p) {y : Nat} (hy : y < p.sz) : InS P (ad + (y : Int)) k x y p :=
  ⟨hi.hp, hi.hs, hi.hu, hy, by have := hi.he; omega⟩
theorem ins_small (h : HpAt w B b n nf s) {ad : Int} {k x y : Nat} {p : PSt} (hi : InS s.P ad k x y p) : 1048576 ≤ ad ∧ ad < 1048576 + 2048 := by
  have hn := h.ar.num hi.hp
  have h1 := slot_le hn.m hi.hs
  have h2 := hi.hy
  have h3 := hi.he
  have h4 := h.ar.klt hi.hp
  have h5 := h.ar.n64
  unfold adr at h3
  omega
set_option maxHeartbeats 400000 in
theorem hload_in (h : HpAt w B b n nf s) {ad : Int} (f : Nat) (hb : I64 ad) {k x : Nat} {p : PSt} {o : Ob} (hi : InS s.P ad k x 0 p) (ho : s.O k x = some o) {j m : Nat} (hj : o.sh = (j : Int)) (hjl : j < nf.length) (hm : nf.getD j 0 = (m : Int)) (hf : f < m) :
    Calls Tryd.prog 21 #[.pointer (some ⟨b.bh, 0, none⟩), .int .i64 ad, .int .i64 f] w fun e w' => e = .returned (.tuple #[.int .i64 (s.W (32 * k + x * p.sz + f)), .bool true]) ∧ Below w.heap.size w w' := by
  have HS : Hid (Calls Tryd.prog 39 #[.pointer (some ⟨b.bh, 0, none⟩), .int .i64 ad, .int .i64 f] w fun e w' => e = .returned (.bool true) ∧ Below w.heap.size w w') := has_ob h f hb hi ho hj hjl hm (by simp; omega)
  have hsm := ins_small h hi
  obtain ⟨j', m', h1, _, h3, _, h5, h6⟩ := h.sz_fit ho hi.hp
  have e1 : j' = j := by omega
  subst e1
  have e2 : m' = m := by omega
  subst e2
  have HI : Hid (InS s.P (ad + (f : Int)) k x f p) := ins_field hi (by omega)
  have H : Hid (HpAt w B b n nf s) := h
  have hf16 : f < 16 := by omega
  clear h hi ho hj hm h1 h3 h6
  go_enter Tryd.func21, Tryd.ntmps21
  go_wp2_with fail
  refine HS.out.mono ?_
  rintro e w' ⟨rfl, hB⟩
  have H1 : Hid (HpAt w' B b n nf s) := H.out.below hB
  have hc0 := H1.out.c0
  go_wp2_with fail
  refine (load_in (ad + (f : Int)) _ H1.out.ar ⟨by omega, by omega⟩ HI.out).mono ?_
  rintro e w2 ⟨rfl, q, rfl⟩
  go_wp2_with fail
  go_ret2
  exact ⟨rfl, below_drewN hB _⟩

theorem store_nil_h (ad f v : Int) (w : World) : Calls Tryd.prog 20 #[.pointer none, .int .i64 ad, .int .i64 f, .int .i64 v] w fun e w' => e = .returned (.bool false) ∧ Below w.heap.size w w' := by
  go_enter Tryd.func20, Tryd.ntmps20
  go_wp2_with fail
  refine (has_nil ad f _).mono ?_
  rintro e w' ⟨rfl, hB⟩
  go_wp2_with fail
  go_ret
  exact ⟨rfl, hB⟩
set_option maxHeartbeats 400000 in
theorem hstore_no (h : HpAt w B b n nf s) {ad : Int} (f v : Int) (hb : I64 ad) (hn : NoBeg s.P ad) :
    Calls Tryd.prog 20 #[.pointer (some ⟨b.bh, 0, none⟩), .int .i64 ad, .int .i64 f, .int .i64 v] w fun e w' => e = .returned (.bool false) ∧ Below w.heap.size w w' := by
  have H : Hid (HpAt w B b n nf s) := h
  clear h
  go_enter Tryd.func20, Tryd.ntmps20
  go_wp2_with fail
  refine (has_no H.out f hb hn).mono ?_
  rintro e w' ⟨rfl, hB⟩
  go_wp2_with fail
  go_ret
  exact ⟨rfl, hB⟩
set_option maxHeartbeats 400000 in
theorem hstore_over (h : HpAt w B b n nf s) {ad : Int} (f v : Int) (hb : I64 ad) {k x : Nat} {p : PSt} {o : Ob} (hi : InS s.P ad k x 0 p) (ho : s.O k x = some o) {j m : Nat} (hj : o.sh = (j : Int)) (hjl : j < nf.length) (hm : nf.getD j 0 = (m : Int)) (hr : f < 0 ∨ (m : Int) ≤ f) :
    Calls Tryd.prog 20 #[.pointer (some ⟨b.bh, 0, none⟩), .int .i64 ad, .int .i64 f, .int .i64 v] w fun e w' => e = .returned (.bool false) ∧ Below w.heap.size w w' := by
  have HS : Hid (Calls Tryd.prog 39 #[.pointer (some ⟨b.bh, 0, none⟩), .int .i64 ad, .int .i64 f] w fun e w' => e = .returned (.bool false) ∧ Below w.heap.size w w') := has_ob h f hb hi ho hj hjl hm (by simp; omega)
  clear h hi ho hj hm hr
  go_enter Tryd.func20, Tryd.ntmps20
  go_wp2_with fail
  refine HS.out.mono ?_
  rintro e w' ⟨rfl, hB⟩
  go_wp2_with fail
  go_ret
  exact ⟨rfl, hB⟩
set_option maxHeartbeats 400000 in
theorem hstore_in (h : HpAt w B b n nf s) {ad : Int} (f : Nat) (v : Int) (hb : I64 ad) {k x : Nat} {p : PSt} {o : Ob} (hi : InS s.P ad k x 0 p) (ho : s.O k x = some o) {j m : Nat} (hj : o.sh = (j : Int)) (hjl : j < nf.length) (hm : nf.getD j 0 = (m : Int)) (hf : f < m) :
    Calls Tryd.prog 20 #[.pointer (some ⟨b.bh, 0, none⟩), .int .i64 ad, .int .i64 f, .int .i64 v] w fun e w' => e = .returned (.bool true) ∧
      HpAt w' B b n nf { s with W := upW s.W (32 * k + x * p.sz + f) v } ∧ Hf B b w w' := by
  have HS : Hid (Calls Tryd.prog 39 #[.pointer (some ⟨b.bh, 0, none⟩), .int .i64 ad, .int .i64 f] w fun e w' => e = .returned (.bool true) ∧ Below w.heap.size w w') := has_ob h f hb hi ho hj hjl hm (by simp; omega)
  have hsm := ins_small h hi
  obtain ⟨j', m', h1, _, h3, _, h5, h6⟩ := h.sz_fit ho hi.hp
  have e1 : j' = j := by omega
  subst e1
  have e2 : m' = m := by omega
  subst e2
  have HI : Hid (InS s.P (ad + (f : Int)) k x f p) := ins_field hi (by omega)
  have H : Hid (HpAt w B b n nf s) := h
  have hf16 : f < 16 := by omega
  clear h hi ho hj hm h1 h3 h6
  go_enter Tryd.func20, Tryd.ntmps20
  go_wp2_with fail
  refine HS.out.mono ?_
  rintro e w' ⟨rfl, hB⟩
  have H1 : Hid (HpAt w' B b n nf s) := H.out.below hB
  have HB : Hid (Below w.heap.size w w') := hB
  clear hB
  have hc0 := H1.out.c0
  go_wp2_with fail
  refine (store_in (ad + (f : Int)) _ H1.out.ar ⟨by omega, by omega⟩ v HI.out).mono ?_
  rintro e w2 ⟨rfl, ha, hg⟩
  have hA : Af B b w' w2 := Fz.of_but hg (by simp)
  have HF : Hid (HpAt w2 B b n nf { s with W := upW s.W (32 * k + x * p.sz + f) v }) := H1.out.arena ha hA H1.out.use H1.out.fit
  have HG : Hid (Hf B b w w2) := (Fz.of_below HB.out).trans hA.heap
  clear ha hg hA hc0 H1 HB
  go_wp2_with fail
  go_ret
  exact ⟨rfl, HF.out, HG.out⟩

/-! ### Shade, Finish -/
theorem shade_nil (ad : Int) (w : World) : Calls Tryd.prog 12 #[.pointer none, .int .i64 ad] w fun e w' => e = .returned (.bool false) ∧ Below w.heap.size w w' := by
  go_enter Tryd.func12, Tryd.ntmps12
  go_wp2_with fail
  refine (turn_nil ad 0 1 _).mono ?_
  rintro e w' ⟨rfl, hB⟩
  go_wp2_with fail
  go_ret
  exact ⟨rfl, hB⟩
theorem shade_no (h : HpAt w B b n nf s) {ad : Int} (hb : I64 ad) (hn : NoBeg s.P ad) :
    Calls Tryd.prog 12 #[.pointer (some ⟨b.bh, 0, none⟩), .int .i64 ad] w fun e w' => e = .returned (.bool false) ∧ Below w.heap.size w w' := by
  have H : Hid (HpAt w B b n nf s) := h
  clear h
  go_enter Tryd.func12, Tryd.ntmps12
  go_wp2_with fail
  refine (turn_no H.out 0 1 hb hn).mono ?_
  rintro e w' ⟨rfl, hB⟩
  go_wp2_with fail
  go_ret
  exact ⟨rfl, hB⟩
theorem shade_other (h : HpAt w B b n nf s) {ad : Int} (hb : I64 ad) {k x : Nat} {p : PSt} {o : Ob} (hi : InS s.P ad k x 0 p) (ho : s.O k x = some o) (hc : o.co ≠ 0) :
    Calls Tryd.prog 12 #[.pointer (some ⟨b.bh, 0, none⟩), .int .i64 ad] w fun e w' => e = .returned (.bool false) ∧ Below w.heap.size w w' := by
  have H : Hid (Calls Tryd.prog 29 _ w _) := turn_other h 0 1 hb hi ho hc
  clear h hi ho
  go_enter Tryd.func12, Tryd.ntmps12
  go_wp2_with fail
  refine H.out.mono ?_
  rintro e w' ⟨rfl, hB⟩
  go_wp2_with fail
  go_ret
  exact ⟨rfl, hB⟩
theorem shade_yes (h : HpAt w B b n nf s) {ad : Int} (hb : I64 ad) {k x : Nat} {p : PSt} {o : Ob} (hi : InS s.P ad k x 0 p) (ho : s.O k x = some o) (hc : o.co = 0) :
    Calls Tryd.prog 12 #[.pointer (some ⟨b.bh, 0, none⟩), .int .i64 ad] w fun e w' => e = .returned (.bool true) ∧
      HpAt w' B b n nf { s with O := upO s.O k x (some ⟨o.sh, o.se, 1⟩) } ∧ Hf B b w w' := by
  have H : Hid (Calls Tryd.prog 29 _ w _) := turn_yes h 0 1 hb hi ho hc
  clear h hi ho
  go_enter Tryd.func12, Tryd.ntmps12
  go_wp2_with fail
  refine H.out.mono ?_
  rintro e w' ⟨rfl, h1, h2⟩
  go_wp2_with fail
  go_ret
  exact ⟨rfl, h1, h2⟩

/-! ### Given -/
theorem given_any (h : HpAt w B b n nf s) : Calls Tryd.prog 19 #[.pointer (some ⟨b.bh, 0, none⟩)] w fun e w' => e = .returned (.int .i64 s.giv) ∧ w' = w := by
  have h4 := h.c4
  clear h
  go_enter Tryd.func19, Tryd.ntmps19
  go_wp2
  go_ret
  exact ⟨rfl, rfl⟩

/-! ### Fresh -/
theorem fresh_bad (h : HpAt w B b n nf s) {c : Int} (hc : c < 0 ∨ 7 < c) :
    Calls Tryd.prog 10 #[.pointer (some ⟨b.bh, 0, none⟩), .int .i64 c] w fun e w' => e = .returned (.bool false) ∧ w' = w := by
  have hc0 := h.c0
  have HA : Hid (ArAt w B b.ba b.bp b.bw n s.P s.W) := h.ar
  clear h
  go_enter Tryd.func10, Tryd.ntmps10
  go_wp2_with fail
  refine (grow_bad c _ hc).mono ?_
  rintro e w' ⟨rfl, rfl⟩
  go_wp2_with fail
  go_ret
  exact ⟨rfl, rfl⟩
theorem fresh_full (h : HpAt w B b n nf s) {c : Int} (h0 : 0 ≤ c) (h7 : c ≤ 7) (hf : ∀ k, k < n → s.P k ≠ none) :
    Calls Tryd.prog 10 #[.pointer (some ⟨b.bh, 0, none⟩), .int .i64 c] w fun e w' => e = .returned (.bool false) ∧ Below w.heap.size w w' := by
  have hc0 := h.c0
  have HA : Hid (ArAt w B b.ba b.bp b.bw n s.P s.W) := h.ar
  have HF : Hid (∀ k, k < n → s.P k ≠ none) := hf
  clear h hf
  go_enter Tryd.func10, Tryd.ntmps10
  go_wp2_with fail
  refine (grow_full c _ HA.out h0 h7 HF.out).mono ?_
  rintro e w' ⟨rfl, hB⟩
  go_wp2_with fail
  go_ret
  exact ⟨rfl, hB⟩
theorem HpAt.newP (h : HpAt w B b n nf s) {w' : World} {k pb : Nat} {c : Int} (hp : s.P k = none) (ha : ArAt w' B b.ba b.bp b.bw n (upP s.P k (some ⟨pb, c, fun _ => false, fun _ => false⟩)) s.W) (hg : But b.bp w w') :
    HpAt w' B b n nf { s with P := upP s.P k (some ⟨pb, c, fun _ => false, fun _ => false⟩) } := by
  refine h.arena ha (Fz.of_but hg (by simp)) (fun k' x => ?_) (fun k' x o ho => ?_)
  · rw [h.use k' x]
    by_cases e : k' = k
    · subst e
      rw [upP_same]
      constructor
      · rintro ⟨p, h1, _⟩
        rw [hp] at h1; cases h1
      · rintro ⟨p, h1, _, h3⟩
        cases h1; cases h3
    · rw [upP_other _ _ e]
  · obtain ⟨j, p, h1, h2, h3, h4⟩ := h.fit k' x o ho
    refine ⟨j, p, h1, h2, ?_, h4⟩
    have e : k' ≠ k := by intro e; rw [e, hp] at h3; cases h3
    rw [upP_other _ _ e]; exact h3
theorem fresh_some (h : HpAt w B b n nf s) {c : Int} (h0 : 0 ≤ c) (h7 : c ≤ 7) {k : Nat} (hk : k < n) (hp : s.P k = none) (hf : ∀ j, j < k → s.P j ≠ none) (hBw : B ≤ w.heap.size) :
    Calls Tryd.prog 10 #[.pointer (some ⟨b.bh, 0, none⟩), .int .i64 c] w fun e w' => e = .returned (.bool true) ∧ ∃ pb,
      HpAt w' B b n nf { s with P := upP s.P k (some ⟨pb, c, fun _ => false, fun _ => false⟩) } ∧ Hf B b w w' := by
  have hc0 := h.c0
  have H : Hid (HpAt w B b n nf s) := h
  have HF : Hid (∀ j, j < k → s.P j ≠ none) := hf
  have HP : Hid (s.P k = none) := hp
  clear h hf hp
  go_enter Tryd.func10, Tryd.ntmps10
  go_wp2_with fail
  refine (grow_some c _ H.out.ar h0 h7 hk HP.out HF.out hBw).mono ?_
  rintro e w' ⟨rfl, pb, hb, ha, hg⟩
  have H1 : Hid (HpAt w' B b n nf { s with P := upP s.P k (some ⟨pb, c, fun _ => false, fun _ => false⟩) }) := H.out.newP HP.out ha hg
  have H2 : Hid (Hf B b w w') := Fz.of_but hg (by simp)
  clear ha hg
  go_wp2_with fail
  go_ret
  exact ⟨rfl, pb, H1.out, H2.out⟩
end

end Go.Proofs.YtfkimmbnmcgjiaaDoor

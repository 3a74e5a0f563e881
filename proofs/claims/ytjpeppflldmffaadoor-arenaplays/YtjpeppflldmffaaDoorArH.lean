/- Calls on a nil Arena; an Arena beside what was there; the walk of besomlaw6's alive. -/
import Derived.Test.YtjpeppflldmffaaDoorArE
import Derived.Test.YtjpeppflldmffaaDoorArF
namespace Go.Proofs.YtjpeppflldmffaaDoor
open Go.RowKit

set_option maxHeartbeats 400000 in
theorem find_nil (ad : Int) (w : World) (hb : I64 ad) : Calls Tryd.prog 19 #[.pointer none, .int .i64 ad] w fun e w' => e = .returned (.tuple #[.int .i64 0, .bool false]) ∧ ∃ q, w' = w.drewN q := by
  go_enter Tryd.func19, Tryd.ntmps19
  go_wp2_with fail
  refine (locn_any ad _ hb).mono ?_
  rintro e w' ⟨rfl, q, rfl⟩
  go_wp2_with fail
  go_ret2
  exact ⟨rfl, q, rfl⟩
set_option maxHeartbeats 400000 in
theorem load_nil (ad : Int) (w : World) (hb : I64 ad) : Calls Tryd.prog 20 #[.pointer none, .int .i64 ad] w fun e w' => e = .returned (.tuple #[.int .i64 0, .bool false]) ∧ ∃ q, w' = w.drewN q := by
  go_enter Tryd.func20, Tryd.ntmps20
  go_wp2_with fail
  refine (locn_any ad _ hb).mono ?_
  rintro e w' ⟨rfl, q, rfl⟩
  go_wp2_with fail
  go_ret2
  exact ⟨rfl, q, rfl⟩
set_option maxHeartbeats 400000 in
theorem store_nil (ad v : Int) (w : World) (hb : I64 ad) : Calls Tryd.prog 13 #[.pointer none, .int .i64 ad, .int .i64 v] w fun e w' => e = .returned (.bool false) ∧ ∃ q, w' = w.drewN q := by
  go_enter Tryd.func13, Tryd.ntmps13
  go_wp2_with fail
  refine (locn_any ad _ hb).mono ?_
  rintro e w' ⟨rfl, q, rfl⟩
  go_wp2_with fail
  go_ret
  exact ⟨rfl, q, rfl⟩
set_option maxHeartbeats 400000 in
theorem asize_nil (ad : Int) (w : World) (hb : I64 ad) : Calls Tryd.prog 21 #[.pointer none, .int .i64 ad] w fun e w' => e = .returned (.int .i64 0) ∧ ∃ q, w' = w.drewN q := by
  go_enter Tryd.func21, Tryd.ntmps21
  go_wp2_with fail
  refine (locn_any ad _ hb).mono ?_
  rintro e w' ⟨rfl, q, rfl⟩
  go_wp2_with fail
  go_ret
  exact ⟨rfl, q, rfl⟩
set_option maxHeartbeats 400000 in
theorem afree_nil (ad : Int) (w : World) (hb : I64 ad) : Calls Tryd.prog 12 #[.pointer none, .int .i64 ad] w fun e w' => e = .returned (.bool false) ∧ ∃ q, w' = w.drewN q := by
  go_enter Tryd.func12, Tryd.ntmps12
  go_wp2_with fail
  refine (locn_any ad _ hb).mono ?_
  rintro e w' ⟨rfl, q, rfl⟩
  go_wp2_with fail
  go_ret
  exact ⟨rfl, q, rfl⟩
set_option maxHeartbeats 400000 in
theorem drop_nil (k : Int) (w : World) : Calls Tryd.prog 14 #[.pointer none, .int .i64 k] w fun e w' => e = .returned (.bool false) ∧ w' = w := by
  go_enter Tryd.func14, Tryd.ntmps14
  go_wp2_with fail
  refine (page_nil _ _).mono ?_
  rintro e w' ⟨rfl, rfl⟩
  go_wp2_with fail
  refine (count_nil _).mono ?_
  rintro e w' ⟨rfl, rfl⟩
  go_wp2_with fail
  refine (classed_nil _).mono ?_
  rintro e w' ⟨rfl, rfl⟩
  go_wp2_with fail
  go_ret
  exact ⟨rfl, rfl⟩
set_option maxHeartbeats 400000 in
theorem room_nil (w : World) : Calls Tryd.prog 17 #[.pointer none] w fun e w' => e = .returned (.tuple #[.int .i64 0, .int .i64 0]) ∧ w' = w := by
  go_enter Tryd.func17, Tryd.ntmps17
  go_wp2
  go_ret2
  exact ⟨rfl, rfl⟩

/-- IN MEMORY: the Arena; what was there in w is as it was, the library's table among it. -/
structure AS (w wr : World) (ba bp bw n : Nat) (P : Nat → Option PSt) (W : Nat → Int) : Prop where
  ar : ArAt wr w.heap.size ba bp bw n P W
  lo : Below w.heap.size w wr
  t0 : Tab w
section
variable {w wr w' : World} {ba bp bw n : Nat} {P P' : Nat → Option PSt} {W W' : Nat → Int} (h : AS w wr ba bp bw n P W)
include h
theorem AS.tb : Tab wr := h.t0.below h.lo h.t0.size
theorem AS.drewN (q : Nat) : AS w (wr.drewN q) ba bp bw n P W := ⟨h.ar.drewN q, below_drewN h.lo q, h.t0⟩
theorem AS.below (hb : Below wr.heap.size wr w') : AS w w' ba bp bw n P W := ⟨h.ar.below hb, h.lo.trans (hb.mono h.lo.size), h.t0⟩
theorem AS.but {k : Nat} (hb : But k wr w') (hk : w.heap.size ≤ k) (ha : ArAt w' w.heap.size ba bp bw n P' W') : AS w w' ba bp bw n P' W' := ⟨ha, h.lo.trans (hb.below hk h.lo.size), h.t0⟩
theorem AS.but2 {k k' : Nat} {w2 : World} (hb : But k wr w2) (hk : w.heap.size ≤ k) (hb' : But k' w2 w') (hk' : w.heap.size ≤ k') (ha : ArAt w' w.heap.size ba bp bw n P' W') : AS w w' ba bp bw n P' W' :=
  ⟨ha, (h.lo.trans (hb.below hk h.lo.size)).trans (hb'.below hk' (Nat.le_trans h.lo.size hb.size)), h.t0⟩
end

theorem up_first : ∀ y, y < 1 → up (fun _ => false) 0 true y = true := by
  intro y hy
  have : y = 0 := by omega
  subst this; rfl
theorem i64_small {n : Nat} (h : n ≤ 3000000) : I64 (n : Int) := ⟨by omega, by omega⟩

set_option maxRecDepth 100000 in
set_option maxHeartbeats 1000000 in
theorem alive_any (w : World) (hT : Tab w) :
    Calls Tryd.prog 6 #[] w fun e w' => e = .returned (.bool true) ∧ Below w.heap.size w w' := by
  have HT : Hid (Tab w) := hT
  clear hT
  go_enter Tryd.func6, Tryd.ntmps6
  go_wp2_with fail
  refine (anew_any 2 2 _ (by decide)).mono ?_
  rintro e w1 ⟨ba, bp, bw, rfl, ha, hB⟩
  have H1 : Hid (AS w w1 ba bp bw 2 (fun _ => none) (fun _ => 0)) := ⟨ha, hB, HT.out⟩
  clear ha hB HT
  go_wp2_with fail
  refine (grow_some 4 _ H1.out.ar (by decide) (by decide) (k := 0) (by decide) rfl (fun j hj => by omega) H1.out.lo.size).mono ?_
  rintro e w2 ⟨rfl, b, hb, ha, hg⟩
  have H2 : Hid (AS w w2 ba bp bw 2 (upP (fun _ => none) 0 (some ⟨b, 4, fun _ => false, fun _ => false⟩)) (fun _ => 0)) := H1.out.but hg H1.out.ar.b1 ha
  clear ha hg hb H1
  go_wp2_with fail
  refine (atake_some 4 _ H2.out.ar (k := 0) (z := 0) (p := ⟨b, 4, fun _ => false, fun _ => false⟩) (fun k hk => by omega) ⟨upP_same _ _ _, rfl, by show 0 < (slN 4).toNat; decide, rfl, fun y hy => by omega⟩ H2.out.tb).mono ?_
  rintro e w3 ⟨rfl, ha, w2', hg1, hg2⟩
  have H3 := H2.out.but2 hg1 (H2.out.ar.b3 0 _ (upP_same _ _ _)) hg2 H2.out.ar.b2 ha
  rw [show adr 0 0 (PSt.sz ⟨b, 4, fun _ => false, fun _ => false⟩) = 1048576 from rfl]
  clear ha hg1 hg2 H2
  obtain ⟨W3, hW3⟩ : ∃ W3, W3 = clrF (fun _ => 0) (32 * 0 + 0 * PSt.sz ⟨b, 4, fun _ => false, fun _ => false⟩) (PSt.sz ⟨b, 4, fun _ => false, fun _ => false⟩) := ⟨_, rfl⟩
  rw [← hW3] at H3
  have H3' : Hid (AS w w3 ba bp bw 2 (upP (upP (fun _ => none) 0 (some ⟨b, 4, fun _ => false, fun _ => false⟩)) 0 (some ⟨b, 4, up (fun _ => false) 0 true, fun _ => false⟩)) W3) := H3
  clear H3 hW3
  go_wp2_with fail
  refine (atake_some 4 _ H3'.out.ar (k := 0) (z := 1) (p := ⟨b, 4, up (fun _ => false) 0 true, fun _ => false⟩) (fun k hk => by omega) ⟨upP_same _ _ _, rfl, by show 1 < (slN 4).toNat; decide, rfl, up_first⟩ H3'.out.tb).mono ?_
  rintro e w4 ⟨rfl, ha, w2', hg1, hg2⟩
  have H4 := H3'.out.but2 hg1 (H3'.out.ar.b3 0 _ (upP_same _ _ _)) hg2 H3'.out.ar.b2 ha
  rw [show adr 0 1 (PSt.sz ⟨b, 4, up (fun _ => false) 0 true, fun _ => false⟩) = 1048582 from rfl]
  clear ha hg1 hg2 H3'
  obtain ⟨W4, P4, hp4, hu4, HA4⟩ : ∃ (W4 : Nat → Int) (P4 : Nat → Option PSt) (_ : P4 0 = some ⟨b, 4, up (up (fun _ => false) 0 true) 1 true, fun _ => false⟩) (_ : True), Hid (AS w w4 ba bp bw 2 P4 W4) := ⟨_, _, upP_same _ _ _, trivial, H4⟩
  have HP4 : Hid (InS P4 1048583 0 1 1 ⟨b, 4, up (up (fun _ => false) 0 true) 1 true, fun _ => false⟩ ∧ InS P4 1048582 0 1 0 ⟨b, 4, up (up (fun _ => false) 0 true) 1 true, fun _ => false⟩) :=
    ⟨⟨hp4, by show 1 < (slN 4).toNat; decide, rfl, by show 1 < (szN 4).toNat; decide, rfl⟩, ⟨hp4, by show 1 < (slN 4).toNat; decide, rfl, by show 0 < (szN 4).toNat; decide, rfl⟩⟩
  clear H4 hp4 hu4
  go_wp2_with fail
  refine (find_in _ _ HA4.out.ar (by decide) HP4.out.1).mono ?_
  rintro e w5 ⟨rfl, q, rfl⟩
  rw [show adr 0 1 (PSt.sz ⟨b, 4, up (up (fun _ => false) 0 true) 1 true, fun _ => false⟩) = 1048582 from rfl]
  go_wp2_with fail
  refine (store_in _ _ (HA4.out.drewN q).ar (by decide) 9 HP4.out.1).mono ?_
  rintro e w6 ⟨rfl, ha, hg⟩
  have H6 := (HA4.out.drewN q).but hg HA4.out.ar.b2 ha
  have H6' : Hid (∃ W6, AS w w6 ba bp bw 2 P4 W6) := ⟨_, H6⟩
  clear H6 ha hg
  obtain ⟨W6, H6⟩ := H6'.out
  go_wp2_with fail
  refine (asize_in _ _ H6.ar (by decide) HP4.out.2).mono ?_
  rintro e w7 ⟨rfl, q7, rfl⟩
  rw [show PSt.sz ⟨b, 4, up (up (fun _ => false) 0 true) 1 true, fun _ => false⟩ = 6 from rfl]
  go_wp2_with fail
  go_ret
  exact ⟨rfl, below_drewN H6.lo _⟩

end Go.Proofs.YtjpeppflldmffaaDoor

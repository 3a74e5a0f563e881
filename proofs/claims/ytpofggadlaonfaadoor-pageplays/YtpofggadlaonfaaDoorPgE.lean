/- The walk of besomlaw5's alive. -/
import Derived.Test.YtpofggadlaonfaaDoorPgD
namespace Go.Proofs.YtpofggadlaonfaaDoor
open Go.RowKit

/-- IN MEMORY: the Page; what was there in w is as it was, the library's table among it. -/
structure PS (w wr : World) (b : Nat) (c : Int) (n : Nat) (U M : Nat → Bool) : Prop where
  pg : PgAt wr b c n U M
  lo : Below w.heap.size w wr
  hb : w.heap.size ≤ b
  t0 : Tab w
theorem PS.tb {w wr : World} {b : Nat} {c : Int} {n : Nat} {U M : Nat → Bool} (h : PS w wr b c n U M) : Tab wr := h.t0.below h.lo h.t0.size
theorem PS.but {w wr w' : World} {b : Nat} {c : Int} {n : Nat} {U M U' M' : Nat → Bool} (h : PS w wr b c n U M) (hb : But b wr w') (hp : PgAt w' b c n U' M') : PS w w' b c n U' M' :=
  ⟨hp, h.lo.trans (hb.below h.hb h.lo.size), h.hb, h.t0⟩
theorem PS.below {w wr w' : World} {b : Nat} {c : Int} {n : Nat} {U M : Nat → Bool} (h : PS w wr b c n U M) (hb : Below wr.heap.size wr w') : PS w w' b c n U M :=
  ⟨h.pg.below hb, h.lo.trans (hb.mono h.lo.size), h.hb, h.t0⟩
theorem PS.drewN {w wr : World} {b : Nat} {c : Int} {n : Nat} {U M : Nat → Bool} (h : PS w wr b c n U M) (q : Nat) : PS w (wr.drewN q) b c n U M :=
  ⟨h.pg.drewN q, below_drewN h.lo q, h.hb, h.t0⟩

set_option maxRecDepth 100000 in
set_option maxHeartbeats 1000000 in
theorem alive_any (w : World) (hT : Tab w) :
    Calls Tryd.prog 6 #[] w fun e w' => e = .returned (.bool true) ∧ Below w.heap.size w w' := by
  have HT : Hid (Tab w) := hT
  clear hT
  go_enter Tryd.func6, Tryd.ntmps6
  go_wp2_with fail
  refine (new_any 4 _ (by decide) (by decide)).mono ?_
  rintro e w1 ⟨b, hb, rfl, hp, hB⟩
  rw [show (slN 4).toNat = 5 from by decide] at hp
  have H1 : Hid (PS w w1 b 4 5 (fun _ => false) (fun _ => false)) := ⟨hp, hB, hb, HT.out⟩
  clear hp hB hb HT
  go_wp2_with fail
  refine (take_some _ 0 H1.out.pg H1.out.tb (by decide) rfl (fun y hy => by omega)).mono ?_
  rintro e w2 ⟨rfl, hp, hB⟩
  have H2 : Hid (PS w w2 b 4 5 (up (fun _ => false) 0 true) (fun _ => false)) := H1.out.but hB hp
  clear hp hB H1
  go_wp2_with fail
  refine (take_some _ 1 H2.out.pg H2.out.tb (by decide) rfl (fun y hy => by have : y = 0 := by omega
                                                                            subst this; rfl)).mono ?_
  rintro e w3 ⟨rfl, hp, hB⟩
  have H3 : Hid (PS w w3 b 4 5 (up (up (fun _ => false) 0 true) 1 true) (fun _ => false)) := H2.out.but hB hp
  clear hp hB H2
  go_wp2_with fail
  refine (mark_yes 1 _ H3.out.pg (by decide) rfl rfl).mono ?_
  rintro e w4 ⟨rfl, hp, hB⟩
  have H4 : Hid (PS w w4 b 4 5 (up (up (fun _ => false) 0 true) 1 true) (up (fun _ => false) 1 true)) := H3.out.but hB hp
  clear hp hB H3
  go_wp2_with fail
  refine (sweep_any _ H4.out.pg).mono ?_
  rintro e w5 ⟨r, rfl, ho, hp, hB⟩
  rw [show cnt (goneS (up (up (fun _ => false) 0 true) 1 true) (up (fun _ => false) 1 true)) 5 = 1 from by decide +kernel, show els (goneS (up (up (fun _ => false) 0 true) 1 true) (up (fun _ => false) 1 true)) 5 = [0] from by decide +kernel] at ho
  have H5 : Hid (PS w w5 b 4 5 (up (fun _ => false) 1 true) (fun _ => false)) := H4.out.but hB hp
  obtain ⟨g, cap, rfl, _, _⟩ := ho.form (by decide)
  have hc : w5.cell? ⟨g, 0, none⟩ = some (.int .i64 0) := ho.cellAt 0 (by decide)
  clear hp hB H4 ho
  go_wp2_with fail
  refine (used_is 1 true _ H5.out.pg (by decide)).mono ?_
  rintro e w6 ⟨rfl, q, rfl⟩
  go_wp2_with fail
  refine (marked_is 1 false _ (H5.out.pg.drewN _) (by decide)).mono ?_
  rintro e w6 ⟨rfl, q2, rfl⟩
  go_wp2_with fail
  refine (class_any _ (H5.out.pg.drewN _)).mono ?_
  rintro e w6 ⟨rfl, rfl⟩
  go_wp2_with fail
  go_ret
  exact ⟨rfl, below_drewN H5.out.lo _⟩

end Go.Proofs.YtpofggadlaonfaaDoor

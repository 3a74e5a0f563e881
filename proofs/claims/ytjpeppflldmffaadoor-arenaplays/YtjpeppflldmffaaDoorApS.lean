/- ArenaPlays in parts: the end. -/
import Derived.Test.YtjpeppflldmffaaDoorApQ
import Derived.Test.YtjpeppflldmffaaDoorApR
namespace Go.Proofs.YtjpeppflldmffaaDoor
open Go.RowKit

noncomputable def codeE : Code := (Tryd.f3.body.bind (afterBlock 2)).getD .skip

set_option maxRecDepth 100000 in
set_option maxHeartbeats 8000000 in
theorem ends {w w5 : World} {X : Arg} {I : Ids} {i : Nat} {P : Nat → Option PSt} {W : Nat → Int} (a : Act) (hE : EnvL X I i a) (h : RO w w5 I P W P W) :
    codeE.wp Tryd.prog (bodyPost Tryd.prog Tryd.f3 fun e w' => e = .returned (.bool true) ∧ Below w.heap.size w w') a w5 := by
  have HP : Hid (RO w w5 I P W P W) := h
  obtain ⟨v, ha⟩ := hE.open
  dsimp only at ha
  clear hE h
  subst ha
  conv => arg 2; whnf
  go_wp2_with fail
  refine (atake_nil _ _).mono ?_
  rintro e w6 ⟨rfl, rfl⟩
  go_wp2_with fail
  refine (find_nil _ _ (by decide)).mono ?_
  rintro e w6 ⟨rfl, q1, rfl⟩
  go_wp2_with fail
  refine (load_nil _ _ (by decide)).mono ?_
  rintro e w6 ⟨rfl, q2, rfl⟩
  go_wp2_with fail
  refine (room_nil _).mono ?_
  rintro e w6 ⟨rfl, rfl⟩
  go_wp2_with fail
  refine (grow_nil _ _ (by decide) (by decide)).mono ?_
  rintro e w6 ⟨rfl, hB6⟩
  have H6 := (HP.out.drewN _).below hB6
  have H6' : Hid (RO w w6 I P W P W) := H6
  clear H6 hB6 HP
  go_wp2_with fail
  refine (afree_nil _ _ (by decide)).mono ?_
  rintro e w7 ⟨rfl, q3, rfl⟩
  go_wp2_with fail
  refine (store_nil _ _ _ (by decide)).mono ?_
  rintro e w7 ⟨rfl, q4, rfl⟩
  go_wp2_with fail
  refine (drop_nil _ _).mono ?_
  rintro e w7 ⟨rfl, rfl⟩
  go_wp2_with fail
  refine (page_nil _ _).mono ?_
  rintro e w7 ⟨rfl, rfl⟩
  go_wp2_with fail
  refine (asize_nil _ _ (by decide)).mono ?_
  rintro e w7 ⟨rfl, q5, rfl⟩
  go_wp2_with fail
  refine (base_nil _ _ _).mono ?_
  rintro e w7 ⟨rfl, rfl⟩
  go_wp2_with fail
  refine (aall_nil _).mono ?_
  rintro e w7 ⟨rfl, rfl⟩
  go_wp2_with fail
  have HPz := H6'.out.drewN (q3 + q4 + q5)
  obtain ⟨vi, vw, I', W', hbk, hIl, hIW, hL9⟩ := HPz.bo
  refine (apart_any _ hbk HPz.hB hIW hIl hL9).mono ?_
  rintro e w8 ⟨rfl, hB8⟩
  have HLz : Hid (Below w.heap.size w w8) := HPz.lo.trans (hB8.mono HPz.wB)
  clear hbk hIW hL9 HPz hB8
  go_wp2_with fail
  go_ret
  exact ⟨rfl, HLz.out⟩

end Go.Proofs.YtjpeppflldmffaaDoor

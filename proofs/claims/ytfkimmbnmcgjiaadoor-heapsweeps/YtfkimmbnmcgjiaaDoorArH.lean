/- Calls on a nil Arena; an Arena beside what was there; the walk of besomlaw6's alive. -/
import Derived.Test.YtfkimmbnmcgjiaaDoorArE
import Derived.Test.YtfkimmbnmcgjiaaDoorArF
namespace Go.Proofs.YtfkimmbnmcgjiaaDoor
open Go.RowKit

set_option maxHeartbeats 400000 in
theorem find_nil (ad : Int) (w : World) (hb : I64 ad) : Calls Tryd.prog 36 #[.pointer none, .int .i64 ad] w fun e w' => e = .returned (.tuple #[.int .i64 0, .bool false]) ∧ ∃ q, w' = w.drewN q := by
  go_enter Tryd.func36, Tryd.ntmps36
  go_wp2_with fail
  refine (locn_any ad _ hb).mono ?_
  rintro e w' ⟨rfl, q, rfl⟩
  go_wp2_with fail
  go_ret2
  exact ⟨rfl, q, rfl⟩
set_option maxHeartbeats 400000 in
theorem load_nil (ad : Int) (w : World) (hb : I64 ad) : Calls Tryd.prog 38 #[.pointer none, .int .i64 ad] w fun e w' => e = .returned (.tuple #[.int .i64 0, .bool false]) ∧ ∃ q, w' = w.drewN q := by
  go_enter Tryd.func38, Tryd.ntmps38
  go_wp2_with fail
  refine (locn_any ad _ hb).mono ?_
  rintro e w' ⟨rfl, q, rfl⟩
  go_wp2_with fail
  go_ret2
  exact ⟨rfl, q, rfl⟩
set_option maxHeartbeats 400000 in
theorem store_nil (ad v : Int) (w : World) (hb : I64 ad) : Calls Tryd.prog 40 #[.pointer none, .int .i64 ad, .int .i64 v] w fun e w' => e = .returned (.bool false) ∧ ∃ q, w' = w.drewN q := by
  go_enter Tryd.func40, Tryd.ntmps40
  go_wp2_with fail
  refine (locn_any ad _ hb).mono ?_
  rintro e w' ⟨rfl, q, rfl⟩
  go_wp2_with fail
  go_ret
  exact ⟨rfl, q, rfl⟩
set_option maxHeartbeats 400000 in
theorem afree_nil (ad : Int) (w : World) (hb : I64 ad) : Calls Tryd.prog 32 #[.pointer none, .int .i64 ad] w fun e w' => e = .returned (.bool false) ∧ ∃ q, w' = w.drewN q := by
  go_enter Tryd.func32, Tryd.ntmps32
  go_wp2_with fail
  refine (locn_any ad _ hb).mono ?_
  rintro e w' ⟨rfl, q, rfl⟩
  go_wp2_with fail
  go_ret
  exact ⟨rfl, q, rfl⟩
set_option maxHeartbeats 400000 in
theorem drop_nil (k : Int) (w : World) : Calls Tryd.prog 34 #[.pointer none, .int .i64 k] w fun e w' => e = .returned (.bool false) ∧ w' = w := by
  go_enter Tryd.func34, Tryd.ntmps34
  go_wp2_with fail
  refine (page_nil _ _).mono ?_
  rintro e w' ⟨rfl, rfl⟩
  go_wp2_with fail
  refine (count_nil _).mono ?_
  rintro e w' ⟨rfl, rfl⟩
  go_wp2_with fail
  refine (classed_nil _).mono ?_
  rintro e w' ⟨rfl, rfl⟩
  go_wp2_with fail
  go_ret
  exact ⟨rfl, rfl⟩
/-- IN MEMORY: the Arena; what was there in w is as it was, the library's table among it. -/
structure AS (w wr : World) (ba bp bw n : Nat) (P : Nat → Option PSt) (W : Nat → Int) : Prop where
  ar : ArAt wr w.heap.size ba bp bw n P W
  lo : Below w.heap.size w wr
  t0 : Tab w
section
variable {w wr w' : World} {ba bp bw n : Nat} {P P' : Nat → Option PSt} {W W' : Nat → Int} (h : AS w wr ba bp bw n P W)
include h
theorem AS.tb : Tab wr := h.t0.below h.lo h.t0.size
theorem AS.drewN (q : Nat) : AS w (wr.drewN q) ba bp bw n P W := ⟨h.ar.drewN q, below_drewN h.lo q, h.t0⟩
theorem AS.below (hb : Below wr.heap.size wr w') : AS w w' ba bp bw n P W := ⟨h.ar.below hb, h.lo.trans (hb.mono h.lo.size), h.t0⟩
theorem AS.but {k : Nat} (hb : But k wr w') (hk : w.heap.size ≤ k) (ha : ArAt w' w.heap.size ba bp bw n P' W') : AS w w' ba bp bw n P' W' := ⟨ha, h.lo.trans (hb.below hk h.lo.size), h.t0⟩
theorem AS.but2 {k k' : Nat} {w2 : World} (hb : But k wr w2) (hk : w.heap.size ≤ k) (hb' : But k' w2 w') (hk' : w.heap.size ≤ k') (ha : ArAt w' w.heap.size ba bp bw n P' W') : AS w w' ba bp bw n P' W' :=
  ⟨ha, (h.lo.trans (hb.below hk h.lo.size)).trans (hb'.below hk' (Nat.le_trans h.lo.size hb.size)), h.t0⟩
end

theorem up_first : ∀ y, y < 1 → up (fun _ => false) 0 true y = true := by
  intro y hy
  have : y = 0 := by omega
  subst this; rfl
theorem i64_small {n : Nat} (h : n ≤ 3000000) : I64 (n : Int) := ⟨by omega, by omega⟩

end Go.Proofs.YtfkimmbnmcgjiaaDoor

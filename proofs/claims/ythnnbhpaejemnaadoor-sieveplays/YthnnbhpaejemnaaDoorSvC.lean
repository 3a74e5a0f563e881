/- A Sieve in memory, and the walks of New, may, Has, Word. -/
import Derived.Test.YthnnbhpaejemnaaDoorSvA
import Derived.Test.YthnnbhpaejemnaaDoorSvB
import Derived.Deep.OwnRows
import Derived.Deep.QuietTactic
import Derived.BigQuiet
namespace Go.Proofs.YthnnbhpaejemnaaDoor
open Go.RowKit

/-- How many words a Sieve for n numbers has. -/
def svK (n : Nat) : Nat := (n + 63) / 64
def svHead (n bw : Nat) (i : Nat) : Value := if i = 0 then .int .i64 n else .slice (some ⟨bw, 0, none⟩) (svK n) (svK n)
/-- THE SIEVE AT BLOCK b, ITS WORDS AT BLOCK bw, FOR THE NUMBERS BELOW n, HOLDS THE SET S. -/
structure SvAt (w : World) (b bw n : Nat) (S : Nat → Bool) : Prop where
  hd : w.rowIs b 56 2 (svHead n bw)
  ws : w.rowIs bw 40 (svK n) (fun j => .int .u64 (wd S j))
  le : n ≤ 4096
  out : ∀ x, n ≤ x → S x = false

theorem SvAt.cn {w : World} {b bw n : Nat} {S : Nat → Bool} (h : SvAt w b bw n S) : w.cell? ⟨b, 0, none⟩ = some (.int .i64 n) := h.hd.cell (i := 0) (by decide)
theorem SvAt.cw {w : World} {b bw n : Nat} {S : Nat → Bool} (h : SvAt w b bw n S) : w.cell? ⟨b, 1, none⟩ = some (.slice (some ⟨bw, 0, none⟩) (svK n) (svK n)) := h.hd.cell (i := 1) (by decide)
theorem SvAt.cs {w : World} {b bw n : Nat} {S : Nat → Bool} (h : SvAt w b bw n S) (j : Nat) (hj : j < svK n) : w.cell? ⟨bw, j, none⟩ = some (.int .u64 (wd S j)) := h.ws.cell hj

/-- May k be in it? -/
def mayB (n : Nat) (k : Int) : Bool := decide (0 ≤ k) && decide (k < n)

set_option maxHeartbeats 400000 in
theorem may_nil (k : Int) (w : World) :
    Calls Tryd.prog 26 #[.pointer none, .int .i64 k] w fun e w' => e = .returned (.bool false) ∧ w' = w := by
  go_enter Tryd.func26, Tryd.ntmps26
  go_wp2
  go_ret
  exact ⟨rfl, rfl⟩

set_option maxHeartbeats 400000 in
theorem may_any (k : Int) (w : World) {b bw n : Nat} {S : Nat → Bool} (h : SvAt w b bw n S) :
    Calls Tryd.prog 26 #[.pointer (some ⟨b, 0, none⟩), .int .i64 k] w fun e w' => e = .returned (.bool (mayB n k)) ∧ w' = w := by
  have hn := h.cn
  clear h
  go_enter Tryd.func26, Tryd.ntmps26
  by_cases h1 : 0 ≤ k
  · go_wp2
    go_ret
    exact ⟨by simp [mayB, h1], rfl⟩
  · go_wp2
    go_ret
    exact ⟨by simp [mayB]; omega, rfl⟩

theorem Tryd.info40 : (Tryd.prog.info? 40).map (fun i => (i.zero, i.size, i.bytes)) = some (some (.int .u64 0), 1, 8) := by kernel_rfl

set_option maxHeartbeats 400000 in
theorem new_core (n : Int) (m k : Nat) (w : World) (hm : min (max n 0) 4096 = (m : Int)) (hm1 : m ≤ 4096) (hk : ((m : Int) + 63) / 64 = (k : Int)) (hk1 : k ≤ 64) :
    Calls Tryd.prog 8 #[.int .i64 n] w fun e w' => e = .returned (.pointer (some ⟨w.heap.size + 1, 0, none⟩)) ∧
      w' = (w.alloc (.cells (madeCells #[.int .u64 0] k) 40)).alloc (.cells #[.int .i64 m, .slice (some ⟨w.heap.size, 0, none⟩) k k] 56) := by
  have hmk := run_make_row' (P := Tryd.prog) 53 40 (.int .u64 0) 8 Tryd.underlying53 Tryd.info40 rfl .i64 .i64 k (by omega) (by omega)
  go_enter Tryd.func8, Tryd.ntmps8
  go_wp2_with (go_at_call 24; refine (between_any _ _ _ _).mono ?_; rintro e w' ⟨rfl, rfl⟩)
  go_ret
  exact ⟨rfl, rfl⟩

/-- A block that was there is as it was, but for block k. -/
structure But (k : Nat) (w w' : World) : Prop where
  os : w'.os = w.os
  tape : w'.tape = w.tape
  output : w'.output = w.output
  size : w.heap.size ≤ w'.heap.size
  block : ∀ i, i < w.heap.size → i ≠ k → w'.heap[i]? = w.heap[i]?

theorem But.refl (k : Nat) (w : World) : But k w w := ⟨rfl, rfl, rfl, Nat.le_refl _, fun _ _ _ => rfl⟩
theorem But.trans {k : Nat} {a b c : World} (h : But k a b) (g : But k b c) : But k a c :=
  ⟨g.os.trans h.os, g.tape.trans h.tape, g.output.trans h.output, Nat.le_trans h.size g.size, fun i hi hk => (g.block i (Nat.lt_of_lt_of_le hi h.size) hk).trans (h.block i hi hk)⟩
theorem But.drewN {k : Nat} {a w : World} (h : But k a w) (n : Nat) : But k a (w.drewN n) := ⟨h.os, h.tape, h.output, h.size, h.block⟩
theorem But.drew {k : Nat} {a w : World} (h : But k a w) : But k a w.drew := ⟨h.os, h.tape, h.output, h.size, h.block⟩
theorem But.setCell {k : Nat} {a w : World} (h : But k a w) (o : Nat) (v : Value) : But k a (w.setCell ⟨k, o, none⟩ v) :=
  h.trans ⟨rfl, rfl, rfl, by simp [World.setCell], fun i _ hk => Below.heap_setCell _ _ _ _ hk⟩
theorem But.below {B k : Nat} {w w' : World} (h : But k w w') (hB : B ≤ k) (hw : B ≤ w.heap.size) : Below B w w' :=
  ⟨h.os, h.tape, h.output, h.size, fun i hi => h.block i (by omega) (by omega)⟩
theorem But.row {k b : Nat} {t : TypeId} {n : Nat} {f : Nat → Value} {w w' : World} (h : But k w w') (r : w.rowIs b t n f) (hb : b ≠ k) : w'.rowIs b t n f := r.of_block (h.block b r.lt hb)

theorem madeWords (w : World) (k : Nat) (t : TypeId) : (w.alloc (.cells (madeCells #[.int .u64 0] k) t)).rowIs w.heap.size t k (fun j => .int .u64 (wd (fun _ => false) j)) :=
  (World.rowIs_made w _ k t).congr fun j _ => by rw [wd_zero]; rfl

/-- How many numbers a Sieve that was asked for n is for. -/
def svN (n : Int) : Nat := (min (max n 0) 4096).toNat

theorem new_any (n : Int) (w : World) :
    Calls Tryd.prog 8 #[.int .i64 n] w fun e w' => ∃ b bw, w.heap.size ≤ b ∧ w.heap.size ≤ bw ∧ e = .returned (.pointer (some ⟨b, 0, none⟩)) ∧
      SvAt w' b bw (svN n) (fun _ => false) ∧ Below w.heap.size w w' := by
  have hm : min (max n 0) 4096 = ((svN n : Nat) : Int) := by unfold svN; omega
  have hk : ((svN n : Nat) : Int) + 63 = ((svN n + 63 : Nat) : Int) := by omega
  have hl : svN n ≤ 4096 := by unfold svN; omega
  refine (new_core n (svN n) (svK (svN n)) w hm hl (by unfold svK; omega) (by unfold svK; omega)).mono ?_
  rintro e w' ⟨rfl, rfl⟩
  refine ⟨_, w.heap.size, by omega, Nat.le_refl _, rfl, ⟨?_, (madeWords w _ _).alloc _, hl, fun _ _ => rfl⟩, ?_⟩
  · have := World.rowIs_alloc (w.alloc (.cells (madeCells #[.int .u64 0] (svK (svN n))) 40)) #[.int .i64 (svN n : Nat), .slice (some ⟨w.heap.size, 0, none⟩) (svK (svN n)) (svK (svN n))] 56 (svHead (svN n) w.heap.size)
      (fun i hi => by
        have : i = 0 ∨ i = 1 := by simp at hi; omega
        rcases this with rfl | rfl <;> rfl)
    simpa using this
  · exact ((Below.refl _ _).alloc (Nat.le_refl _) _).alloc (by simp) _

end Go.Proofs.YthnnbhpaejemnaaDoor

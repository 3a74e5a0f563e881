/- A Pile in memory; the walks of New, ready, Len, Lost, Found, Clear, Take. -/
import Derived.Test.YtckljbjnhgnkgaaFs
import Derived.Deep.RegionWith
namespace Go.Proofs.Ytckljbjnhgnkgaa
open Go.RowKit

def piC (v : Value) (R : Nat) (l : Bool) (i : Nat) : Value := if i = 0 then v else if i = 1 then .int .i64 R else .bool l

/-- THE PILE AT BLOCK b: room for R numbers, L is there (the last one on top), lost or not; v is the slice that it keeps them in. -/
structure PiAt (w : World) (B b : Nat) (v : Value) (R : Nat) (L : List Int) (l : Bool) : Prop where
  hd : w.rowIs b 39 3 (piC v R l)
  ow : w.ownsRow B 2 1 v L.length (L.map (Value.int .i64))
  r1 : 1 ≤ R
  r2 : R ≤ 1000
  le : L.length ≤ R
  bB : B ≤ b

/-- What a call on a Pile may change: its block b, the row o. -/
structure Pf (b : Nat) (o : Option Nat) (w w' : World) : Prop where
  os : w'.os = w.os
  tape : w'.tape = w.tape
  output : w'.output = w.output
  size : w.heap.size ≤ w'.heap.size
  block : ∀ i, i < w.heap.size → i ≠ b → o ≠ some i → w'.heap[i]? = w.heap[i]?

theorem Pf.refl (b : Nat) (o : Option Nat) (w : World) : Pf b o w w := ⟨rfl, rfl, rfl, Nat.le_refl _, fun _ _ _ _ => rfl⟩
theorem Pf.trans {b : Nat} {o o' : Option Nat} {a m c : World} (h : Pf b o a m) (g : Pf b o' m c) (ho : o' = o ∨ ∀ k, o' = some k → a.heap.size ≤ k) : Pf b o a c :=
  ⟨g.os.trans h.os, g.tape.trans h.tape, g.output.trans h.output, Nat.le_trans h.size g.size, fun i hi hb hk =>
    (g.block i (Nat.lt_of_lt_of_le hi h.size) hb (fun e => by
      rcases ho with ho | ho
      · exact hk (ho ▸ e)
      · have := ho i e; omega)).trans (h.block i hi hb hk)⟩
theorem Pf.of_but {b : Nat} {o : Option Nat} {a c : World} (h : But b a c) : Pf b o a c := ⟨h.os, h.tape, h.output, h.size, fun i hi hb _ => h.block i hi hb⟩
theorem Pf.of_below {b : Nat} {o : Option Nat} {a c : World} (h : Below a.heap.size a c) : Pf b o a c := ⟨h.os, h.tape, h.output, h.size, fun i hi _ _ => h.block i hi⟩
theorem Pf.of_grown {b : Nat} {o : Option Nat} {a c : World} (h : a.grownBy c o) : Pf b o a c := ⟨h.os, h.tape, h.output, h.size, fun i hi _ ho => h.block i hi (fun e => ho e.symm)⟩
theorem Pf.drewN {b : Nat} {o : Option Nat} {a c : World} (h : Pf b o a c) (q : Nat) : Pf b o a (c.drewN q) := ⟨h.os, h.tape, h.output, h.size, h.block⟩
theorem Pf.below {B b : Nat} {o : Option Nat} {a c : World} (h : Pf b o a c) (hb : B ≤ b) (ho : ∀ k, o = some k → B ≤ k) (hB : B ≤ a.heap.size) : Below B a c :=
  ⟨h.os, h.tape, h.output, h.size, fun i hi => h.block i (by omega) (by omega) (fun e => by have := ho i e; omega)⟩

section
variable {w : World} {B b : Nat} {v : Value} {R : Nat} {L : List Int} {l : Bool}

theorem PiAt.c0 (h : PiAt w B b v R L l) : w.cell? ⟨b, 0, none⟩ = some v := h.hd.cell (i := 0) (by decide)
theorem PiAt.c1 (h : PiAt w B b v R L l) : w.cell? ⟨b, 1, none⟩ = some (.int .i64 R) := h.hd.cell (i := 1) (by decide)
theorem PiAt.c2 (h : PiAt w B b v R L l) : w.cell? ⟨b, 2, none⟩ = some (.bool l) := h.hd.cell (i := 2) (by decide)
theorem PiAt.lt (h : PiAt w B b v R L l) : b < w.heap.size := h.hd.lt
theorem PiAt.fz (h : PiAt w B b v R L l) (i : Nat) : w.frozen? ⟨b, i, none⟩ = false := h.hd.frozen i
theorem PiAt.len (h : PiAt w B b v R L l) : ∃ a c, v = .slice a L.length c := own_len h.ow
theorem PiAt.below {w' : World} (h : PiAt w B b v R L l) (hb : Below w.heap.size w w') : PiAt w' B b v R L l :=
  ⟨h.hd.of_block (hb.block _ h.lt), (Ty.of_below (K := []) (B := 0) hb).own h.ow (by simp), h.r1, h.r2, h.le, h.bB⟩
theorem PiAt.drewN (h : PiAt w B b v R L l) (q : Nat) : PiAt (w.drewN q) B b v R L l := ⟨h.hd, h.ow, h.r1, h.r2, h.le, h.bB⟩
theorem PiAt.alloc (h : PiAt w B b v R L l) (o : Obj) : PiAt (w.alloc o) B b v R L l := h.below ((Below.refl _ _).alloc (Nat.le_refl _) o)
theorem PiAt.own (h : PiAt w B b v R L l) : ∀ k, v.ownBlock = some k → B ≤ k := fun k hk => (h.ow.lt k hk).1
theorem PiAt.ne (h : PiAt w B b v R L l) : v.ownBlock ≠ some b := by
  intro e
  rcases h.ow.2 with ⟨rfl, _⟩ | ⟨g, cap, cur, rfl, _, hg, _⟩
  · simp [Value.ownBlock] at e
  · simp [Value.ownBlock] at e
    obtain ⟨c, hc, _⟩ := h.hd
    rw [← e, hg] at hc
    simp at hc
/-- Nothing of another type than a Pile's. -/
theorem PiAt.ty {w' : World} (h : PiAt w B b v R L l) (hf : Pf b v.ownBlock w w') : Ty [39, 2] B w w' := by
  refine ⟨hf.os, hf.tape, hf.output, hf.size, fun i hi hb => hf.block i hi (by have := h.bB; omega) (fun e => by have := h.own i e; omega), fun i cs t fz hc ht => ?_⟩
  obtain ⟨hlt, _⟩ := Array.getElem?_eq_some_iff.1 hc
  refine hf.block i hlt (fun e => ?_) (fun e => ?_)
  · obtain ⟨c, h1, _⟩ := h.hd
    rw [← e, hc] at h1
    simp at h1
    simp [h1.2.1] at ht
  · rcases h.ow.2 with ⟨rfl, _⟩ | ⟨g, cap, cur, rfl, _, hg, _⟩
    · simp [Value.ownBlock] at e
    · simp [Value.ownBlock] at e
      rw [e, hc] at hg
      simp at hg
      simp [hg.2.1] at ht
/-- A call on another Pile. -/
theorem PiAt.other {w' : World} {b' : Nat} {o' : Option Nat} (h : PiAt w B b v R L l) (hf : Pf b' o' w w') (hb : b ≠ b') (h1 : o' ≠ some b) (h2 : v.ownBlock = none ∨ v.ownBlock ≠ o') (h3 : v.ownBlock ≠ some b') : PiAt w' B b v R L l := by
  refine ⟨h.hd.of_block (hf.block b h.lt hb h1), ?_, h.r1, h.r2, h.le, h.bB⟩
  obtain ⟨e1, e2⟩ := h.ow
  refine ⟨e1, ?_⟩
  rcases e2 with e2 | ⟨g, cap, cur, rfl, hg, hh, r⟩
  · exact Or.inl e2
  · obtain ⟨hlt, _⟩ := Array.getElem?_eq_some_iff.1 hh
    refine Or.inr ⟨g, cap, cur, rfl, hg, (hf.block g hlt ?_ ?_).trans hh, r⟩
    · intro e; exact h3 (by simp [Value.ownBlock, e])
    · intro e
      rcases h2 with h2 | h2
      · simp [Value.ownBlock] at h2
      · exact h2 (by simp [Value.ownBlock, e])

/-- What is lost is said. -/
theorem PiAt.set2 (h : PiAt w B b v R L l) (l' : Bool) : PiAt (w.setCell ⟨b, 2, none⟩ (.bool l')) B b v R L l' := by
  have t2 := Ty.of_but (B := B) ((But.refl b w).setCell 2 (.bool l')) h.hd h.bB
  refine ⟨(h.hd.set 2 _).congr fun i hi => ?_, t2.own h.ow (by decide), h.r1, h.r2, h.le, h.bB⟩
  have : i = 0 ∨ i = 1 ∨ i = 2 := by omega
  rcases this with rfl | rfl | rfl <;> rfl
/-- Another slice. -/
theorem PiAt.set0 (h : PiAt w B b v R L l) {w1 : World} {v' : Value} {L' : List Int} (hr : w1.rowIs b 39 3 (piC v R l)) (ho : w1.ownsRow B 2 1 v' L'.length (L'.map (Value.int .i64))) (hl : L'.length ≤ R) :
    PiAt (w1.setCell ⟨b, 0, none⟩ v') B b v' R L' l := by
  have t2 := Ty.of_but (B := B) ((But.refl b w1).setCell 0 v') hr h.bB
  refine ⟨(hr.set 0 _).congr fun i hi => ?_, t2.own ho (by decide), h.r1, h.r2, hl, h.bB⟩
  have : i = 0 ∨ i = 1 ∨ i = 2 := by omega
  rcases this with rfl | rfl | rfl <;> rfl
end

set_option maxHeartbeats 400000 in
theorem pnew_core (k : Int) (R : Nat) (w : World) (h : min (max k 1) 1000 = (R : Int)) :
    Calls Try.prog 7 #[.int .i64 k] w fun e w' => e = .returned (.pointer (some ⟨w.heap.size, 0, none⟩)) ∧ w' = w.alloc (.cells #[.slice none 0 0, .int .i64 (R : Int), .bool false] 39) := by
  go_enter Try.func7, Try.ntmps7
  have HR : Hid (min (max k 1) 1000 = (R : Int)) := h
  clear h
  go_wp2
  all_goals
    go_ret
    refine ⟨rfl, ?_⟩
    have := HR.out
    exact congrArg (fun z : Int => w.alloc (.cells #[.slice none 0 0, .int .i64 z, .bool false] 39)) (by omega)

theorem pnew_any (k : Int) (R : Nat) (w : World) (h : min (max k 1) 1000 = (R : Int)) :
    Calls Try.prog 7 #[.int .i64 k] w fun e w' => e = .returned (.pointer (some ⟨w.heap.size, 0, none⟩)) ∧ PiAt w' w.heap.size w.heap.size (.slice none 0 0) R [] false ∧ Below w.heap.size w w' := by
  refine (pnew_core k R w h).mono ?_
  rintro e w' ⟨rfl, rfl⟩
  refine ⟨rfl, ⟨?_, World.ownsRow_nil _ _ _ _, by omega, by omega, Nat.zero_le _, Nat.le_refl _⟩, (Below.refl _ _).alloc (Nat.le_refl _) _⟩
  exact World.rowIs_alloc w #[.slice none 0 0, .int .i64 (R : Int), .bool false] 39 (piC (.slice none 0 0) R false) (fun i hi => by
    have : i = 0 ∨ i = 1 ∨ i = 2 := by simp at hi; omega
    rcases this with rfl | rfl | rfl <;> rfl)

theorem ready_nil (w : World) :
    Calls Try.prog 17 #[.pointer none] w fun e w' => e = .returned (.bool false) ∧ w' = w := by
  go_enter Try.func17, Try.ntmps17
  go_wp2
  go_ret
  exact ⟨rfl, rfl⟩
theorem ready_any (w : World) {B b : Nat} {v : Value} {R : Nat} {L : List Int} {l : Bool} (h : PiAt w B b v R L l) :
    Calls Try.prog 17 #[.pointer (some ⟨b, 0, none⟩)] w fun e w' => e = .returned (.bool true) ∧ w' = w := by
  have hc := h.c1
  have hR : 0 < R := by have := h.r1; omega
  clear h
  go_enter Try.func17, Try.ntmps17
  go_wp2
  go_ret
  exact ⟨rfl, rfl⟩

theorem plen_nil (w : World) :
    Calls Try.prog 13 #[.pointer none] w fun e w' => e = .returned (.int .i64 0) ∧ w' = w := by
  go_enter Try.func13, Try.ntmps13
  go_wp2_with fail
  refine (ready_nil _).mono ?_
  rintro e w' ⟨rfl, rfl⟩
  go_wp2_with fail
  go_ret
  exact ⟨rfl, rfl⟩
theorem plen_any (w : World) {B b : Nat} {v : Value} {R : Nat} {L : List Int} {l : Bool} (h : PiAt w B b v R L l) :
    Calls Try.prog 13 #[.pointer (some ⟨b, 0, none⟩)] w fun e w' => e = .returned (.int .i64 (L.length : Int)) ∧ w' = w := by
  obtain ⟨a, c, rfl⟩ := h.len
  have hc := h.c0
  go_enter Try.func13, Try.ntmps13
  go_wp2_with fail
  refine (ready_any _ h).mono ?_
  rintro e w' ⟨rfl, rfl⟩
  go_wp2_with fail
  go_ret
  exact ⟨rfl, rfl⟩

theorem plost_nil (w : World) :
    Calls Try.prog 14 #[.pointer none] w fun e w' => e = .returned (.bool false) ∧ w' = w := by
  go_enter Try.func14, Try.ntmps14
  go_wp2_with fail
  refine (ready_nil _).mono ?_
  rintro e w' ⟨rfl, rfl⟩
  go_wp2_with fail
  go_ret
  exact ⟨rfl, rfl⟩
theorem plost_any (w : World) {B b : Nat} {v : Value} {R : Nat} {L : List Int} {l : Bool} (h : PiAt w B b v R L l) :
    Calls Try.prog 14 #[.pointer (some ⟨b, 0, none⟩)] w fun e w' => e = .returned (.bool l) ∧ w' = w := by
  have hc := h.c2
  go_enter Try.func14, Try.ntmps14
  go_wp2_with fail
  refine (ready_any _ h).mono ?_
  rintro e w' ⟨rfl, rfl⟩
  go_wp2_with fail
  go_ret
  exact ⟨rfl, rfl⟩

theorem found_nil (w : World) :
    Calls Try.prog 11 #[.pointer none] w fun e w' => e = .returned (.tuple #[]) ∧ w' = w := by
  go_enter Try.func11, Try.ntmps11
  go_wp2_with fail
  refine (ready_nil _).mono ?_
  rintro e w' ⟨rfl, rfl⟩
  go_wp2_with fail
  go_end0
  exact ⟨rfl, rfl⟩
theorem found_any (w : World) {B b : Nat} {v : Value} {R : Nat} {L : List Int} {l : Bool} (h : PiAt w B b v R L l) :
    Calls Try.prog 11 #[.pointer (some ⟨b, 0, none⟩)] w fun e w' => e = .returned (.tuple #[]) ∧ PiAt w' B b v R L false ∧ Pf b v.ownBlock w w' := by
  have hc := h.c2
  have hf := h.fz 2
  have hlt := h.lt
  go_enter Try.func11, Try.ntmps11
  go_wp2_with fail
  refine (ready_any _ h).mono ?_
  rintro e w' ⟨rfl, rfl⟩
  go_wp2_with fail
  go_end0
  exact ⟨rfl, h.set2 false, Pf.of_but ((But.refl _ _).setCell 2 _)⟩

theorem clear_nil (w : World) :
    Calls Try.prog 12 #[.pointer none] w fun e w' => e = .returned (.tuple #[]) ∧ w' = w := by
  go_enter Try.func12, Try.ntmps12
  go_wp2_with fail
  refine (ready_nil _).mono ?_
  rintro e w' ⟨rfl, rfl⟩
  go_wp2_with fail
  go_end0
  exact ⟨rfl, rfl⟩
set_option maxHeartbeats 400000 in
theorem clear_any (w : World) {B b : Nat} {v : Value} {R : Nat} {L : List Int} {l : Bool} (h : PiAt w B b v R L l) :
    Calls Try.prog 12 #[.pointer (some ⟨b, 0, none⟩)] w fun e w' => e = .returned (.tuple #[]) ∧ PiAt w' B b (.slice none 0 0) R [] false ∧ Pf b v.ownBlock w w' := by
  have hc := h.c2
  have hc0 := h.c0
  have hf := h.fz 2
  have hf0 := h.fz 0
  have hlt := h.lt
  have H2 : Hid (PiAt ((w.setCell ⟨b, 0, none⟩ (.slice none 0 0)).setCell ⟨b, 2, none⟩ (.bool false)) B b (.slice none 0 0) R [] false) :=
    (h.set0 (L' := []) h.hd (World.ownsRow_nil _ _ _ _) (Nat.zero_le _)).set2 false
  have HF : Hid (Pf b v.ownBlock w ((w.setCell ⟨b, 0, none⟩ (.slice none 0 0)).setCell ⟨b, 2, none⟩ (.bool false))) := Pf.of_but (((But.refl _ _).setCell 0 _).setCell 2 _)
  have H : Hid (PiAt w B b v R L l) := h
  clear h
  go_enter Try.func12, Try.ntmps12
  go_wp2_with fail
  refine (ready_any _ H.out).mono ?_
  rintro e w' ⟨rfl, rfl⟩
  go_wp2_with fail
  go_end0
  exact ⟨rfl, H2.out, HF.out⟩

set_option maxHeartbeats 400000 in
theorem ptake_nil (w : World) :
    Calls Try.prog 10 #[.pointer none] w fun e w' => e = .returned (.tuple #[.int .i64 0, .bool false]) ∧ w' = w := by
  go_enter Try.func10, Try.ntmps10
  go_wp2_with fail
  refine (plen_nil _).mono ?_
  rintro e w' ⟨rfl, rfl⟩
  go_wp2_with fail
  go_ret2
  exact ⟨rfl, rfl⟩
set_option maxHeartbeats 400000 in
theorem ptake_none (w : World) {B b : Nat} {v : Value} {R : Nat} {l : Bool} (h : PiAt w B b v R [] l) :
    Calls Try.prog 10 #[.pointer (some ⟨b, 0, none⟩)] w fun e w' => e = .returned (.tuple #[.int .i64 0, .bool false]) ∧ w' = w := by
  go_enter Try.func10, Try.ntmps10
  go_wp2_with fail
  refine (plen_any _ h).mono ?_
  rintro e w' ⟨rfl, rfl⟩
  go_wp2_with fail
  go_ret2
  exact ⟨rfl, rfl⟩

/-- The slice less its last one. -/
theorem own_last {w : World} {B : Nat} {v : Value} {L : List Int} {x : Int} (h : w.ownsRow B 2 1 v (L.length + 1) ((L ++ [x]).map (Value.int .i64))) :
    ∃ g cap, v = .slice (some ⟨g, 0, none⟩) (L.length + 1) cap ∧ L.length + 1 ≤ cap ∧ cap ≤ maxLen ∧ w.cell? ⟨g, L.length, none⟩ = some (.int .i64 x) ∧ w.ownsRow B 2 1 (.slice (some ⟨g, 0, none⟩) L.length cap) L.length (L.map (Value.int .i64)) := by
  obtain ⟨g, cap, rfl, hg, _⟩ := h.form (by omega)
  rw [List.map_append] at h
  have hp := own_prefix (n := L.length) (m := 1) h (by simp)
  have hc := h.cellAt (g := g) (cap := cap) L.length (by omega)
  rcases h.2 with ⟨h', _⟩ | ⟨g', cap', cur, h', hb, hg', hnc, hcm, hcs, htake⟩
  · simp at h'
  · simp at h'
    obtain ⟨_, rfl⟩ := h'
    exact ⟨g, cap, rfl, hnc, hcm, by rw [hc]; simp, hp⟩

set_option maxHeartbeats 1000000 in
theorem ptake_some (w : World) {B b : Nat} {v : Value} {R : Nat} {L : List Int} {x : Int} {l : Bool} (h : PiAt w B b v R (L ++ [x]) l) :
    Calls Try.prog 10 #[.pointer (some ⟨b, 0, none⟩)] w fun e w' => e = .returned (.tuple #[.int .i64 x, .bool true]) ∧ ∃ v', PiAt w' B b v' R L l ∧ Pf b v.ownBlock w w' ∧ v'.ownBlock = v.ownBlock := by
  have ho := h.ow
  rw [List.length_append] at ho
  obtain ⟨g, cap, rfl, hc1, hc2, hx, hp⟩ := own_last ho
  have hR := h.r2
  have hle := h.le
  simp at hle
  have hc0 := h.c0
  have hf0 := h.fz 0
  have hlt := h.lt
  unfold maxLen at hc2
  have HP : Hid (PiAt (w.setCell ⟨b, 0, none⟩ (.slice (some ⟨g, 0, none⟩) L.length cap)) B b (.slice (some ⟨g, 0, none⟩) L.length cap) R L l) := h.set0 h.hd hp (by omega)
  have HF : Hid (Pf b (Value.slice (some ⟨g, 0, none⟩) (L.length + 1) cap).ownBlock w (w.setCell ⟨b, 0, none⟩ (.slice (some ⟨g, 0, none⟩) L.length cap))) := Pf.of_but ((But.refl _ _).setCell 0 _)
  have H : Hid (PiAt w B b (.slice (some ⟨g, 0, none⟩) (L.length + 1) cap) R (L ++ [x]) l) := h
  clear h ho hp
  go_enter Try.func10, Try.ntmps10
  go_wp2_with fail
  refine (plen_any _ H.out).mono ?_
  rintro e w' ⟨rfl, rfl⟩
  have hl1 : (((L ++ [x]).length : Int) == 0) = false := by rw [beq_eq_false_iff_ne]; simp; omega
  have hl2 : ((L.length + 1 : Nat) : Int) - 1 = (L.length : Int) := by omega
  go_wp2_with fail
  go_ret2
  exact ⟨rfl, _, HP.out, HF.out, rfl⟩

end Go.Proofs.Ytckljbjnhgnkgaa

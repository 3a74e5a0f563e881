/- An Arena in memory; the walks of classed, Page, Base, locate. -/
import Derived.Test.YtfkimmbnmcgjiaaDoorArA
namespace Go.Proofs.YtfkimmbnmcgjiaaDoor
open Go.RowKit

/-- A page: its block, its class, what is used, what is marked. -/
structure PSt where
  blk : Nat
  c : Int
  U : Nat → Bool
  M : Nat → Bool
def PSt.sz (p : PSt) : Nat := (szN p.c).toNat
def PSt.n (p : PSt) : Nat := (slN p.c).toNat
def ptrOf : Option PSt → Value
  | none => .pointer none
  | some p => .pointer (some ⟨p.blk, 0, none⟩)
def arC (bp bw n : Nat) (i : Nat) : Value := if i = 0 then .slice (some ⟨bp, 0, none⟩) n n else .slice (some ⟨bw, 0, none⟩) (32 * n) (32 * n)

theorem sz_num {c : Int} (h0 : 0 ≤ c) (h7 : c ≤ 7) : ∃ s n : Nat, szN c = (s : Int) ∧ slN c = (n : Int) ∧ 1 ≤ s ∧ s ≤ 16 ∧ 2 ≤ n ∧ n ≤ 32 ∧ n * s ≤ 32 ∧ 32 / s = n := by
  rcases each_class c with h | rfl | rfl | rfl | rfl | rfl | rfl | rfl | rfl
  · omega
  · exact ⟨1, 32, by decide⟩
  · exact ⟨2, 16, by decide⟩
  · exact ⟨3, 10, by decide⟩
  · exact ⟨4, 8, by decide⟩
  · exact ⟨6, 5, by decide⟩
  · exact ⟨8, 4, by decide⟩
  · exact ⟨12, 2, by decide⟩
  · exact ⟨16, 2, by decide⟩
structure PNum (p : PSt) (s n : Nat) : Prop where
  hs : szN p.c = (s : Int)
  hn : slN p.c = (n : Int)
  s1 : 1 ≤ s
  s16 : s ≤ 16
  n2 : 2 ≤ n
  n32 : n ≤ 32
  m : n * s ≤ 32
  d : 32 / s = n
theorem p_num {p : PSt} (h0 : 0 ≤ p.c) (h7 : p.c ≤ 7) : PNum p p.sz p.n := by
  obtain ⟨s, n, h1, h2, h3, h4, h5, h6, h7, h8⟩ := sz_num h0 h7
  have e1 : p.sz = s := by unfold PSt.sz; omega
  have e2 : p.n = n := by unfold PSt.n; omega
  rw [e1, e2]
  exact ⟨h1, h2, h3, h4, h5, h6, h7, h8⟩
theorem slot_le {s n a : Nat} (h : n * s ≤ 32) (ha : a < n) : a * s + s ≤ 32 := by
  have : (a + 1) * s ≤ n * s := Nat.mul_le_mul_right s (by omega)
  rw [Nat.add_mul, Nat.one_mul] at this
  omega

/-- THE ARENA AT BLOCK ba, WITH n PAGES P (whose list lies at bp) AND THE WORDS W (at bw); all of it from block B on. -/
structure ArAt (w : World) (B ba bp bw n : Nat) (P : Nat → Option PSt) (W : Nat → Int) : Prop where
  hd : w.rowIs ba 73 2 (arC bp bw n)
  pr : w.rowIs bp 63 n (fun k => ptrOf (P k))
  wo : w.rowIs bw 3 (32 * n) (fun x => .int .i64 (W x))
  pg : ∀ k p, P k = some p → PgAt w p.blk p.c p.n p.U p.M
  ap : ∀ k k' p p', P k = some p → P k' = some p' → k ≠ k' → p.blk ≠ p'.blk
  out : ∀ k, n ≤ k → P k = none
  n64 : n ≤ 64
  b0 : B ≤ ba
  b1 : B ≤ bp
  b2 : B ≤ bw
  b3 : ∀ k p, P k = some p → B ≤ p.blk

section
variable {w : World} {B ba bp bw n : Nat} {P : Nat → Option PSt} {W : Nat → Int} (h : ArAt w B ba bp bw n P W)
include h
theorem ArAt.c0 : w.cell? ⟨ba, 0, none⟩ = some (.slice (some ⟨bp, 0, none⟩) n n) := h.hd.cell (i := 0) (by decide)
theorem ArAt.c1 : w.cell? ⟨ba, 1, none⟩ = some (.slice (some ⟨bw, 0, none⟩) (32 * n) (32 * n)) := h.hd.cell (i := 1) (by decide)
theorem ArAt.cp {k : Nat} (hk : k < n) : w.cell? ⟨bp, k, none⟩ = some (ptrOf (P k)) := h.pr.cell hk
theorem ArAt.cw {x : Nat} (hx : x < 32 * n) : w.cell? ⟨bw, x, none⟩ = some (.int .i64 (W x)) := h.wo.cell hx
theorem ArAt.drewN (q : Nat) : ArAt (w.drewN q) B ba bp bw n P W := ⟨h.hd, h.pr, h.wo, fun k p e => (h.pg k p e).drewN q, h.ap, h.out, h.n64, h.b0, h.b1, h.b2, h.b3⟩
theorem ArAt.num {k : Nat} {p : PSt} (e : P k = some p) : PNum p p.sz p.n := p_num (h.pg k p e).lo (h.pg k p e).hi
theorem ArAt.klt {k : Nat} {p : PSt} (e : P k = some p) : k < n := by
  rcases Nat.lt_or_ge k n with g | g
  · exact g
  · rw [h.out k g] at e; cases e
theorem ArAt.below {w' : World} (hb : Below w.heap.size w w') : ArAt w' B ba bp bw n P W :=
  ⟨h.hd.of_block (hb.block _ h.hd.lt), h.pr.of_block (hb.block _ h.pr.lt), h.wo.of_block (hb.block _ h.wo.lt), fun k p e => (h.pg k p e).below hb, h.ap, h.out, h.n64, h.b0, h.b1, h.b2, h.b3⟩
theorem ArAt.fix {w' : World} {B' : Nat} {X : List Nat} {K : List TypeId} (hf : Fix B' X K w w') (h1 : ba ∉ X) (h2 : bp ∉ X) (h3 : bw ∉ X) (h4 : ∀ k p, P k = some p → p.blk ∉ X) (t1 : 73 ∉ K) (t2 : 63 ∉ K) (t3 : 3 ∉ K) (t4 : 81 ∉ K) :
    ArAt w' B ba bp bw n P W :=
  ⟨hf.row h.hd h1 t1, hf.row h.pr h2 t2, hf.row h.wo h3 t3, fun k p e => (h.pg k p e).row (hf.row (h.pg k p e).hd (h4 k p e) t4), h.ap, h.out, h.n64, h.b0, h.b1, h.b2, h.b3⟩
theorem ArAt.ty {w' : World} {B' : Nat} {K : List TypeId} (hf : Ty K B' w w') (t1 : 73 ∉ K) (t2 : 63 ∉ K) (t3 : 3 ∉ K) (t4 : 81 ∉ K) : ArAt w' B ba bp bw n P W :=
  h.fix (Fix.of_ty (X := []) hf) (by simp) (by simp) (by simp) (by simp) t1 t2 t3 t4
end

/-- The page with the number k. -/
def atI (P : Nat → Option PSt) (k : Int) : Option PSt := if 0 ≤ k then P k.toNat else none
theorem atI_nat (P : Nat → Option PSt) (k : Nat) : atI P (k : Int) = P k := by simp [atI]

set_option maxHeartbeats 400000 in
theorem classed_nil (w : World) : Calls Tryd.prog 47 #[.pointer none] w fun e w' => e = .returned (.bool false) ∧ w' = w := by
  go_enter Tryd.func47, Tryd.ntmps47
  go_wp2_with fail
  refine (class_nil _).mono ?_
  rintro e w' ⟨rfl, rfl⟩
  go_wp2_with fail
  go_ret
  exact ⟨rfl, rfl⟩
set_option maxHeartbeats 400000 in
theorem classed_any (w : World) {b : Nat} {c : Int} {n : Nat} {U M : Nat → Bool} (h : PgAt w b c n U M) :
    Calls Tryd.prog 47 #[.pointer (some ⟨b, 0, none⟩)] w fun e w' => e = .returned (.bool true) ∧ w' = w := by
  have h0 := h.lo
  go_enter Tryd.func47, Tryd.ntmps47
  go_wp2_with fail
  refine (class_any _ h).mono ?_
  rintro e w' ⟨rfl, rfl⟩
  go_wp2_with fail
  go_ret
  exact ⟨by simp, rfl⟩

set_option maxHeartbeats 400000 in
theorem page_nil (k : Int) (w : World) : Calls Tryd.prog 30 #[.pointer none, .int .i64 k] w fun e w' => e = .returned (.pointer none) ∧ w' = w := by
  go_enter Tryd.func30, Tryd.ntmps30
  go_wp2
  go_ret
  exact ⟨rfl, rfl⟩
set_option maxHeartbeats 400000 in
theorem page_in (k : Nat) (w : World) {B ba bp bw n : Nat} {P : Nat → Option PSt} {W : Nat → Int} (h : ArAt w B ba bp bw n P W) (hk : k < n) :
    Calls Tryd.prog 30 #[.pointer (some ⟨ba, 0, none⟩), .int .i64 k] w fun e w' => e = .returned (ptrOf (P k)) ∧ w' = w := by
  have h0 := h.c0
  have h1 := h.cp hk
  have h2 := h.n64
  clear h
  generalize ptrOf (P k) = v at *
  go_enter Tryd.func30, Tryd.ntmps30
  go_wp2
  go_ret
  exact ⟨rfl, rfl⟩
set_option maxHeartbeats 400000 in
theorem page_out (k : Int) (w : World) {B ba bp bw n : Nat} {P : Nat → Option PSt} {W : Nat → Int} (h : ArAt w B ba bp bw n P W) (hk : k < 0 ∨ (n : Int) ≤ k) :
    Calls Tryd.prog 30 #[.pointer (some ⟨ba, 0, none⟩), .int .i64 k] w fun e w' => e = .returned (.pointer none) ∧ w' = w := by
  have h0 := h.c0
  have h2 := h.n64
  clear h
  by_cases h3 : k < 0
  · go_enter Tryd.func30, Tryd.ntmps30
    go_wp2
    go_ret
    exact ⟨rfl, rfl⟩
  · have h4 : (n : Int) ≤ k := by omega
    go_enter Tryd.func30, Tryd.ntmps30
    go_wp2
    go_ret
    exact ⟨rfl, rfl⟩
theorem page_some (k : Nat) (w : World) {B ba bp bw n : Nat} {P : Nat → Option PSt} {W : Nat → Int} {p : PSt} (h : ArAt w B ba bp bw n P W) (hp : P k = some p) :
    Calls Tryd.prog 30 #[.pointer (some ⟨ba, 0, none⟩), .int .i64 k] w fun e w' => e = .returned (.pointer (some ⟨p.blk, 0, none⟩)) ∧ w' = w := by
  have := page_in k w h (h.klt hp)
  rwa [hp] at this
theorem page_none (k : Int) (w : World) {B ba bp bw n : Nat} {P : Nat → Option PSt} {W : Nat → Int} (h : ArAt w B ba bp bw n P W) (hp : atI P k = none) :
    Calls Tryd.prog 30 #[.pointer (some ⟨ba, 0, none⟩), .int .i64 k] w fun e w' => e = .returned (.pointer none) ∧ w' = w := by
  by_cases h1 : k < 0 ∨ (n : Int) ≤ k
  · exact page_out k w h h1
  · obtain ⟨m, rfl⟩ := Int.eq_ofNat_of_zero_le (a := k) (by omega)
    rw [atI_nat] at hp
    have := page_in m w h (by omega)
    rwa [hp] at this
theorem atI_cases (P : Nat → Option PSt) (k : Int) : atI P k = none ∨ ∃ (m : Nat) (p : PSt), k = (m : Int) ∧ P m = some p := by
  by_cases h0 : 0 ≤ k
  · obtain ⟨m, rfl⟩ := Int.eq_ofNat_of_zero_le h0
    rw [atI_nat]
    cases hp : P m with
    | none => exact Or.inl rfl
    | some p => exact Or.inr ⟨m, p, rfl, hp⟩
  · exact Or.inl (by simp [atI, h0])

set_option maxHeartbeats 400000 in
theorem base_nil (k s : Int) (w : World) : Calls Tryd.prog 33 #[.pointer none, .int .i64 k, .int .i64 s] w fun e w' => e = .returned (.int .i64 0) ∧ w' = w := by
  by_cases h0 : s < 0
  · go_enter Tryd.func33, Tryd.ntmps33
    go_wp2_with fail
    refine (page_nil _ _).mono ?_
    rintro e w' ⟨rfl, rfl⟩
    go_wp2_with fail
    refine (class_nil _).mono ?_
    rintro e w' ⟨rfl, rfl⟩
    go_wp2_with fail
    go_ret
    exact ⟨rfl, rfl⟩
  · go_enter Tryd.func33, Tryd.ntmps33
    go_wp2_with fail
    refine (page_nil _ _).mono ?_
    rintro e w' ⟨rfl, rfl⟩
    go_wp2_with fail
    refine (class_nil _).mono ?_
    rintro e w' ⟨rfl, rfl⟩
    go_wp2_with fail
    refine (slots_any' (c := -1) (s := 0) (by decide) _).mono ?_
    rintro e w' ⟨rfl, rfl⟩
    go_wp2_with fail
    go_ret
    exact ⟨rfl, rfl⟩
set_option maxHeartbeats 400000 in
theorem base_none (k s : Int) (w : World) {B ba bp bw n : Nat} {P : Nat → Option PSt} {W : Nat → Int} (h : ArAt w B ba bp bw n P W) (hp : atI P k = none) :
    Calls Tryd.prog 33 #[.pointer (some ⟨ba, 0, none⟩), .int .i64 k, .int .i64 s] w fun e w' => e = .returned (.int .i64 0) ∧ w' = w := by
  by_cases h0 : s < 0
  · go_enter Tryd.func33, Tryd.ntmps33
    go_wp2_with fail
    refine (page_none _ _ h hp).mono ?_
    rintro e w' ⟨rfl, rfl⟩
    go_wp2_with fail
    refine (class_nil _).mono ?_
    rintro e w' ⟨rfl, rfl⟩
    go_wp2_with fail
    go_ret
    exact ⟨rfl, rfl⟩
  · go_enter Tryd.func33, Tryd.ntmps33
    go_wp2_with fail
    refine (page_none _ _ h hp).mono ?_
    rintro e w' ⟨rfl, rfl⟩
    go_wp2_with fail
    refine (class_nil _).mono ?_
    rintro e w' ⟨rfl, rfl⟩
    go_wp2_with fail
    refine (slots_any' (c := -1) (s := 0) (by decide) _).mono ?_
    rintro e w' ⟨rfl, rfl⟩
    go_wp2_with fail
    go_ret
    exact ⟨rfl, rfl⟩
set_option maxHeartbeats 400000 in
theorem base_over (k : Nat) (s : Int) (w : World) {B ba bp bw n : Nat} {P : Nat → Option PSt} {W : Nat → Int} {p : PSt} (h : ArAt w B ba bp bw n P W) (hp : P k = some p) (hs : s < 0 ∨ (p.n : Int) ≤ s) :
    Calls Tryd.prog 33 #[.pointer (some ⟨ba, 0, none⟩), .int .i64 k, .int .i64 s] w fun e w' => e = .returned (.int .i64 0) ∧ w' = w := by
  have HN : Hid (PNum p p.sz p.n) := h.num hp
  generalize p.n = m at *
  generalize p.sz = z at *
  by_cases h0 : s < 0
  · go_enter Tryd.func33, Tryd.ntmps33
    go_wp2_with fail
    refine (page_some _ _ h hp).mono ?_
    rintro e w' ⟨rfl, rfl⟩
    go_wp2_with fail
    refine (class_any _ (h.pg k p hp)).mono ?_
    rintro e w' ⟨rfl, rfl⟩
    go_wp2_with fail
    go_ret
    exact ⟨rfl, rfl⟩
  · have h1 : (m : Int) ≤ s := by omega
    go_enter Tryd.func33, Tryd.ntmps33
    go_wp2_with fail
    refine (page_some _ _ h hp).mono ?_
    rintro e w' ⟨rfl, rfl⟩
    go_wp2_with fail
    refine (class_any _ (h.pg k p hp)).mono ?_
    rintro e w' ⟨rfl, rfl⟩
    go_wp2_with fail
    refine (slots_any' HN.out.hn _).mono ?_
    rintro e w' ⟨rfl, rfl⟩
    go_wp2_with fail
    go_ret
    exact ⟨rfl, rfl⟩
/-- Where a slot begins. -/
def adr (k s z : Nat) : Nat := 1048576 + 32 * k + s * z
set_option maxHeartbeats 400000 in
theorem base_some (k s : Nat) (w : World) {B ba bp bw n : Nat} {P : Nat → Option PSt} {W : Nat → Int} {p : PSt} (h : ArAt w B ba bp bw n P W) (hp : P k = some p) (hs : s < p.n) :
    Calls Tryd.prog 33 #[.pointer (some ⟨ba, 0, none⟩), .int .i64 k, .int .i64 s] w fun e w' => e = .returned (.int .i64 (adr k s p.sz : Nat)) ∧ w' = w := by
  have HN : Hid (PNum p p.sz p.n) := h.num hp
  have hk : k < 64 := Nat.lt_of_lt_of_le (h.klt hp) h.n64
  unfold adr
  have hm := slot_le HN.out.m hs
  generalize p.n = m at *
  generalize p.sz = z at *
  obtain ⟨t, ht⟩ : ∃ t, t = s * z := ⟨_, rfl⟩
  have hI : (s : Int) * (z : Int) = (t : Int) := by rw [ht]; simp
  have hz1 : z ≤ 16 := HN.out.s16
  have ht32 : t ≤ 32 := by omega
  rw [← ht] at hm ⊢
  clear ht hm
  go_enter Tryd.func33, Tryd.ntmps33
  go_wp2_with fail
  refine (page_some _ _ h hp).mono ?_
  rintro e w' ⟨rfl, rfl⟩
  go_wp2_with fail
  refine (class_any _ (h.pg k p hp)).mono ?_
  rintro e w' ⟨rfl, rfl⟩
  go_wp2_with fail
  refine (slots_any' HN.out.hn _).mono ?_
  rintro e w' ⟨rfl, rfl⟩
  go_wp2_with fail
  refine (size_any' HN.out.hs _).mono ?_
  rintro e w' ⟨rfl, rfl⟩
  go_wp2_with fail
  go_ret
  exact ⟨ret_int (by simp; omega), rfl⟩

end Go.Proofs.YtfkimmbnmcgjiaaDoor

/- A Page in memory; the walks of New, Class, slots, may, Used, Marked. -/
import Derived.Test.YtfkimmbnmcgjiaaDoorPgA
import Derived.Test.YtfkimmbnmcgjiaaDoorFr
import Derived.Deep.RegionWith
namespace Go.Proofs.YtfkimmbnmcgjiaaDoor
open Go.RowKit

theorem ret_two {a b a' b' : Value} (h1 : a = a') (h2 : b = b') : Ending.returned (.tuple #[a, b]) = .returned (.tuple #[a', b']) := by rw [h1, h2]

theorem slN_le (c : Int) : slN c ≤ 32 := by unfold slN; repeat' split
                                            all_goals omega
theorem sz_sl {c : Int} (h0 : 0 ≤ c) (h7 : c ≤ 7) : szN c ≠ 0 ∧ 1 ≤ szN c ∧ slN c = 32 / szN c ∧ 2 ≤ slN c := by
  rcases each_class c with h | rfl | rfl | rfl | rfl | rfl | rfl | rfl | rfl
  · omega
  all_goals decide

/-- May k be a slot? Is it in the set? -/
def mayB (n : Nat) (k : Int) : Bool := decide (0 ≤ k) && decide (k < n)
def hasB (n : Nat) (S : Nat → Bool) (k : Int) : Bool := mayB n k && S k.toNat
theorem may_true (n k : Nat) (h : k < n) : mayB n (k : Int) = true := by simp [mayB, h]
theorem may_spec (n : Nat) (k : Int) : mayB n k = true ↔ 0 ≤ k ∧ k < n := by simp [mayB]
theorem has_nat (n x : Nat) (S : Nat → Bool) (v : Bool) (hx : x < n) (hv : S x = v) : hasB n S (x : Int) = v := by
  simp [hasB, may_true n x hx, hv]

def pgC (k : Int) (u m : Nat) (i : Nat) : Value := if i = 0 then .int .i64 k else if i = 1 then .int .u64 u else .int .u64 m
/-- THE PAGE AT BLOCK b, OF CLASS c, WITH n SLOTS: those in U are used, those in M marked. -/
structure PgAt (w : World) (b : Nat) (c : Int) (n : Nat) (U M : Nat → Bool) : Prop where
  hd : w.rowIs b 81 3 (pgC (c + 1) (wd U 0) (wd M 0))
  lo : 0 ≤ c
  hi : c ≤ 7
  sl : slN c = (n : Int)
  out : ∀ x, n ≤ x → U x = false
  sub : ∀ x, M x = true → U x = true

section
variable {w : World} {b : Nat} {c : Int} {n : Nat} {U M : Nat → Bool} (h : PgAt w b c n U M)
include h
theorem PgAt.c0 : w.cell? ⟨b, 0, none⟩ = some (.int .i64 (c + 1)) := h.hd.cell (i := 0) (by decide)
theorem PgAt.c1 : w.cell? ⟨b, 1, none⟩ = some (.int .u64 (wd U 0 : Nat)) := h.hd.cell (i := 1) (by decide)
theorem PgAt.c2 : w.cell? ⟨b, 2, none⟩ = some (.int .u64 (wd M 0 : Nat)) := h.hd.cell (i := 2) (by decide)
theorem PgAt.lt : b < w.heap.size := h.hd.lt
theorem PgAt.n32 : n ≤ 32 := by have := slN_le c; have := h.sl; omega
theorem PgAt.n2 : 2 ≤ n := by have := (sz_sl h.lo h.hi).2.2.2; have := h.sl; omega
theorem PgAt.fz (i : Nat) : w.frozen? ⟨b, i, none⟩ = false := h.hd.frozen i
theorem PgAt.mout : ∀ x, n ≤ x → M x = false := fun x hx => by
  cases hM : M x
  · rfl
  · have := h.sub x hM
    rw [h.out x hx] at this
    cases this
theorem PgAt.drewN (q : Nat) : PgAt (w.drewN q) b c n U M := ⟨h.hd, h.lo, h.hi, h.sl, h.out, h.sub⟩
theorem PgAt.alloc (o : Obj) : PgAt (w.alloc o) b c n U M := ⟨h.hd.alloc o, h.lo, h.hi, h.sl, h.out, h.sub⟩
theorem PgAt.row {w' : World} (g : w'.rowIs b 81 3 (pgC (c + 1) (wd U 0) (wd M 0))) : PgAt w' b c n U M := ⟨g, h.lo, h.hi, h.sl, h.out, h.sub⟩
theorem PgAt.ty {w' : World} {K : List TypeId} {B : Nat} (ht : Ty K B w w') (hK : 81 ∉ K) : PgAt w' b c n U M := h.row (ht.row h.hd hK)
theorem PgAt.below {w' : World} (hb : Below w.heap.size w w') : PgAt w' b c n U M := h.row (h.hd.of_block (hb.block _ h.lt))
end

set_option maxHeartbeats 400000 in
theorem class_nil (w : World) :
    Calls Tryd.prog 42 #[.pointer none] w fun e w' => e = .returned (.int .i64 (-1)) ∧ w' = w := by
  go_enter Tryd.func42, Tryd.ntmps42
  go_wp2
  go_ret
  exact ⟨rfl, rfl⟩
set_option maxHeartbeats 400000 in
theorem class_any (w : World) {b : Nat} {c : Int} {n : Nat} {U M : Nat → Bool} (h : PgAt w b c n U M) :
    Calls Tryd.prog 42 #[.pointer (some ⟨b, 0, none⟩)] w fun e w' => e = .returned (.int .i64 c) ∧ w' = w := by
  have h0 := h.c0
  have hl := h.lo
  have hh := h.hi
  clear h
  generalize hk : c + 1 = k at *
  have HK : Hid (c + 1 = k) := hk
  have k0 : 1 ≤ k := by omega
  have k8 : k ≤ 8 := by omega
  clear hk hl hh
  go_enter Tryd.func42, Tryd.ntmps42
  go_wp2
  go_ret
  exact ⟨ret_int (by have := HK.out; omega), rfl⟩

set_option maxHeartbeats 400000 in
theorem slots_nil (w : World) :
    Calls Tryd.prog 56 #[.pointer none] w fun e w' => e = .returned (.int .i64 0) ∧ w' = w := by
  go_enter Tryd.func56, Tryd.ntmps56
  go_wp2_with fail
  refine (class_nil _).mono ?_
  rintro e w' ⟨rfl, rfl⟩
  go_wp2_with fail
  refine (slots_any' (c := -1) (s := 0) (by decide) _).mono ?_
  rintro e w' ⟨rfl, rfl⟩
  go_wp2_with fail
  go_ret
  exact ⟨rfl, rfl⟩
set_option maxHeartbeats 400000 in
theorem pslots_any (w : World) {b : Nat} {c : Int} {n : Nat} {U M : Nat → Bool} (h : PgAt w b c n U M) :
    Calls Tryd.prog 56 #[.pointer (some ⟨b, 0, none⟩)] w fun e w' => e = .returned (.int .i64 n) ∧ w' = w := by
  go_enter Tryd.func56, Tryd.ntmps56
  go_wp2_with fail
  refine (class_any _ h).mono ?_
  rintro e w' ⟨rfl, rfl⟩
  go_wp2_with fail
  refine (slots_any' h.sl _).mono ?_
  rintro e w' ⟨rfl, rfl⟩
  go_wp2_with fail
  go_ret
  exact ⟨rfl, rfl⟩

set_option maxHeartbeats 400000 in
theorem may_nil (k : Int) (w : World) :
    Calls Tryd.prog 64 #[.pointer none, .int .i64 k] w fun e w' => e = .returned (.bool false) ∧ w' = w := by
  by_cases h1 : 0 ≤ k
  · go_enter Tryd.func64, Tryd.ntmps64
    go_wp2_with fail
    refine (slots_nil _).mono ?_
    rintro e w' ⟨rfl, rfl⟩
    have hd : decide (k < 0) = false := by simpa using h1
    go_wp2_with fail
    go_ret
    exact ⟨by simp, rfl⟩
  · go_enter Tryd.func64, Tryd.ntmps64
    go_wp2_with fail
    go_ret
    exact ⟨rfl, rfl⟩
set_option maxHeartbeats 400000 in
theorem may_any (k : Int) (w : World) {b : Nat} {c : Int} {n : Nat} {U M : Nat → Bool} (h : PgAt w b c n U M) :
    Calls Tryd.prog 64 #[.pointer (some ⟨b, 0, none⟩), .int .i64 k] w fun e w' => e = .returned (.bool (mayB n k)) ∧ w' = w := by
  by_cases h1 : 0 ≤ k
  · go_enter Tryd.func64, Tryd.ntmps64
    go_wp2_with fail
    refine (pslots_any _ h).mono ?_
    rintro e w' ⟨rfl, rfl⟩
    go_wp2_with fail
    go_ret
    exact ⟨by simp [mayB, h1], rfl⟩
  · go_enter Tryd.func64, Tryd.ntmps64
    go_wp2_with fail
    go_ret
    exact ⟨by simp [mayB]; omega, rfl⟩
theorem may_is (k : Int) (v : Bool) (w : World) {b : Nat} {c : Int} {n : Nat} {U M : Nat → Bool} (h : PgAt w b c n U M) (hv : mayB n k = v) :
    Calls Tryd.prog 64 #[.pointer (some ⟨b, 0, none⟩), .int .i64 k] w fun e w' => e = .returned (.bool v) ∧ w' = w := by
  rw [← hv]; exact may_any k w h

theorem wd0_has (S : Nat → Bool) (k : Nat) (h : k < 64) : (wd S 0 &&& 2 ^ k = 0) ↔ S k = false := by
  have := wd_has S k
  rwa [Nat.div_eq_of_lt h, Nat.mod_eq_of_lt h] at this
theorem wd0_put (S : Nat → Bool) (k : Nat) (h : k < 64) : wd (up S k true) 0 = wd S 0 ||| 2 ^ k := by
  have := wd_put S k
  rwa [Nat.div_eq_of_lt h, Nat.mod_eq_of_lt h] at this
theorem wd0_cut (S : Nat → Bool) (k : Nat) (h : k < 64) : wd (up S k false) 0 = wd S 0 &&& (18446744073709551615 - 2 ^ k) := by
  have := wd_cut S k
  rwa [Nat.div_eq_of_lt h, Nat.mod_eq_of_lt h] at this
theorem wd0_ne (S : Nat → Bool) (k : Nat) (h : k < 64) : (((wd S 0 &&& 2 ^ k : Nat) : Int) != 0) = S k := by
  have e1 := wd0_has S k h
  cases hS : S k
  · rw [e1.2 hS]; rfl
  · have : ¬ (wd S 0 &&& 2 ^ k = 0) := fun h => by rw [e1.1 h] at hS; cases hS
    rw [bne_iff_ne]
    omega

theorem used_nil (k : Int) (w : World) :
    Calls Tryd.prog 59 #[.pointer none, .int .i64 k] w fun e w' => e = .returned (.bool false) ∧ ∃ q, w' = w.drewN q := by
  go_enter Tryd.func59, Tryd.ntmps59
  go_wp2_with fail
  go_quiet ((go_at_call 64; exact Calls.quiet_of_same (may_nil _ _)))
  go_wp2
  go_ret
  exact ⟨rfl, _, rfl⟩
set_option maxHeartbeats 400000 in
theorem used_no (k : Int) (w : World) {b : Nat} {c : Int} {n : Nat} {U M : Nat → Bool} (h : PgAt w b c n U M) (hb : mayB n k = false) :
    Calls Tryd.prog 59 #[.pointer (some ⟨b, 0, none⟩), .int .i64 k] w fun e w' => e = .returned (.bool false) ∧ ∃ q, w' = w.drewN q := by
  go_enter Tryd.func59, Tryd.ntmps59
  go_wp2_with fail
  go_quiet ((go_at_call 64; exact Calls.quiet_of_same (may_is k false _ (h.drewN _) hb)))
  go_wp2
  go_ret
  exact ⟨rfl, _, rfl⟩
set_option maxHeartbeats 400000 in
theorem used_core (k v t r : Nat) (w : World) {b : Nat} {c : Int} {n : Nat} {U M : Nat → Bool} (h : PgAt w b c n U M) (hk : k < n) (hle : k < 64)
    (hc : w.cell? ⟨b, 1, none⟩ = some (.int .u64 v)) (ht : 2 ^ k = t) (hr : bits BinOp.and IntKind.u64 (v : Int) (t : Int) = (r : Int)) :
    Calls Tryd.prog 59 #[.pointer (some ⟨b, 0, none⟩), .int .i64 k] w fun e w' => e = .returned (.bool ((r : Int) != 0)) ∧ ∃ q, w' = w.drewN q := by
  have hb := may_true n k hk
  have HB : Hid (mayB n (k : Int) = true) := hb
  have HT : Hid (2 ^ k = t) := ht
  clear hb ht
  go_enter Tryd.func59, Tryd.ntmps59
  go_wp2_with fail
  go_quiet (first
    | (go_at_call 64; exact Calls.quiet_of_same (may_is k true _ (h.drewN _) HB.out))
    | (go_at_call 58; exact Calls.quiet_of_same (bit_is _ hle HT)))
  go_wp2
  go_ret
  exact ⟨rfl, _, rfl⟩
theorem pow_lt64 {k : Nat} (h : k < 64) : 2 ^ k < 18446744073709551616 := Nat.pow_lt_pow_of_lt (by decide) h

theorem used_is (k : Int) (v : Bool) (w : World) {b : Nat} {c : Int} {n : Nat} {U M : Nat → Bool} (h : PgAt w b c n U M) (hv : hasB n U k = v) :
    Calls Tryd.prog 59 #[.pointer (some ⟨b, 0, none⟩), .int .i64 k] w fun e w' => e = .returned (.bool v) ∧ ∃ q, w' = w.drewN q := by
  have hn := h.n32
  by_cases hb : mayB n k = true
  · have hb' := (may_spec n k).1 hb
    obtain ⟨m, rfl⟩ := Int.eq_ofNat_of_zero_le hb'.1
    have hm : m < n := by omega
    refine (used_core m (wd U 0) (2 ^ m) (wd U 0 &&& 2 ^ m) w h hm (by omega) h.c1 rfl (u64_and_nat _ _ (wd_lt _ _) (pow_lt64 (by omega)))).mono ?_
    rintro e w' ⟨rfl, hw⟩
    rw [wd0_ne U m (by omega), ← hv]
    exact ⟨by simp [hasB, hb], hw⟩
  · have hb' : mayB n k = false := by simpa using hb
    have : v = false := by rw [← hv]; simp [hasB, hb']
    subst this
    exact used_no k w h hb'
set_option maxHeartbeats 400000 in
theorem new_none (c : Int) (w : World) (h : c < 0 ∨ 7 < c) :
    Calls Tryd.prog 46 #[.int .i64 c] w fun e w' => e = .returned (.tuple #[.pointer none, .int .i64 1]) ∧ w' = w := by
  go_enter Tryd.func46, Tryd.ntmps46
  go_wp2_with fail
  refine (size_any' (none_sz h) _).mono ?_
  rintro e w' ⟨rfl, rfl⟩
  go_wp2_with fail
  go_ret2
  exact ⟨rfl, rfl⟩

set_option maxHeartbeats 400000 in
theorem new_core (c s : Int) (w : World) (h0 : 0 ≤ c) (h7 : c ≤ 7) (hs : Hid (szN c = s)) (hs0 : (s == 0) = false) :
    Calls Tryd.prog 46 #[.int .i64 c] w fun e w' => e = .returned (.tuple #[.pointer (some ⟨w.heap.size, 0, none⟩), .int .i64 0]) ∧
      w' = w.alloc (.cells #[.int .i64 (c + 1), .int .u64 0, .int .u64 0] 81) := by
  go_enter Tryd.func46, Tryd.ntmps46
  go_wp2_with fail
  refine (size_any' hs.out _).mono ?_
  rintro e w' ⟨rfl, rfl⟩
  go_wp2_with fail
  go_ret2
  exact ⟨rfl, rfl⟩

theorem new_any (c : Int) (w : World) (h0 : 0 ≤ c) (h7 : c ≤ 7) :
    Calls Tryd.prog 46 #[.int .i64 c] w fun e w' => ∃ b, w.heap.size ≤ b ∧ e = .returned (.tuple #[.pointer (some ⟨b, 0, none⟩), .int .i64 0]) ∧
      PgAt w' b c (slN c).toNat (fun _ => false) (fun _ => false) ∧ Below w.heap.size w w' := by
  have hz := sz_sl h0 h7
  refine (new_core c (szN c) w h0 h7 rfl (by simpa using hz.1)).mono ?_
  rintro e w' ⟨rfl, rfl⟩
  refine ⟨_, Nat.le_refl _, rfl, ⟨?_, h0, h7, by omega, fun _ _ => rfl, fun _ h => h⟩, (Below.refl _ _).alloc (Nat.le_refl _) _⟩
  exact World.rowIs_alloc w #[.int .i64 (c + 1), .int .u64 0, .int .u64 0] 81 (pgC (c + 1) (wd (fun _ => false) 0) (wd (fun _ => false) 0)) (fun i hi => by
    have : i = 0 ∨ i = 1 ∨ i = 2 := by simp at hi; omega
    rw [wd_zero]
    rcases this with rfl | rfl | rfl <;> rfl)

end Go.Proofs.YtfkimmbnmcgjiaaDoor

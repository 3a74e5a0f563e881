/- The walks of locate, Find, Size, Load. -/
import Derived.Test.YtfkimmbnmcgjiaaDoorArB
namespace Go.Proofs.YtfkimmbnmcgjiaaDoor
open Go.RowKit

/-- THE ADDRESS ad LIES IN THE USED SLOT s OF THE PAGE k, y words behind its beginning. -/
structure InS (P : Nat → Option PSt) (ad : Int) (k s y : Nat) (p : PSt) : Prop where
  hp : P k = some p
  hs : s < p.n
  hu : p.U s = true
  hy : y < p.sz
  he : ad = ((adr k s p.sz + y : Nat) : Int)
def OutS (P : Nat → Option PSt) (ad : Int) : Prop := ∀ k s y p, ¬ InS P ad k s y p

abbrev I64 (n : Int) : Prop := -9223372036854775808 ≤ n ∧ n ≤ 9223372036854775807

theorem loc_parts (ad : Int) (hb : I64 ad) : ∃ (pl kk : Int) (x : Nat), wrap64 (ad - 1048576) = pl ∧ I64 pl ∧ pl / 32 = kk ∧ pl - kk * 32 = (x : Int) ∧ x < 32 ∧ (0 ≤ kk → kk < 64 → ad = 1048576 + 32 * kk + (x : Int)) := by
  obtain ⟨h1, h2⟩ := hb
  have hw : I64 (wrap64 (ad - 1048576)) := by unfold I64 wrap64; omega
  refine ⟨wrap64 (ad - 1048576), wrap64 (ad - 1048576) / 32, (wrap64 (ad - 1048576) % 32).toNat, rfl, hw, rfl, ?_, ?_, ?_⟩
  · omega
  · omega
  · intro g1 g2
    have : wrap64 (ad - 1048576) = ad - 1048576 := by
      unfold wrap64 at g1 g2 ⊢
      omega
    omega

/-- The slot in which a word of a page lies. -/
theorem word_slot {x z m : Nat} (hz : 1 ≤ z) (hx : x < m * z) : x / z < m ∧ x % z < z ∧ x = (x / z) * z + x % z := by
  refine ⟨(Nat.div_lt_iff_lt_mul (by omega)).2 hx, Nat.mod_lt _ (by omega), ?_⟩
  have := Nat.div_add_mod x z
  rw [Nat.mul_comm] at this
  exact this.symm
theorem ins_parts {P : Nat → Option PSt} {ad kk : Int} {x : Nat} {k s y : Nat} {p : PSt} (hn : PNum p p.sz p.n) (hk : k < 64) (h : InS P ad k s y p) (he : 0 ≤ kk → kk < 64 → ad = 1048576 + 32 * kk + (x : Int))
    (hw : wrap64 (ad - 1048576) / 32 = kk) : kk = (k : Int) ∧ x = s * p.sz + y := by
  have h1 := slot_le hn.m h.hs
  have h2 := h.hy
  have h3 := h.he
  unfold adr at h3
  have e : wrap64 (ad - 1048576) = ad - 1048576 := w64_id (by omega)
  rw [e] at hw
  have e2 : kk = (k : Int) := by omega
  have := he (by omega) (by omega)
  exact ⟨e2, by omega⟩
theorem div_slot {s z y : Nat} (h : y < z) : (s * z + y) / z = s := by
  rw [Nat.mul_comm, Nat.mul_add_div (by omega), Nat.div_eq_of_lt h, Nat.add_zero]

set_option maxHeartbeats 400000 in
theorem loc_nil (ad pl kk : Int) (x : Nat) (w : World) (h1 : wrap64 (ad - 1048576) = pl) (h0 : I64 pl) (h2 : pl / 32 = kk) (h3 : pl - kk * 32 = (x : Int)) :
    Calls Tryd.prog 49 #[.pointer none, .int .i64 ad] w fun e w' => e = .returned (.tuple #[.int .i64 0, .int .i64 0, .bool false]) ∧ ∃ q, w' = w.drewN q := by
  obtain ⟨h01, h02⟩ := h0
  go_enter Tryd.func49, Tryd.ntmps49
  go_wp2_with fail
  refine (page_nil _ _).mono ?_
  rintro e w' ⟨rfl, rfl⟩
  go_wp2_with fail
  refine (class_nil _).mono ?_
  rintro e w' ⟨rfl, rfl⟩
  go_wp2_with fail
  refine (slot_out (-1) _ _ (Or.inr (by rw [show slN (-1) * szN (-1) = 0 from by decide]; omega))).mono ?_
  rintro e w' ⟨rfl, rfl⟩
  go_wp2_with fail
  go_ret3
  exact ⟨rfl, 0, rfl⟩
set_option maxHeartbeats 400000 in
theorem loc_none (ad pl kk : Int) (x : Nat) (w : World) {B ba bp bw n : Nat} {P : Nat → Option PSt} {W : Nat → Int} (h : ArAt w B ba bp bw n P W) (h1 : wrap64 (ad - 1048576) = pl) (h0 : I64 pl) (h2 : pl / 32 = kk) (h3 : pl - kk * 32 = (x : Int)) (hp : atI P kk = none) :
    Calls Tryd.prog 49 #[.pointer (some ⟨ba, 0, none⟩), .int .i64 ad] w fun e w' => e = .returned (.tuple #[.int .i64 0, .int .i64 0, .bool false]) ∧ ∃ q, w' = w.drewN q := by
  obtain ⟨h01, h02⟩ := h0
  have HP : Hid (atI P kk = none) := hp
  clear hp
  go_enter Tryd.func49, Tryd.ntmps49
  go_wp2_with fail
  refine (page_none _ _ h HP.out).mono ?_
  rintro e w' ⟨rfl, rfl⟩
  go_wp2_with fail
  refine (class_nil _).mono ?_
  rintro e w' ⟨rfl, rfl⟩
  go_wp2_with fail
  refine (slot_out (-1) _ _ (Or.inr (by rw [show slN (-1) * szN (-1) = 0 from by decide]; omega))).mono ?_
  rintro e w' ⟨rfl, rfl⟩
  go_wp2_with fail
  go_ret3
  exact ⟨rfl, 0, rfl⟩
set_option maxHeartbeats 400000 in
theorem loc_rest (ad pl : Int) (k x : Nat) (w : World) {B ba bp bw n : Nat} {P : Nat → Option PSt} {W : Nat → Int} {p : PSt} (h : ArAt w B ba bp bw n P W) (h1 : wrap64 (ad - 1048576) = pl) (h0 : I64 pl) (h2 : pl / 32 = (k : Int)) (h3 : pl - (k : Int) * 32 = (x : Int)) (hp : P k = some p) (hx : p.n * p.sz ≤ x) :
    Calls Tryd.prog 49 #[.pointer (some ⟨ba, 0, none⟩), .int .i64 ad] w fun e w' => e = .returned (.tuple #[.int .i64 0, .int .i64 0, .bool false]) ∧ ∃ q, w' = w.drewN q := by
  obtain ⟨h01, h02⟩ := h0
  have HP : Hid (P k = some p) := hp
  have HX : Hid (slN p.c * szN p.c ≤ (x : Int)) := by
    have := h.num hp
    show slN p.c * szN p.c ≤ (x : Int)
    rw [this.hs, this.hn]
    exact_mod_cast hx
  clear hp hx
  go_enter Tryd.func49, Tryd.ntmps49
  go_wp2_with fail
  refine (page_some _ _ h HP.out).mono ?_
  rintro e w' ⟨rfl, rfl⟩
  go_wp2_with fail
  refine (class_any _ (h.pg _ _ HP.out)).mono ?_
  rintro e w' ⟨rfl, rfl⟩
  go_wp2_with fail
  refine (slot_out _ _ _ (Or.inr HX.out)).mono ?_
  rintro e w' ⟨rfl, rfl⟩
  go_wp2_with fail
  go_ret3
  exact ⟨rfl, 0, rfl⟩
set_option maxHeartbeats 400000 in
theorem loc_free (ad pl : Int) (k x s : Nat) (w : World) {B ba bp bw n : Nat} {P : Nat → Option PSt} {W : Nat → Int} {p : PSt} (h : ArAt w B ba bp bw n P W) (h1 : wrap64 (ad - 1048576) = pl) (h0 : I64 pl) (h2 : pl / 32 = (k : Int)) (h3 : pl - (k : Int) * 32 = (x : Int)) (hp : P k = some p) (hx : x < p.n * p.sz) (hs : x / p.sz = s) (hu : p.U s = false) :
    Calls Tryd.prog 49 #[.pointer (some ⟨ba, 0, none⟩), .int .i64 ad] w fun e w' => e = .returned (.tuple #[.int .i64 0, .int .i64 0, .bool false]) ∧ ∃ q, w' = w.drewN q := by
  obtain ⟨h01, h02⟩ := h0
  have HP : Hid (P k = some p) := hp
  have HX : Hid ((x : Int) < slN p.c * szN p.c ∧ (x : Int) / szN p.c = (s : Int) ∧ hasB p.n p.U (s : Int) = false) := by
    have hn := h.num hp
    refine ⟨?_, ?_, ?_⟩
    · rw [hn.hs, hn.hn]; exact_mod_cast hx
    · rw [hn.hs, ← hs]; simp
    · exact has_nat _ _ _ _ (by rw [← hs]; exact (word_slot hn.s1 hx).1) hu
  clear hp hx hs hu
  go_enter Tryd.func49, Tryd.ntmps49
  go_wp2_with fail
  refine (page_some _ _ h HP.out).mono ?_
  rintro e w' ⟨rfl, rfl⟩
  go_wp2_with fail
  refine (class_any _ (h.pg _ _ HP.out)).mono ?_
  rintro e w' ⟨rfl, rfl⟩
  go_wp2_with fail
  refine (slot_in _ _ _ _ (by omega) HX.out.1 HX.out.2.1).mono ?_
  rintro e w' ⟨rfl, rfl⟩
  go_wp2_with fail
  refine (used_is _ false _ (h.pg _ _ HP.out) HX.out.2.2).mono ?_
  rintro e w' ⟨rfl, q, rfl⟩
  go_wp2_with fail
  go_ret3
  exact ⟨rfl, q, rfl⟩
set_option maxHeartbeats 400000 in
theorem loc_used (ad pl : Int) (k x s : Nat) (w : World) {B ba bp bw n : Nat} {P : Nat → Option PSt} {W : Nat → Int} {p : PSt} (h : ArAt w B ba bp bw n P W) (h1 : wrap64 (ad - 1048576) = pl) (h0 : I64 pl) (h2 : pl / 32 = (k : Int)) (h3 : pl - (k : Int) * 32 = (x : Int)) (hp : P k = some p) (hx : x < p.n * p.sz) (hs : x / p.sz = s) (hu : p.U s = true) :
    Calls Tryd.prog 49 #[.pointer (some ⟨ba, 0, none⟩), .int .i64 ad] w fun e w' => e = .returned (.tuple #[.int .i64 k, .int .i64 s, .bool true]) ∧ ∃ q, w' = w.drewN q := by
  obtain ⟨h01, h02⟩ := h0
  have HP : Hid (P k = some p) := hp
  have HX : Hid ((x : Int) < slN p.c * szN p.c ∧ (x : Int) / szN p.c = (s : Int) ∧ hasB p.n p.U (s : Int) = true) := by
    have hn := h.num hp
    refine ⟨?_, ?_, ?_⟩
    · rw [hn.hs, hn.hn]; exact_mod_cast hx
    · rw [hn.hs, ← hs]; simp
    · exact has_nat _ _ _ _ (by rw [← hs]; exact (word_slot hn.s1 hx).1) hu
  clear hp hx hs hu
  go_enter Tryd.func49, Tryd.ntmps49
  go_wp2_with fail
  refine (page_some _ _ h HP.out).mono ?_
  rintro e w' ⟨rfl, rfl⟩
  go_wp2_with fail
  refine (class_any _ (h.pg _ _ HP.out)).mono ?_
  rintro e w' ⟨rfl, rfl⟩
  go_wp2_with fail
  refine (slot_in _ _ _ _ (by omega) HX.out.1 HX.out.2.1).mono ?_
  rintro e w' ⟨rfl, rfl⟩
  go_wp2_with fail
  refine (used_is _ true _ (h.pg _ _ HP.out) HX.out.2.2).mono ?_
  rintro e w' ⟨rfl, q, rfl⟩
  go_wp2_with fail
  go_ret3
  exact ⟨rfl, q, rfl⟩

/-- Either the address lies in a used slot, or in none. -/
theorem ins_or (P : Nat → Option PSt) (ad : Int) : (∃ k s y p, InS P ad k s y p) ∨ OutS P ad := by
  by_cases e : ∃ k s y p, InS P ad k s y p
  · exact Or.inl e
  · exact Or.inr fun k s y p g => e ⟨k, s, y, p, g⟩

theorem locn_any (ad : Int) (w : World) (hb : I64 ad) :
    Calls Tryd.prog 49 #[.pointer none, .int .i64 ad] w fun e w' => e = .returned (.tuple #[.int .i64 0, .int .i64 0, .bool false]) ∧ ∃ q, w' = w.drewN q := by
  obtain ⟨pl, kk, x, h1, h2, h3, h4, h5, h6⟩ := loc_parts ad hb
  exact loc_nil ad pl kk x w h1 h2 h3 h4
section
variable (ad : Int) (w : World) {B ba bp bw n : Nat} {P : Nat → Option PSt} {W : Nat → Int} (h : ArAt w B ba bp bw n P W) (hb : I64 ad)
include h hb
theorem loc_in {k s y : Nat} {p : PSt} (hi : InS P ad k s y p) :
    Calls Tryd.prog 49 #[.pointer (some ⟨ba, 0, none⟩), .int .i64 ad] w fun e w' => e = .returned (.tuple #[.int .i64 k, .int .i64 s, .bool true]) ∧ ∃ q, w' = w.drewN q := by
  obtain ⟨pl, kk, x, h1, h2, h3, h4, h5, h6⟩ := loc_parts ad hb
  have hn := h.num hi.hp
  have hk : k < 64 := Nat.lt_of_lt_of_le (h.klt hi.hp) h.n64
  obtain ⟨rfl, rfl⟩ := ins_parts hn hk hi h6 (by rw [h1]; exact h3)
  have hy := hi.hy
  refine loc_used ad pl k _ s w h h1 h2 h3 h4 hi.hp ?_ (div_slot hy) hi.hu
  have := hi.hs
  have : (s + 1) * p.sz ≤ p.n * p.sz := Nat.mul_le_mul_right _ (by omega)
  rw [Nat.add_mul, Nat.one_mul] at this
  omega
theorem loc_out (ho : OutS P ad) :
    Calls Tryd.prog 49 #[.pointer (some ⟨ba, 0, none⟩), .int .i64 ad] w fun e w' => e = .returned (.tuple #[.int .i64 0, .int .i64 0, .bool false]) ∧ ∃ q, w' = w.drewN q := by
  obtain ⟨pl, kk, x, h1, h2, h3, h4, h5, h6⟩ := loc_parts ad hb
  rcases atI_cases P kk with hp | ⟨k, p, rfl, hp⟩
  · exact loc_none ad pl kk x w h h1 h2 h3 h4 hp
  · have hn := h.num hp
    have hk : k < 64 := Nat.lt_of_lt_of_le (h.klt hp) h.n64
    rcases Nat.lt_or_ge x (p.n * p.sz) with hx | hx
    · obtain ⟨g1, g2, g3⟩ := word_slot hn.s1 hx
      cases hu : p.U (x / p.sz)
      · exact loc_free ad pl k x _ w h h1 h2 h3 h4 hp hx rfl hu
      · refine absurd (⟨hp, g1, hu, g2, ?_⟩ : InS P ad k (x / p.sz) (x % p.sz) p) (ho k _ _ p)
        have := h6 (by omega) (by omega)
        unfold adr
        rw [this]
        generalize x / p.sz * p.sz = a at *
        omega
    · exact loc_rest ad pl k x w h h1 h2 h3 h4 hp hx

set_option maxHeartbeats 400000 in
theorem find_in {k s y : Nat} {p : PSt} (hi : InS P ad k s y p) :
    Calls Tryd.prog 36 #[.pointer (some ⟨ba, 0, none⟩), .int .i64 ad] w fun e w' => e = .returned (.tuple #[.int .i64 (adr k s p.sz : Nat), .bool true]) ∧ ∃ q, w' = w.drewN q := by
  go_enter Tryd.func36, Tryd.ntmps36
  go_wp2_with fail
  refine (loc_in ad _ h hb hi).mono ?_
  rintro e w' ⟨rfl, q, rfl⟩
  go_wp2_with fail
  refine (base_some k s _ (h.drewN _) hi.hp hi.hs).mono ?_
  rintro e w' ⟨rfl, rfl⟩
  go_wp2_with fail
  go_ret2
  exact ⟨rfl, q, rfl⟩
set_option maxHeartbeats 400000 in
theorem find_out (ho : OutS P ad) :
    Calls Tryd.prog 36 #[.pointer (some ⟨ba, 0, none⟩), .int .i64 ad] w fun e w' => e = .returned (.tuple #[.int .i64 0, .bool false]) ∧ ∃ q, w' = w.drewN q := by
  go_enter Tryd.func36, Tryd.ntmps36
  go_wp2_with fail
  refine (loc_out ad _ h hb ho).mono ?_
  rintro e w' ⟨rfl, q, rfl⟩
  go_wp2_with fail
  go_ret2
  exact ⟨rfl, q, rfl⟩
omit hb in
/-- The word's place in the list of all words. -/
theorem ins_place {k s y : Nat} {p : PSt} (hi : InS P ad k s y p) : ∃ x : Nat, x = 32 * k + s * p.sz + y ∧ x < 32 * n ∧ ad = 1048576 + (x : Int) := by
  have hn := h.num hi.hp
  have h1 := slot_le hn.m hi.hs
  have h2 := hi.hy
  have h3 := hi.he
  have h4 := h.klt hi.hp
  unfold adr at h3
  exact ⟨_, rfl, by omega, by omega⟩
set_option maxHeartbeats 400000 in
theorem load_in {k s y : Nat} {p : PSt} (hi : InS P ad k s y p) :
    Calls Tryd.prog 38 #[.pointer (some ⟨ba, 0, none⟩), .int .i64 ad] w fun e w' => e = .returned (.tuple #[.int .i64 (W (32 * k + s * p.sz + y)), .bool true]) ∧ ∃ q, w' = w.drewN q := by
  obtain ⟨x, hx, hx2, hx3⟩ := ins_place ad w h hi
  rw [← hx]
  have H : Hid (ArAt w B ba bp bw n P W) := h
  have HI : Hid (InS P ad k s y p) := hi
  have h1 := h.c1
  have h2 := h.cw hx2
  have hN := h.n64
  generalize W x = v at *
  clear h hi hx
  subst hx3
  have hx2I : (x : Int) < 32 * (n : Int) := by omega
  generalize 32 * n = m at *
  go_enter Tryd.func38, Tryd.ntmps38
  go_wp2_with fail
  refine (loc_in _ _ H.out hb HI.out).mono ?_
  rintro e w' ⟨rfl, q, rfl⟩
  go_wp2_with fail
  go_ret2
  exact ⟨rfl, q, rfl⟩
set_option maxHeartbeats 400000 in
theorem load_out (ho : OutS P ad) :
    Calls Tryd.prog 38 #[.pointer (some ⟨ba, 0, none⟩), .int .i64 ad] w fun e w' => e = .returned (.tuple #[.int .i64 0, .bool false]) ∧ ∃ q, w' = w.drewN q := by
  go_enter Tryd.func38, Tryd.ntmps38
  go_wp2_with fail
  refine (loc_out ad _ h hb ho).mono ?_
  rintro e w' ⟨rfl, q, rfl⟩
  go_wp2_with fail
  go_ret2
  exact ⟨rfl, q, rfl⟩
end

end Go.Proofs.YtfkimmbnmcgjiaaDoor

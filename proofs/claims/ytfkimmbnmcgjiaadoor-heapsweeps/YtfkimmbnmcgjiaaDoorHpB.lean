/- The walks of the Heap's placeOf, Find, object, Color. -/
import Derived.Test.YtfkimmbnmcgjiaaDoorHpA
import Derived.Deep.RegionHeld3
namespace Go.Proofs.YtfkimmbnmcgjiaaDoor
open Go.RowKit

section
variable {w : World} {B : Nat} {b : Hb} {n : Nat} {nf : List Int} {s : Hs}

set_option maxHeartbeats 1000000 in
theorem place_core {bh ba bp bw : Nat} {P : Nat → Option PSt} {W : Nat → Int} (hc0 : w.cell? ⟨bh, 0, none⟩ = some (.pointer (some ⟨ba, 0, none⟩))) (har : ArAt w B ba bp bw n P W) {k x : Nat} {p : PSt} (hp : P k = some p) (hx : x < p.n) :
    Calls Tryd.prog 26 #[.pointer (some ⟨bh, 0, none⟩), .int .i64 (adr k x p.sz : Nat)] w fun e w' => e = .returned (plV k x) ∧ Below w.heap.size w w' := by
  have hlt : bh < w.heap.size := World.block_lt_of_cell? _ _ hc0
  have HN : Hid (PNum p p.sz p.n) := har.num hp
  have hk : k < 64 := Nat.lt_of_lt_of_le (har.klt hp) har.n64
  have hm := slot_le HN.out.m hx
  have HS : Hid (x < slN p.c) := by have := HN.out.hn; show (x : Int) < slN p.c; omega
  have HA : Hid (ArAt w B ba bp bw n P W) := har
  unfold adr plV
  clear har
  obtain ⟨t, ht⟩ : ∃ t, t = x * p.sz := ⟨_, rfl⟩
  have HD : Hid ((t : Int) / szN p.c = x ∧ (t : Int) < slN p.c * szN p.c) := by
    have e1 := HN.out.hs
    have e2 := HN.out.hn
    have e3 := HN.out.s1
    rw [e1, e2, ht]
    constructor
    · rw [← Int.natCast_ediv, Nat.mul_div_cancel _ (by omega)]
    · rw [← Int.natCast_mul]
      have := Nat.mul_lt_mul_of_pos_right hx (show 0 < p.sz by omega)
      omega
  have hz1 : 1 ≤ p.sz := HN.out.s1
  rw [← ht] at hm ⊢
  clear ht
  have ht32 : t < 32 := by omega
  clear hm hz1 HN
  have e1 : ((1048576 + 32 * k + t : Nat) : Int) - 1048576 = ((32 * k + t : Nat) : Int) := by omega
  have e2 : ((32 * k + t : Nat) : Int).tdiv 32 = (k : Int) := by
    rw [Int.tdiv_eq_ediv_of_nonneg (by omega)]; omega
  have e3 : ((32 * k + t : Nat) : Int).tmod 32 = (t : Int) := by
    rw [Int.tmod_eq_emod_of_nonneg (by omega)]; omega
  obtain ⟨ad, had⟩ : ∃ ad : Nat, ad = 1048576 + 32 * k + t := ⟨_, rfl⟩
  obtain ⟨wd, hwd⟩ : ∃ wd : Nat, wd = 32 * k + t := ⟨_, rfl⟩
  have e4 : (ad : Int) - 1048576 = (wd : Int) := by omega
  have e5 : (wd : Int).tdiv 32 = (k : Int) := by rw [hwd]; exact e2
  have e6 : (wd : Int).tmod 32 = (t : Int) := by rw [hwd]; exact e3
  have hwd2 : wd < 4096 := by omega
  rw [← had]
  clear had hwd e1 e2 e3
  go_enter Tryd.func26, Tryd.ntmps26
  go_wp2_with fail
  refine (page_some k _ (HA.out.below ((Below.refl _ _).alloc (Nat.le_refl _) _)) hp).mono ?_
  rintro e w' ⟨rfl, rfl⟩
  go_wp2_with fail
  refine (class_any _ ((HA.out.pg k p hp).below ((Below.refl _ _).alloc (Nat.le_refl _) _))).mono ?_
  rintro e w' ⟨rfl, rfl⟩
  go_wp2_with fail
  refine (slot_in p.c t x _ (by omega) HD.out.2 HD.out.1).mono ?_
  rintro e w' ⟨rfl, rfl⟩
  go_wp2_with fail
  refine bodyPost_ret (v := plV k x) (by simp [results, go_sem, plV]) rfl ?_
  exact ⟨rfl, (Below.refl _ _).alloc (Nat.le_refl _) _⟩
theorem place_any (h : HpAt w B b n nf s) {k x : Nat} {p : PSt} (hp : s.P k = some p) (hx : x < p.n) :
    Calls Tryd.prog 26 #[.pointer (some ⟨b.bh, 0, none⟩), .int .i64 (adr k x p.sz : Nat)] w fun e w' => e = .returned (plV k x) ∧ Below w.heap.size w w' :=
  place_core h.c0 h.ar hp hx

/-! ### Find -/
set_option maxHeartbeats 400000 in
theorem hfind_in (h : HpAt w B b n nf s) {ad : Int} (hb : I64 ad) {k x y : Nat} {p : PSt} (hi : InS s.P ad k x y p) :
    Calls Tryd.prog 16 #[.pointer (some ⟨b.bh, 0, none⟩), .int .i64 ad] w fun e w' => e = .returned (.tuple #[.int .i64 (adr k x p.sz : Nat), .bool true]) ∧ ∃ q, w' = w.drewN q := by
  have hc0 := h.c0
  have HA : Hid (ArAt w B b.ba b.bp b.bw n s.P s.W) := h.ar
  clear h
  go_enter Tryd.func16, Tryd.ntmps16
  go_wp2_with fail
  refine (find_in ad _ HA.out hb hi).mono ?_
  rintro e w' ⟨rfl, q, rfl⟩
  go_wp2_with fail
  go_ret2
  exact ⟨rfl, q, rfl⟩
set_option maxHeartbeats 400000 in
theorem hfind_out (h : HpAt w B b n nf s) {ad : Int} (hb : I64 ad) (ho : OutS s.P ad) :
    Calls Tryd.prog 16 #[.pointer (some ⟨b.bh, 0, none⟩), .int .i64 ad] w fun e w' => e = .returned (.tuple #[.int .i64 0, .bool false]) ∧ ∃ q, w' = w.drewN q := by
  have hc0 := h.c0
  have HA : Hid (ArAt w B b.ba b.bp b.bw n s.P s.W) := h.ar
  clear h
  go_enter Tryd.func16, Tryd.ntmps16
  go_wp2_with fail
  refine (find_out ad _ HA.out hb ho).mono ?_
  rintro e w' ⟨rfl, q, rfl⟩
  go_wp2_with fail
  go_ret2
  exact ⟨rfl, q, rfl⟩
theorem hfind_nil (ad : Int) (w : World) : Calls Tryd.prog 16 #[.pointer none, .int .i64 ad] w fun e w' => e = .returned (.tuple #[.int .i64 0, .bool false]) ∧ w' = w := by
  go_enter Tryd.func16, Tryd.ntmps16
  go_wp2_with fail
  go_ret2
  exact ⟨rfl, rfl⟩

/-! ### object -/
/-- No object begins at the address. -/
def NoBeg (P : Nat → Option PSt) (ad : Int) : Prop := ∀ k x p, ¬ InS P ad k x 0 p
theorem beg_or (P : Nat → Option PSt) (ad : Int) : (∃ k x p, InS P ad k x 0 p) ∨ NoBeg P ad := by
  by_cases e : ∃ k x p, InS P ad k x 0 p
  · exact Or.inl e
  · exact Or.inr fun k x p g => e ⟨k, x, p, g⟩

theorem obj_nil (ad : Int) (w : World) : Calls Tryd.prog 37 #[.pointer none, .int .i64 ad] w fun e w' => e = .returned (.tuple #[.agg #[.int .i64 0, .int .i64 0, .int .i64 0], .bool false]) ∧ Below w.heap.size w w' := by
  go_enter Tryd.func37, Tryd.ntmps37
  go_wp2_with fail
  refine (hfind_nil ad _).mono ?_
  rintro e w' ⟨rfl, rfl⟩
  go_wp2_with fail
  refine bodyPost_ret (v := .tuple #[.agg #[.int .i64 0, .int .i64 0, .int .i64 0], .bool false]) (by simp [results, go_sem]) rfl ?_
  exact ⟨rfl, (Below.refl _ _).alloc (Nat.le_refl _) _⟩

set_option maxHeartbeats 1000000 in
theorem obj_no (h : HpAt w B b n nf s) {ad : Int} (hb : I64 ad) (hn : NoBeg s.P ad) :
    Calls Tryd.prog 37 #[.pointer (some ⟨b.bh, 0, none⟩), .int .i64 ad] w fun e w' => e = .returned (.tuple #[.agg #[.int .i64 0, .int .i64 0, .int .i64 0], .bool false]) ∧ Below w.heap.size w w' := by
  have H1 : Hid (HpAt (w.alloc (.cells #[.int .i64 0, .int .i64 0, .int .i64 0] 59)) B b n nf s) := h.below ((Below.refl _ _).alloc (Nat.le_refl _) _)
  clear h
  rcases ins_or s.P ad with ⟨k, x, y, p, hi⟩ | ho
  · have hne : ¬ ((adr k x p.sz : Nat) : Int) = ad := fun e => by
      have h1 := hi.he
      have h2 := hi.hy
      have e0 : y = 0 := by omega
      subst e0
      exact hn k x p hi
    generalize hA : adr k x p.sz = A at *
    have HA : Hid (adr k x p.sz = A) := hA
    have hne2 : decide ((A : Int) = ad) = false := by simpa using hne
    clear hA
    go_enter Tryd.func37, Tryd.ntmps37
    go_wp2_with fail
    refine (hfind_in H1.out hb hi).mono ?_
    rintro e w' ⟨rfl, q, rfl⟩
    rw [HA.out]
    go_wp2_with fail
    refine bodyPost_ret (v := .tuple #[.agg #[.int .i64 0, .int .i64 0, .int .i64 0], .bool false]) (by simp [results, go_sem]) rfl ?_
    exact ⟨rfl, (((below_drewN ((Below.refl _ _).alloc (Nat.le_refl _) _) _).setCell (Nat.le_refl _) _).setCell (Nat.le_refl _) _).setCell (Nat.le_refl _) _⟩
  · go_enter Tryd.func37, Tryd.ntmps37
    go_wp2_with fail
    refine (hfind_out H1.out hb ho).mono ?_
    rintro e w' ⟨rfl, q, rfl⟩
    go_wp2_with fail
    refine bodyPost_ret (v := .tuple #[.agg #[.int .i64 0, .int .i64 0, .int .i64 0], .bool false]) (by simp [results, go_sem]) rfl ?_
    exact ⟨rfl, (((below_drewN ((Below.refl _ _).alloc (Nat.le_refl _) _) _).setCell (Nat.le_refl _) _).setCell (Nat.le_refl _) _).setCell (Nat.le_refl _) _⟩

/-- What is read of the map while nothing but new memory is laid. -/
theorem obs_keep (h : HpAt w B b n nf s) {k x : Nat} (hk : k ≤ 3000000) (hx : x ≤ 3000000) {o : Ob} (ho : s.O k x = some o) {w' : World} (hb : Below w.heap.size w w') :
    w'.cell? ⟨b.bh, 2, none⟩ = some (.map (some b.bm)) ∧ (Instr.lookup 55 (.map (some b.bm)) (.agg #[.int .i64 k, .int .i64 x]) true).run Tryd.prog w' = .ok (.tuple #[.agg #[.int .i64 o.sh, .int .i64 o.se, .int .i64 o.co], .bool true]) w' ∧ Hid (Below w.heap.size w w') := by
  refine ⟨(hb.cell (p := ⟨b.bh, 2, none⟩) h.hd.lt).trans h.c2, ?_, hb⟩
  have := ((h.mp.below hb).look hk hx).1
  rw [ho] at this
  exact this
end

end Go.Proofs.YtfkimmbnmcgjiaaDoor

/- Arguments opened; PileClears as read; the walk of the law PileOrder. -/
import Derived.Test.YtckljbjnhgnkgaaPiD
import Derived.ProofKit
import Derived.OpenShut
import Derived.Deep.Slices
namespace Go.Proofs.Ytckljbjnhgnkgaa
open Go.ChangeShapes Go.WideShapes Go.ChangeAt Go.RowKit

theorem Try.cells3 : Try.prog.cellsOf 3 = 1 := by kernel_rfl
theorem Try.laidOut : laidOutB Try.prog = true := by kernel_rfl

set_option maxRecDepth 100000 in
theorem ints_ofC {H : Type} {enc : TypeId × Value → H} {W : World} {n : Nat} {cs : List Value} {y : DataW H × List MemPlace} (h : DataW.trod enc Try.prog W 0 (fun _ => true) true n 26 cs = some y) :
    ∃ (L : List Int) (v : Value), cs = [v] ∧ L.length ≤ maxLen ∧ SrcC W v L := by
  rcases open_ints Try.underlying26 Try.underlying3 Try.cells3 h with ⟨rfl, _⟩ | ⟨a, len', cap', zs, rfl, _, hl, hm, hz, _, hcell, _⟩
  · exact ⟨[], _, rfl, Nat.zero_le _, Or.inl ⟨rfl, Or.inl rfl⟩⟩
  · simp at hz
    have hlen : (zs.take len').length = len' := by rw [List.length_take]; omega
    refine ⟨zs.take len', _, rfl, by rw [hlen]; omega, ?_⟩
    by_cases h0 : len' = 0
    · subst h0
      exact Or.inl ⟨by simp, Or.inr ⟨a, cap', rfl⟩⟩
    · have hc0 := cell_lt (hcell 0 (by omega))
      obtain ⟨ab, ao, sp⟩ := a
      have hsp : sp = none := hc0.2
      subst hsp
      refine Or.inr ⟨ab, ao, cap', by rw [hlen], by rw [hlen]; exact hl, hm, hc0.1, fun j hj => ?_⟩
      rw [hlen] at hj
      have := hcell j (by omega)
      rw [← Go.WideShapes.add_plain, this]
      simp [List.getD, hj]

set_option maxRecDepth 100000 in
theorem ints_argC {H : Type} {enc : TypeId × Value → H} {W : World} {base : Nat} {v : Value} {d : DataW H} {p : List MemPlace} (h : DataW.Trod enc Try.prog W 0 (fun _ => true) true 26 v d p)
    (hv : Value.okWide Try.prog W .any base 26 v) : ∃ (L : List Int) (a : Option Addr) (c : Nat), v = .slice a L.length c ∧ L.length ≤ maxLen ∧ SrcC W (.slice a L.length c) L := by
  obtain ⟨a0, len, cap, rfl⟩ := okWide_slice Try.underlying26 hv
  obtain ⟨fuel, hf⟩ := h
  obtain ⟨L, v, hcs, hm, hs⟩ := ints_ofC hf
  simp only [Value.cells] at hcs
  simp at hcs
  subst hcs
  obtain ⟨a, c, e⟩ := hs.len
  rw [e] at hs
  exact ⟨L, a, c, e, hm, hs⟩

theorem clears_arg {H : Type} {enc : TypeId × Value → H} {W : World} {base : Nat} {v : Value} {d : DataW H} {p : List MemPlace} (n : Int) (h : DataW.Trod enc Try.prog W 0 (fun _ => true) true 26 v d p)
    (hv : Value.okWide Try.prog W .any base 26 v) :
    Calls Try.prog 5 #[.int .i64 n, v] W fun e w' => e = .returned (.bool true) ∧ Below W.heap.size W w' := by
  obtain ⟨L, a, c, rfl, h1, h2⟩ := ints_argC h hv
  exact clears_any n L a c W h2

/-- A PILE, as a law sees it. -/
def Po (w wr : World) (b R : Nat) (L : List Int) (l : Bool) : Prop := ∃ v, PiAt wr w.heap.size b v R L l ∧ Below w.heap.size w wr
section
variable {w wr w' : World} {b R : Nat} {L : List Int} {l : Bool}
theorem Po.lo (h : Po w wr b R L l) : Below w.heap.size w wr := by obtain ⟨v, _, h⟩ := h; exact h
theorem Po.le (h : Po w wr b R L l) : L.length ≤ R ∧ 1 ≤ R ∧ R ≤ 1000 := by obtain ⟨v, h, _⟩ := h; exact ⟨h.le, h.r1, h.r2⟩
theorem Po.below (h : Po w wr b R L l) (hB : Below wr.heap.size wr w') : Po w w' b R L l := by
  obtain ⟨v, h, h2⟩ := h
  exact ⟨v, h.below hB, h2.trans (hB.mono h2.size)⟩
theorem po_len (h : Po w wr b R L l) : Calls Try.prog 13 #[.pointer (some ⟨b, 0, none⟩)] wr fun e w' => e = .returned (.int .i64 (L.length : Int)) ∧ w' = wr := by
  obtain ⟨v, h, _⟩ := h; exact plen_any _ h
theorem po_lost (h : Po w wr b R L l) : Calls Try.prog 14 #[.pointer (some ⟨b, 0, none⟩)] wr fun e w' => e = .returned (.bool l) ∧ w' = wr := by
  obtain ⟨v, h, _⟩ := h; exact plost_any _ h
theorem po_put {x : Value} {M : List Int} {K : Nat} (h : Po w wr b R L l) (hx : SrcC w x M) (hK : min M.length (R - L.length) = K) :
    Calls Try.prog 9 #[.pointer (some ⟨b, 0, none⟩), x] wr fun e w' => e = .returned (.int .i64 (K : Int)) ∧ Po w w' b R (L ++ M.take K) (l || decide (K < M.length)) := by
  obtain ⟨v, h, lo⟩ := h
  refine (put_any wr h lo.size (fun w' hf => hx.below (lo.trans (hf.below h.bB h.own lo.size))) hK).mono ?_
  rintro e w' ⟨rfl, v', g⟩
  exact ⟨rfl, v', g.at_, lo.trans (g.fr.below h.bB h.own lo.size)⟩
theorem po_clear (h : Po w wr b R L l) : Calls Try.prog 12 #[.pointer (some ⟨b, 0, none⟩)] wr fun e w' => e = .returned (.tuple #[]) ∧ Po w w' b R [] false := by
  obtain ⟨v, h, lo⟩ := h
  refine (clear_any _ h).mono ?_
  rintro e w' ⟨rfl, g, hf⟩
  exact ⟨rfl, _, g, lo.trans (hf.below h.bB h.own lo.size)⟩
theorem po_found (h : Po w wr b R L l) : Calls Try.prog 11 #[.pointer (some ⟨b, 0, none⟩)] wr fun e w' => e = .returned (.tuple #[]) ∧ Po w w' b R L false := by
  obtain ⟨v, h, lo⟩ := h
  refine (found_any _ h).mono ?_
  rintro e w' ⟨rfl, g, hf⟩
  exact ⟨rfl, _, g, lo.trans (hf.below h.bB h.own lo.size)⟩
theorem po_take {x : Int} (h : Po w wr b R (L ++ [x]) l) : Calls Try.prog 10 #[.pointer (some ⟨b, 0, none⟩)] wr fun e w' => e = .returned (.tuple #[.int .i64 x, .bool true]) ∧ Po w w' b R L l := by
  obtain ⟨v, h, lo⟩ := h
  refine (ptake_some _ h).mono ?_
  rintro e w' ⟨rfl, v', g, hf, ho⟩
  exact ⟨rfl, _, g, lo.trans (hf.below h.bB h.own lo.size)⟩
theorem po_none (h : Po w wr b R [] l) : Calls Try.prog 10 #[.pointer (some ⟨b, 0, none⟩)] wr fun e w' => e = .returned (.tuple #[.int .i64 0, .bool false]) ∧ w' = wr := by
  obtain ⟨v, h, _⟩ := h; exact ptake_none _ h
theorem po_new {w1 w2 : World} (hB1 : Below w.heap.size w w1) (h2 : PiAt w2 w1.heap.size w1.heap.size (.slice none 0 0) R [] false) (hB2 : Below w1.heap.size w1 w2) : Po w w2 w1.heap.size R [] false :=
  ⟨_, h2.mono hB1.size, hB1.trans (hB2.mono hB1.size)⟩
end

set_option maxRecDepth 100000 in
set_option maxHeartbeats 1000000 in
theorem order_few (n : Int) (a : Option Addr) (l c : Nat) (w : World) (h : n < 1 ∨ 200 < n ∨ 100 < l) :
    Calls Try.prog 4 #[.int .i64 n, .slice a l c] w fun e w' => e = .returned (.bool true) ∧ Below w.heap.size w w' := by
  by_cases h1 : n < 1
  · go_enter Try.func4, Try.ntmps4
    go_wp2_with fail
    refine (alive_any _).mono ?_
    rintro e w1 ⟨rfl, hB1⟩
    go_wp2_with fail
    go_ret
    exact ⟨rfl, hB1⟩
  · by_cases h2 : 200 < n
    · go_enter Try.func4, Try.ntmps4
      go_wp2_with fail
      refine (alive_any _).mono ?_
      rintro e w1 ⟨rfl, hB1⟩
      go_wp2_with fail
      go_ret
      exact ⟨rfl, hB1⟩
    · have h3 : 100 < (l : Int) := by omega
      go_enter Try.func4, Try.ntmps4
      go_wp2_with fail
      refine (alive_any _).mono ?_
      rintro e w1 ⟨rfl, hB1⟩
      go_wp2_with fail
      go_ret
      exact ⟨rfl, hB1⟩

set_option maxRecDepth 100000 in
set_option maxHeartbeats 8000000 in
theorem order_a (n : Nat) (M : List Int) (a : Option Addr) (m c : Nat) (w : World) (h1 : 1 ≤ n) (h2 : n ≤ 200) (hm : M.length = m) (hl : m ≤ 100) (hmn : m < n) (hD : SrcC w (.slice a m c) M) :
    Calls Try.prog 4 #[.int .i64 n, .slice a m c] w fun e w' => e = .returned (.bool true) ∧ Below w.heap.size w w' := by
  have HD : Hid (SrcC w (.slice a m c) M) := hD
  have hK : min m n = m := by omega
  have HK : Hid (min M.length (n - ([] : List Int).length) = m) := by
    show min M.length (n - 0) = m
    rw [hm, Nat.sub_zero]; exact hK
  have hmin : min (n : Int) (m : Int) = (m : Int) := by omega
  have HT : Hid (M.length = m ∧ m ≤ m ∧ (M.take m).length = m ∧ min m n = m) := ⟨hm, by omega, by rw [List.length_take]; omega, hK⟩
  clear hD hK hm
  go_enter Try.func4, Try.ntmps4
  go_wp2_with fail
  refine (alive_any _).mono ?_
  rintro e w1 ⟨rfl, hB1⟩
  have HB1 : Hid (Below w.heap.size w w1) := hB1
  clear hB1
  go_wp2_with fail
  refine (pnew_any n n _ (by omega)).mono ?_
  rintro e w2 ⟨rfl, hp2, hB2⟩
  have H2 : Hid (Po w w2 w1.heap.size n [] false) := po_new HB1.out hp2 hB2
  clear hp2 hB2 HB1
  generalize w1.heap.size = b1 at *
  go_wp2_with fail
  refine (po_put H2.out HD.out HK.out).mono ?_
  rintro e w4 ⟨rfl, h4⟩
  obtain ⟨lo, hlo⟩ : ∃ lo, decide (n < m) = lo := ⟨_, rfl⟩
  have H4 : Hid (Po w w4 b1 n (M.take m) lo) := by
    show Po _ _ _ _ _ _
    have e : (false || decide (m < M.length)) = lo := by
      rw [← hlo, Bool.false_or]
      have := HT.out
      by_cases e : n < m <;> simp [e] <;> omega
    rw [e] at h4
    simpa using h4
  clear h4 H2
  have hlen : (M.take m).length = m := HT.out.2.2.1
  go_wp2_with fail
  refine (po_lost H4.out).mono ?_
  rintro e wz ⟨rfl, hz⟩
  subst wz
  go_wp2_with fail
  refine (po_len H4.out).mono ?_
  rintro e wz ⟨rfl, hz⟩
  subst wz
  rw [hlen]
  go_wp2_with fail
  have H8 : Hid (Po w w4 b1 n (M.take m) lo) := H4.out
  clear H4 hlen
  go_loopw [7] (fun iv wr => ∃ t : Nat, t ≤ m ∧ iv = .int .i64 ((t : Int) - 1) ∧ Hid (Po w wr b1 n (M.take t) lo)) (fun iv _ => (intOf iv + 1).toNat)
  case atStart => exact ⟨m, Nat.le_refl _, rfl, H8⟩
  case round =>
    obtain ⟨t, ht, rfl, HR⟩ := hrel
    rcases t with _ | t
    · have HR0 : Hid (Po w wr b1 n [] lo) := HR.out
      clear HR
      go_wp2_with fail
      refine (po_none HR0.out).mono ?_
      rintro e wz ⟨rfl, hz⟩
      subst wz
      go_wp2_with fail
      refine (po_found HR0.out).mono ?_
      rintro e w5 ⟨rfl, h5⟩
      have H5 : Hid (Po w w5 b1 n [] false) := h5
      clear h5 HR0
      go_wp2_with fail
      refine (po_lost H5.out).mono ?_
      rintro e wz ⟨rfl, hz⟩
      subst wz
      go_wp2_with fail
      refine (po_len H5.out).mono ?_
      rintro e wz ⟨rfl, hz⟩
      subst wz
      go_wp2_with fail
      go_ret
      exact ⟨rfl, H5.out.lo⟩
    · have et : ((t + 1 : Nat) : Int) - 1 = (t : Int) := by omega
      rw [et]
      have htm : (t : Int) < (m : Int) := by have := HT.out; omega
      have HR1 : Hid (Po w wr b1 n (M.take t ++ [M.getD t 0]) lo) := by
        show Po _ _ _ _ _ _
        rw [← take_snocD M t (by have := HT.out; omega)]
        exact HR.out
      clear HR
      rcases HD.out with ⟨e, _⟩ | ⟨bs, off, cc, e, _, _, hbs, hcl⟩
      · exfalso
        have := HT.out
        rw [e] at this
        simp at this
        omega
      obtain ⟨x, hx⟩ : ∃ x, M.getD t 0 = x := ⟨_, rfl⟩
      have HX : Hid (w.cell? ⟨bs, off + t, none⟩ = some (.int .i64 x)) := by
        rw [← hx]; exact hcl t (by have := HT.out; omega)
      cases e
      rw [hx] at HR1
      clear hcl hx
      go_wp2_with fail
      refine (po_take HR1.out).mono ?_
      rintro e w5 ⟨rfl, h5⟩
      have H5 : Hid (Po w w5 b1 n (M.take t) lo) := h5
      have hc5 : w5.cell? ⟨bs, off + t, none⟩ = some (.int .i64 x) := (h5.lo.cell (p := ⟨bs, off + t, none⟩) hbs).trans HX.out
      clear h5 HR1
      go_wp2_with fail
      go_roundw
      case rel => exact ⟨t, by omega, by go_num, H5⟩
      case measure => simp [intOf]
set_option maxRecDepth 100000 in
set_option maxHeartbeats 8000000 in
theorem order_b (n : Nat) (M : List Int) (a : Option Addr) (m c : Nat) (w : World) (h1 : 1 ≤ n) (h2 : n ≤ 200) (hm : M.length = m) (hl : m ≤ 100) (hmn : ¬ m < n) (hD : SrcC w (.slice a m c) M) :
    Calls Try.prog 4 #[.int .i64 n, .slice a m c] w fun e w' => e = .returned (.bool true) ∧ Below w.heap.size w w' := by
  have HD : Hid (SrcC w (.slice a m c) M) := hD
  have hK : min m n = n := by omega
  have HK : Hid (min M.length (n - ([] : List Int).length) = n) := by
    show min M.length (n - 0) = n
    rw [hm, Nat.sub_zero]; exact hK
  have hmin : min (n : Int) (m : Int) = (n : Int) := by omega
  have HT : Hid (M.length = m ∧ n ≤ m ∧ (M.take n).length = n ∧ min m n = n) := ⟨hm, by omega, by rw [List.length_take]; omega, hK⟩
  clear hD hK hm
  go_enter Try.func4, Try.ntmps4
  go_wp2_with fail
  refine (alive_any _).mono ?_
  rintro e w1 ⟨rfl, hB1⟩
  have HB1 : Hid (Below w.heap.size w w1) := hB1
  clear hB1
  go_wp2_with fail
  refine (pnew_any n n _ (by omega)).mono ?_
  rintro e w2 ⟨rfl, hp2, hB2⟩
  have H2 : Hid (Po w w2 w1.heap.size n [] false) := po_new HB1.out hp2 hB2
  clear hp2 hB2 HB1
  generalize w1.heap.size = b1 at *
  go_wp2_with fail
  refine (po_put H2.out HD.out HK.out).mono ?_
  rintro e w4 ⟨rfl, h4⟩
  obtain ⟨lo, hlo⟩ : ∃ lo, decide (n < m) = lo := ⟨_, rfl⟩
  have H4 : Hid (Po w w4 b1 n (M.take n) lo) := by
    show Po _ _ _ _ _ _
    have e : (false || decide (n < M.length)) = lo := by
      rw [← hlo, Bool.false_or]
      have := HT.out
      by_cases e : n < m <;> simp [e] <;> omega
    rw [e] at h4
    simpa using h4
  clear h4 H2
  have hlen : (M.take n).length = n := HT.out.2.2.1
  go_wp2_with fail
  refine (po_lost H4.out).mono ?_
  rintro e wz ⟨rfl, hz⟩
  subst wz
  go_wp2_with fail
  refine (po_len H4.out).mono ?_
  rintro e wz ⟨rfl, hz⟩
  subst wz
  rw [hlen]
  go_wp2_with fail
  have H8 : Hid (Po w w4 b1 n (M.take n) lo) := H4.out
  clear H4 hlen
  go_loopw [7] (fun iv wr => ∃ t : Nat, t ≤ n ∧ iv = .int .i64 ((t : Int) - 1) ∧ Hid (Po w wr b1 n (M.take t) lo)) (fun iv _ => (intOf iv + 1).toNat)
  case atStart => exact ⟨n, Nat.le_refl _, rfl, H8⟩
  case round =>
    obtain ⟨t, ht, rfl, HR⟩ := hrel
    rcases t with _ | t
    · have HR0 : Hid (Po w wr b1 n [] lo) := HR.out
      clear HR
      go_wp2_with fail
      refine (po_none HR0.out).mono ?_
      rintro e wz ⟨rfl, hz⟩
      subst wz
      go_wp2_with fail
      refine (po_found HR0.out).mono ?_
      rintro e w5 ⟨rfl, h5⟩
      have H5 : Hid (Po w w5 b1 n [] false) := h5
      clear h5 HR0
      go_wp2_with fail
      refine (po_lost H5.out).mono ?_
      rintro e wz ⟨rfl, hz⟩
      subst wz
      go_wp2_with fail
      refine (po_len H5.out).mono ?_
      rintro e wz ⟨rfl, hz⟩
      subst wz
      go_wp2_with fail
      go_ret
      exact ⟨rfl, H5.out.lo⟩
    · have et : ((t + 1 : Nat) : Int) - 1 = (t : Int) := by omega
      rw [et]
      have htm : (t : Int) < (m : Int) := by have := HT.out; omega
      have HR1 : Hid (Po w wr b1 n (M.take t ++ [M.getD t 0]) lo) := by
        show Po _ _ _ _ _ _
        rw [← take_snocD M t (by have := HT.out; omega)]
        exact HR.out
      clear HR
      rcases HD.out with ⟨e, _⟩ | ⟨bs, off, cc, e, _, _, hbs, hcl⟩
      · exfalso
        have := HT.out
        rw [e] at this
        simp at this
        omega
      obtain ⟨x, hx⟩ : ∃ x, M.getD t 0 = x := ⟨_, rfl⟩
      have HX : Hid (w.cell? ⟨bs, off + t, none⟩ = some (.int .i64 x)) := by
        rw [← hx]; exact hcl t (by have := HT.out; omega)
      cases e
      rw [hx] at HR1
      clear hcl hx
      go_wp2_with fail
      refine (po_take HR1.out).mono ?_
      rintro e w5 ⟨rfl, h5⟩
      have H5 : Hid (Po w w5 b1 n (M.take t) lo) := h5
      have hc5 : w5.cell? ⟨bs, off + t, none⟩ = some (.int .i64 x) := (h5.lo.cell (p := ⟨bs, off + t, none⟩) hbs).trans HX.out
      clear h5 HR1
      go_wp2_with fail
      go_roundw
      case rel => exact ⟨t, by omega, by go_num, H5⟩
      case measure => simp [intOf]
theorem order_any (n : Int) (M : List Int) (a : Option Addr) (c : Nat) (w : World) (hD : SrcC w (.slice a M.length c) M) :
    Calls Try.prog 4 #[.int .i64 n, .slice a M.length c] w fun e w' => e = .returned (.bool true) ∧ Below w.heap.size w w' := by
  by_cases h : n < 1 ∨ 200 < n ∨ 100 < M.length
  · exact order_few n a M.length c w h
  · obtain ⟨m, rfl⟩ := Int.eq_ofNat_of_zero_le (a := n) (by omega)
    by_cases hmn : M.length < m
    · exact order_a m M a _ c w (by omega) (by omega) rfl (by omega) hmn hD
    · exact order_b m M a _ c w (by omega) (by omega) rfl (by omega) hmn hD
theorem order_arg {H : Type} {enc : TypeId × Value → H} {W : World} {base : Nat} {v : Value} {d : DataW H} {p : List MemPlace} (n : Int) (h : DataW.Trod enc Try.prog W 0 (fun _ => true) true 26 v d p)
    (hv : Value.okWide Try.prog W .any base 26 v) :
    Calls Try.prog 4 #[.int .i64 n, v] W fun e w' => e = .returned (.bool true) ∧ Below W.heap.size W w' := by
  obtain ⟨L, a, c, rfl, h1, h2⟩ := ints_argC h hv
  exact order_any n L a c W h2

end Go.Proofs.Ytckljbjnhgnkgaa

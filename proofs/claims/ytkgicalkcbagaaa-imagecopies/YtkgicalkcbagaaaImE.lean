/- Bytes as lists of numbers; the walks of image's reader: take, number, list. -/
import Derived.Test.YtkgicalkcbagaaaImB
import Derived.Test.YtkgicalkcbagaaaInH
namespace Go.Proofs.Ytkgicalkcbagaaa
open Go.RowKit

theorem nums_take (t : List Int) (n : Nat) : (strOfNums t).extract 0 n = strOfNums (t.take n) := by
  apply ByteArray.ext
  apply Array.toList_inj.1
  rw [strOfNums_data]
  simp [strOfNums, List.map_take]
theorem nums_drop (t : List Int) (n : Nat) : (strOfNums t).extract n (strOfNums t).size = strOfNums (t.drop n) := by
  apply ByteArray.ext
  apply Array.toList_inj.1
  rw [strOfNums_data]
  simp [strOfNums, List.map_drop, ByteArray.size]
  rw [List.take_of_length_le (by simp)]
theorem nums_of (s : ByteArray) : ∃ t : List Int, s = strOfNums t ∧ Byt t ∧ t.length = s.size := by
  refine ⟨s.data.toList.map (fun x => (x.toNat : Int)), ?_, fun x hx => ?_, List.length_map _⟩
  · apply ByteArray.ext
    apply Array.toList_inj.1
    have h8 : ∀ x : UInt8, UInt8.ofNat ((x.toNat : Int)).toNat = x := fun x => by rw [Int.toNat_natCast]; exact UInt8.ofNat_toNat
    rw [strOfNums_data, List.map_map]
    have h9 : ∀ l : List UInt8, l = l.map ((fun n : Int => UInt8.ofNat n.toNat) ∘ fun x : UInt8 => (x.toNat : Int)) := fun l => by
      induction l with
      | nil => rfl
      | cons x l ih => rw [List.map_cons, ← ih]; exact congrArg (· :: l) (h8 x).symm
    exact h9 _
  · obtain ⟨y, _, rfl⟩ := List.mem_map.1 hx
    have := y.toNat_lt
    omega
theorem nums_nil : strOfNums [] = ⟨#[]⟩ := rfl
theorem nums_ne {t : List Int} (h : t ≠ []) : ¬ strOfNums t = ⟨#[]⟩ := by
  intro e
  have := congrArg ByteArray.size e
  rw [strOfNums_size] at this
  exact h (List.eq_nil_of_length_eq_zero this)
theorem nums_emp (t : List Int) : (strOfNums t).toList.isEmpty = t.isEmpty := by
  rw [ByteArray.toList_eq, strOfNums_data]
  cases t <;> rfl
theorem nums_at {t : List Int} (hb : Byt t) {j : Nat} (hj : j < t.length) : gb (strOfNums t) j = t.getD j 0 := by
  have e : t[j]? = some (t.getD j 0) := by simp [hj]
  exact gb_nums t j _ e (hb _ (List.mem_of_getElem? e))

/-- n bytes, and what is left; one byte. -/
def rT (n : Nat) (t : List Int) : Option (List Int × List Int) := if n ≤ t.length then some (t.take n, t.drop n) else none
def rN : List Int → Option (Int × List Int)
  | [] => none
  | x :: u => some (x, u)

def rdC (s : ByteArray) (bad : Bool) (i : Nat) : Value := if i = 0 then .string s else .bool bad
/-- THE READER AT BLOCK x: what is left, or that something was wrong. -/
structure Rd (w : World) (B x : Nat) (S : Option (List Int)) : Prop where
  ge : B ≤ x
  hd : ∃ t bad, w.rowIs x 60 2 (rdC (strOfNums t) bad) ∧ S = (if bad = true then none else some t) ∧ Byt t ∧ t.length ≤ 100000
abbrev Tr (B : Nat) (w w' : World) : Prop := Ty [60] B w w'
theorem tr_of {B : Nat} {w w' : World} (h : Below w.heap.size w w') : Tr B w w' := Ty.of_below h
theorem tr_alloc (B : Nat) (w : World) (o : Obj) : Tr B w (w.alloc o) := tr_of ((Below.refl _ _).alloc (Nat.le_refl _) o)
theorem Rd.lt {w : World} {B x : Nat} {S : Option (List Int)} (h : Rd w B x S) : x < w.heap.size := by
  obtain ⟨t, bad, h1, _⟩ := h.hd
  exact h1.lt
theorem Rd.below {w w' : World} {B x : Nat} {S : Option (List Int)} (h : Rd w B x S) (hb : Below w.heap.size w w') : Rd w' B x S := by
  obtain ⟨t, bad, h1, h2⟩ := h.hd
  exact ⟨h.ge, t, bad, h1.of_block (hb.block _ h1.lt), h2⟩
theorem Rd.ty {w w' : World} {B B' x : Nat} {K : List TypeId} {S : Option (List Int)} (h : Rd w B x S) (hb : Ty K B' w w') (hk : 60 ∉ K) : Rd w' B x S := by
  obtain ⟨t, bad, h1, h2⟩ := h.hd
  exact ⟨h.ge, t, bad, hb.row h1 hk, h2⟩
theorem Rd.drewN {w : World} {B x : Nat} {S : Option (List Int)} (h : Rd w B x S) (q : Nat) : Rd (w.drewN q) B x S := ⟨h.ge, h.hd⟩

theorem rd_box (t : List Int) (bad : Bool) {w : World} {x : Nat} (h : w.rowIs x 60 2 (rdC (strOfNums t) bad)) (t' : List Int) (bad' : Bool) (v : Value) (k : Nat)
    (e : ∀ i, i < 2 → (if i = k then v else rdC (strOfNums t) bad i) = rdC (strOfNums t') bad' i) : (w.setCell ⟨x, k, none⟩ v).rowIs x 60 2 (rdC (strOfNums t') bad') :=
  (h.set k v).congr fun i hi => e i hi

set_option maxHeartbeats 1000000 in
theorem take_bad (n : Nat) {w : World} {B x : Nat} {t : List Int} (hx : B ≤ x) (h : w.rowIs x 60 2 (rdC (strOfNums t) true)) (hb : Byt t) (ht : t.length ≤ 100000) :
    Calls Try.prog 39 #[.pointer (some ⟨x, 0, none⟩), .int .i64 n] w fun e w' => e = .returned (.string ⟨#[]⟩) ∧ Rd w' B x none ∧ Tr B w w' := by
  have c1 : w.cell? ⟨x, 1, none⟩ = some (.bool true) := h.cell (i := 1) (by decide)
  have f1 := h.frozen 1
  have hlt := h.lt
  have HR : Hid (Rd (w.setCell ⟨x, 1, none⟩ (.bool true)) B x none ∧ Tr B w (w.setCell ⟨x, 1, none⟩ (.bool true))) := by
    refine ⟨⟨hx, t, true, rd_box t true h t true _ 1 (fun i hi => ?_), rfl, hb, ht⟩, Ty.of_but ((But.refl _ _).setCell 1 _) h hx⟩
    match i, hi with
    | 0, _ => rfl
    | 1, _ => rfl
  clear h
  go_enter Try.func39, Try.ntmps39
  go_wp2_with fail
  go_ret
  exact ⟨rfl, HR.out⟩

set_option maxHeartbeats 1000000 in
theorem take_short (n m : Nat) {w : World} {B x : Nat} {s : ByteArray} {t : List Int} (hst : Hid (s = strOfNums t)) (hs : s.size = m) (hx : B ≤ x) (h : w.rowIs x 60 2 (rdC s false)) (hb : Byt t) (ht : t.length ≤ 100000) (hn : m < n) :
    Calls Try.prog 39 #[.pointer (some ⟨x, 0, none⟩), .int .i64 n] w fun e w' => e = .returned (.string ⟨#[]⟩) ∧ Rd w' B x none ∧ Tr B w w' := by
  have c0 : w.cell? ⟨x, 0, none⟩ = some (.string s) := h.cell (i := 0) (by decide)
  have c1 : w.cell? ⟨x, 1, none⟩ = some (.bool false) := h.cell (i := 1) (by decide)
  have f1 := h.frozen 1
  have hlt := h.lt
  have HR : Hid (Rd (w.setCell ⟨x, 1, none⟩ (.bool true)) B x none ∧ Tr B w (w.setCell ⟨x, 1, none⟩ (.bool true))) := by
    have h' := hst.out ▸ h
    refine ⟨⟨hx, t, true, rd_box t false h' t true _ 1 (fun i hi => ?_), rfl, hb, ht⟩, Ty.of_but ((But.refl _ _).setCell 1 _) h hx⟩
    match i, hi with
    | 0, _ => rfl
    | 1, _ => rfl
  have hnI : (m : Int) < (n : Int) := by omega
  clear h hb ht
  go_enter Try.func39, Try.ntmps39
  go_wp2_with fail
  go_ret
  exact ⟨rfl, HR.out⟩

set_option maxHeartbeats 1000000 in
theorem take_ok (n m : Nat) {w : World} {B x : Nat} {s s1 s2 : ByteArray} {t : List Int} (hst : Hid (s = strOfNums t)) (hs : s.size = m) (e1 : s.extract 0 n = s1) (e2 : s.extract n m = s2) (h2 : Hid (s2 = strOfNums (t.drop n))) (hx : B ≤ x) (h : w.rowIs x 60 2 (rdC s false)) (hb : Byt t) (ht : t.length ≤ 100000) (hn : n ≤ m) :
    Calls Try.prog 39 #[.pointer (some ⟨x, 0, none⟩), .int .i64 n] w fun e w' => e = .returned (.string s1) ∧ Rd w' B x (some (t.drop n)) ∧ Tr B w w' := by
  have c0 : w.cell? ⟨x, 0, none⟩ = some (.string s) := h.cell (i := 0) (by decide)
  have c1 : w.cell? ⟨x, 1, none⟩ = some (.bool false) := h.cell (i := 1) (by decide)
  have f0 := h.frozen 0
  have hlt := h.lt
  have HR : Hid (Rd (w.setCell ⟨x, 0, none⟩ (.string s2)) B x (some (t.drop n)) ∧ Tr B w (w.setCell ⟨x, 0, none⟩ (.string s2))) := by
    have h' := hst.out ▸ h
    refine ⟨⟨hx, t.drop n, false, rd_box t false h' (t.drop n) false _ 0 (fun i hi => ?_), rfl, hb.drop n, by simp; omega⟩, Ty.of_but ((But.refl _ _).setCell 0 _) h hx⟩
    match i, hi with
    | 0, _ => exact congrArg Value.string h2.out
    | 1, _ => rfl
  have hnI : ¬ (m : Int) < (n : Int) := by omega
  clear h hb ht
  go_enter Try.func39, Try.ntmps39
  go_wp2_with fail
  go_ret
  exact ⟨rfl, HR.out⟩

theorem take_any (n : Nat) {w : World} {B x : Nat} {S : Option (List Int)} (h : Rd w B x S) :
    Calls Try.prog 39 #[.pointer (some ⟨x, 0, none⟩), .int .i64 n] w fun e w' => ∃ b S', e = .returned (.string (strOfNums b)) ∧ Rd w' B x S' ∧ S.bind (rT n) = S'.map (fun t => (b, t)) ∧ (S' = none → b = []) ∧ Byt b ∧ b.length ≤ n ∧ Tr B w w' := by
  obtain ⟨t, bad, h1, rfl, hb, ht⟩ := h.hd
  cases bad with
  | true =>
    refine (take_bad n h.ge h1 hb ht).mono ?_
    rintro e w' ⟨rfl, hr, hf⟩
    exact ⟨[], none, rfl, hr, rfl, fun _ => rfl, fun x hx => (by simp at hx), by simp, hf⟩
  | false =>
    by_cases hn : n ≤ t.length
    · have hsz := strOfNums_size t
      have e2 : (strOfNums t).extract n t.length = strOfNums (t.drop n) := by
        rw [← hsz]; exact nums_drop t n
      refine (take_ok n t.length rfl hsz (nums_take t n) e2 rfl h.ge h1 hb ht hn).mono ?_
      rintro e w' ⟨rfl, hr, hf⟩
      refine ⟨t.take n, some (t.drop n), rfl, hr, ?_, (fun e => by cases e), fun x hx => hb x (List.mem_of_mem_take hx), by simp; omega, hf⟩
      show rT n t = _
      unfold rT
      rw [if_pos hn]
      rfl
    · refine (take_short n t.length rfl (strOfNums_size t) h.ge h1 hb ht (by omega)).mono ?_
      rintro e w' ⟨rfl, hr, hf⟩
      refine ⟨[], none, rfl, hr, ?_, fun _ => rfl, fun x hx => (by simp at hx), by simp, hf⟩
      show rT n t = _
      unfold rT
      rw [if_neg hn]
      rfl

set_option maxHeartbeats 1000000 in
theorem rnumber_any {w : World} {B x : Nat} {S : Option (List Int)} (h : Rd w B x S) :
    Calls Try.prog 21 #[.pointer (some ⟨x, 0, none⟩)] w fun e w' => ∃ (v : Nat) (S' : Option (List Int)), e = .returned (.int .i64 (v : Int)) ∧ Rd w' B x S' ∧ S.bind rN = S'.map (fun t => ((v : Int), t)) ∧ v ≤ 255 ∧ (S' = none → v = 0) ∧ Tr B w w' := by
  have HR : Hid (Rd w B x S) := h
  clear h
  go_enter Try.func21, Try.ntmps21
  go_wp2_with fail
  refine (take_any 1 HR.out).mono ?_
  rintro e w1 ⟨b, S', rfl, h1, h2, h3, h4, h5, h6⟩
  have hS : S.bind rN = (S.bind (rT 1)).map (fun q => (q.1.getD 0 0, q.2)) := by
    cases S with
    | none => rfl
    | some t =>
      cases t with
      | nil => rfl
      | cons y u =>
        show some (y, u) = (rT 1 (y :: u)).map _
        unfold rT
        rw [if_pos (by simp)]
        rfl
  by_cases hbn : b = []
  · subst hbn
    have hS' : S' = none := by
      cases S with
      | none => cases S' with
        | none => rfl
        | some t => cases h2
      | some t =>
        cases t with
        | nil => cases S' with
          | none => rfl
          | some t => cases h2
        | cons y u =>
          have : rT 1 (y :: u) = S'.map (fun t => (([] : List Int), t)) := h2
          unfold rT at this
          rw [if_pos (by simp)] at this
          cases S' with
          | none => rfl
          | some t => simp at this
    subst hS'
    have HX : Hid (∃ (v : Nat) (S' : Option (List Int)), Ending.returned (.int .i64 0) = .returned (.int .i64 (v : Int)) ∧ Rd w1 B x S' ∧ S.bind rN = S'.map (fun t => ((v : Int), t)) ∧ v ≤ 255 ∧ (S' = none → v = 0) ∧ Tr B w w1) :=
      ⟨0, none, rfl, h1, by rw [hS, h2]; rfl, by omega, fun _ => rfl, h6⟩
    rw [nums_nil]
    clear h1 h2 h3 h4 h5 h6 hS
    go_wp2_with fail
    go_ret
    exact HX.out
  · obtain ⟨y, rfl⟩ : ∃ y, b = [y] := by
      match b, hbn, h5 with
      | [y], _, _ => exact ⟨y, rfl⟩
      | [], h, _ => exact absurd rfl h
      | _ :: _ :: _, _, h => simp at h
    have hy := h4 y (by simp)
    have hnb : (strOfNums [y]).toList.isEmpty = false := nums_emp [y]
    have hrun := run_idx (strOfNums [y]) 0 (by rw [strOfNums_size]; simp)
    rw [nums_at h4 (by simp)] at hrun
    have hrun' : ∀ w, (Instr.index 9 (.string (strOfNums [y])) (.int .i64 0)).run Try.prog w = .ok (.int .u8 y) w := by simpa using hrun
    have HX : Hid (∃ (v : Nat) (S' : Option (List Int)), Ending.returned (.int .i64 y) = .returned (.int .i64 (v : Int)) ∧ Rd w1 B x S' ∧ S.bind rN = S'.map (fun t => ((v : Int), t)) ∧ v ≤ 255 ∧ (S' = none → v = 0) ∧ Tr B w w1) := by
      refine ⟨y.toNat, S', by rw [Int.toNat_of_nonneg hy.1], h1, ?_, by omega, fun e => absurd (h3 e) (by simp), h6⟩
      rw [hS, h2, Int.toNat_of_nonneg hy.1]
      cases S' <;> rfl
    have hw8 : IntKind.i64.wrap y = y := by rw [IntKind.wrap_i64]; omega
    clear h1 h2 h3 h4 h5 h6 hS hrun hbn hy
    generalize strOfNums [y] = s at *
    go_wp2_with fail
    go_ret
    exact HX.out

end Go.Proofs.Ytkgicalkcbagaaa

/- The walks of image's writer: number, list, code, function. -/
import Derived.Test.YtkgicalkcbagaaaImA
import Derived.Lib.AppendStr
namespace Go.Proofs.Ytkgicalkcbagaaa
open Go.RowKit

def erN (ok : Bool) : Int := if ok = true then 0 else 1
def wrC (v : Value) (ok : Bool) (i : Nat) : Value := if i = 0 then v else .int .i64 (erN ok)
/-- THE WRITER AT BLOCK x: M was laid, ok: nothing was wrong. -/
structure Wr (w : World) (B x : Nat) (M : List Int) (ok : Bool) : Prop where
  ge : B ≤ x
  hd : ∃ v, w.rowIs x 52 2 (wrC v ok) ∧ w.ownsRow B 5 1 v M.length (M.map (Value.int .u8))
/-- What the writer's calls may change: of what was there blocks of these types alone, from B on. -/
abbrev Tw (B : Nat) (w w' : World) : Prop := Ty [52, 5] B w w'
theorem Tw.below {B : Nat} {w w' : World} (h : Tw B w w') (hB : B ≤ w.heap.size) : Below B w w' := Ty.below h hB
theorem tw_refl (B : Nat) (w : World) : Tw B w w := Ty.refl _ _ _
theorem tw_of {B : Nat} {w w' : World} (h : Below w.heap.size w w') : Tw B w w' := Ty.of_below h
theorem tw_alloc (B : Nat) (w : World) (o : Obj) : Tw B w (w.alloc o) := tw_of ((Below.refl _ _).alloc (Nat.le_refl _) o)
theorem Stay.tw {B : Nat} {w w' : World} (h : Tw B w w') : Stay (fun b => b < B) w w' := ⟨h.size, fun b hb hB => h.low b hb hB⟩
/-- From M on, t was laid behind it, if o. -/
def WrTo (w w' : World) (B x : Nat) (M : List Int) (ok : Bool) (t : List Int) (o : Bool) : Prop :=
  ∃ M', Wr w' B x M' (ok && o) ∧ ((ok && o) = true → M' = M ++ t) ∧ M'.length ≤ M.length + t.length ∧ Tw B w w'
theorem WrTo.refl {w : World} {B x : Nat} {M : List Int} {ok : Bool} (h : Wr w B x M ok) : WrTo w w B x M ok [] true :=
  ⟨M, by rw [Bool.and_true]; exact h, fun _ => by simp, by simp, tw_refl _ _⟩
theorem WrTo.step {w w1 w2 : World} {B x : Nat} {M M1 : List Int} {ok o o' : Bool} {t t' : List Int} (he : (ok && o) = true → M1 = M ++ t) (hl : M1.length ≤ M.length + t.length) (hb : Tw B w w1) (h : WrTo w1 w2 B x M1 (ok && o) t' o') :
    WrTo w w2 B x M ok (t ++ t') (o && o') := by
  obtain ⟨M2, h1, h2, h3, h4⟩ := h
  rw [Bool.and_assoc] at h1 h2
  refine ⟨M2, h1, fun e => ?_, by rw [List.length_append]; omega, hb.trans h4⟩
  rw [h2 e, he (by
    simp only [Bool.and_eq_true] at e ⊢
    exact ⟨e.1, e.2.1⟩), List.append_assoc]
theorem Wr.lt {w : World} {B x : Nat} {M : List Int} {ok : Bool} (h : Wr w B x M ok) : x < w.heap.size := by
  obtain ⟨v, h1, _⟩ := h.hd
  exact h1.lt
theorem Wr.below {w w' : World} {B x : Nat} {M : List Int} {ok : Bool} (h : Wr w B x M ok) (hb : Below w.heap.size w w') : Wr w' B x M ok := by
  obtain ⟨v, h1, h2⟩ := h.hd
  exact ⟨h.ge, v, h1.of_block (hb.block _ h1.lt), (Ty.of_below (K := []) (B := 0) hb).own h2 (by simp)⟩
abbrev Lo (B : Nat) : Nat → Prop := fun b => b < B
theorem ok1_iff (v : Int) : (ok1 v = true ↔ v % 256 = v) := by
  unfold ok1
  simp only [Bool.and_eq_true, decide_eq_true_eq]
  omega
theorem ok1_len (n : Nat) : ok1 (n : Int) = decide (n ≤ 255) := by
  unfold ok1
  rw [Bool.eq_iff_iff]
  simp only [Bool.and_eq_true, decide_eq_true_eq]
  omega
theorem sc_nums (xs : List Int) (h : ∀ x ∈ xs, 0 ≤ x ∧ x < 256) : Lib.strCells (strOfNums xs) = xs.map (Value.int .u8) := by
  unfold Lib.strCells
  rw [strOfNums_data, List.map_map]
  apply List.map_congr_left
  intro x hx
  have := h x hx
  simp
  omega

/-- Behind the append and the store of the new slice. -/
theorem Wr.put {w wa w3 : World} {B x : Nat} {v v' : Value} {M t : List Int} (hx : B ≤ x) (h1 : wa.rowIs x 52 2 (wrC v true)) (h2 : wa.ownsRow B 5 1 v M.length (M.map (Value.int .u8)))
    (ho : w3.ownsRow B 5 1 v' (M.length + t.length) (M.map (Value.int .u8) ++ t.map (Value.int .u8))) (hg : wa.grownBy w3 v.ownBlock) (hb : Tw B w wa) :
    w3.rowIs x 52 2 (wrC v true) ∧ Wr (w3.setCell ⟨x, 0, none⟩ v') B x (M ++ t) true ∧ Tw B w (w3.setCell ⟨x, 0, none⟩ v') := by
  have hT := Ty.of_grown h2 hg (Nat.le_refl _)
  have hr := hT.row h1 (by decide)
  have hT2 := Ty.of_but ((But.refl x w3).setCell 0 v') hr hx
  refine ⟨hr, ⟨hx, v', ?_, ?_⟩, (hb.trans (hT.mono (by simp) (Nat.le_refl _))).trans (hT2.mono (by simp) (Nat.le_refl _))⟩
  · exact (hr.set 0 _).congr fun i hi => by
      match i, hi with
      | 0, _ => rfl
      | 1, _ => rfl
  · have := hT2.own ho (by decide)
    simpa using this

set_option maxHeartbeats 1000000 in
theorem number_bad {v : Int} {w : World} {B x : Nat} {M : List Int} {ok : Bool} (h : Wr w B x M ok) (hv : ¬ v % 256 = v) :
    Calls Try.prog 16 #[.pointer (some ⟨x, 0, none⟩), .int .i64 v] w fun e w' => e = .returned (.tuple #[]) ∧ WrTo w w' B x M ok [v] false := by
  obtain ⟨sv, h1, h2⟩ := h.hd
  have hx := h.ge
  have hW : Hid (WrTo w (w.setCell ⟨x, 1, none⟩ (.int .i64 1)) B x M ok [v] false) := by
    refine ⟨M, ?_, by simp, by simp, (Ty.of_but ((But.refl x w).setCell 1 _) h1 hx).mono (by simp) (Nat.le_refl _)⟩
    rw [Bool.and_false]
    refine ⟨hx, sv, (h1.set 1 _).congr fun i hi => ?_, (Ty.of_but ((But.refl x w).setCell 1 _) h1 hx).own h2 (by decide)⟩
    match i, hi with
    | 0, _ => rfl
    | 1, _ => rfl
  have c1 : w.cell? ⟨x, 1, none⟩ = some (.int .i64 (erN ok)) := h1.cell (i := 1) (by decide)
  have hlt := h1.lt
  have f1 := h1.frozen 1
  have hvb : ((v % 256) != v) = true := by simpa using hv
  clear h1 h2 h
  generalize erN ok = ee at *
  go_enter Try.func16, Try.ntmps16
  go_wp2_with fail
  go_end0
  exact ⟨rfl, hW.out⟩

set_option maxHeartbeats 1000000 in
theorem number_no {v : Int} {w : World} {B x : Nat} {M : List Int} (h : Wr w B x M false) (hv : v % 256 = v) :
    Calls Try.prog 16 #[.pointer (some ⟨x, 0, none⟩), .int .i64 v] w fun e w' => e = .returned (.tuple #[]) ∧ WrTo w w' B x M false [v] true := by
  obtain ⟨sv, h1, h2⟩ := h.hd
  have hW : Hid (WrTo w w B x M false [v] true) := ⟨M, h, by simp, by simp, tw_refl _ _⟩
  have c1 : w.cell? ⟨x, 1, none⟩ = some (.int .i64 1) := h1.cell (i := 1) (by decide)
  have hvb : ((v % 256) != v) = false := by simpa using hv
  clear h1 h2 h
  go_enter Try.func16, Try.ntmps16
  go_wp2_with fail
  go_end0
  exact ⟨rfl, hW.out⟩

set_option maxRecDepth 100000 in
set_option maxHeartbeats 1000000 in
theorem number_yes {v : Int} {w : World} {B x : Nat} {M : List Int} (h : Wr w B x M true) (hv : v % 256 = v) (hl : M.length ≤ 100000) :
    Calls Try.prog 16 #[.pointer (some ⟨x, 0, none⟩), .int .i64 v] w fun e w' => e = .returned (.tuple #[]) ∧ WrTo w w' B x M true [v] true := by
  obtain ⟨i0, hi, hz0, hz1, hz2⟩ := info_parts Try.info5
  obtain ⟨sv, h1, h2⟩ := h.hd
  have hx := h.ge
  obtain ⟨sa, sc, rfl⟩ := own_len h2
  have c0 : w.cell? ⟨x, 0, none⟩ = some (.slice sa M.length sc) := h1.cell (i := 0) (by decide)
  have c1 : w.cell? ⟨x, 1, none⟩ = some (.int .i64 0) := h1.cell (i := 1) (by decide)
  have hlt := h1.lt
  have f0 := h1.frozen 0
  have hvb : ((v % 256) != v) = false := by simpa using hv
  have HA : Hid ((w.alloc (.cells #[.int .u8 v] 5)).rowIs x 52 2 (wrC (.slice sa M.length sc) true)) := h1.of_block (((Below.refl w.heap.size w).alloc (Nat.le_refl _) _).block _ h1.lt)
  have HO : Hid ((w.alloc (.cells #[.int .u8 v] 5)).ownsRow B 5 1 (.slice sa M.length sc) M.length (M.map (Value.int .u8))) := h2.alloc _
  have HB : Hid (Tw B w (w.alloc (.cells #[.int .u8 v] 5))) := tw_alloc _ _ _
  have HN : Hid ((∀ j' u, ([Value.int .u8 v])[j']? = some u → (w.alloc (.cells #[.int .u8 v] 5)).cell? ((⟨w.heap.size, 0, none⟩ : Addr).add j') = some u) ∧ (∀ u ∈ [Value.int .u8 v], u.oneCell' = true) ∧ M.length + 1 ≤ maxLen ∧ (M.length + 1) * 1 ≤ 140737488355328 ∧ B ≤ (w.alloc (.cells #[.int .u8 v] 5)).heap.size) := by
    refine ⟨fun j' u hj => ?_, fun u hu => by simp at hu; subst hu; rfl, by unfold maxLen; omega, by omega, by simp; omega⟩
    rw [Go.WideShapes.add_plain, Nat.zero_add]
    exact cell_new w _ _ (by rw [← hj]; simp)
  clear h1 h2 h
  go_enter Try.func16, Try.ntmps16
  go_wp2_with (at_builtin; refine wpList_append_own _ rfl _ _ 50 rfl B 5 i0 (.int .u8 0) 1 1 Try.underlying50 hi hz0 hz1 hz2 rfl (by decide) _ _ _ rfl HO.out ⟨w.heap.size, 0, none⟩ 1 1 [.int .u8 v] rfl rfl HN.out.1 HN.out.2.1 HN.out.2.2.1 HN.out.2.2.2.1 HN.out.2.2.2.2 ?_)
  · intro v5 w5 ho hg _
    obtain ⟨a5, c5, rfl⟩ := own_len ho
    obtain ⟨g1, g2, g3⟩ := Wr.put (t := [v]) hx HA.out HO.out ho hg HB.out
    have c0' : w5.cell? ⟨x, 0, none⟩ = some (.slice sa M.length sc) := g1.cell (i := 0) (by decide)
    have f0' := g1.frozen 0
    have HW : Hid (WrTo w (w5.setCell ⟨x, 0, none⟩ (.slice a5 (M.length + 1) c5)) B x M true [v] true) := ⟨M ++ [v], g2, fun _ => rfl, by simp, g3⟩
    clear g1 g2 g3 ho hg HA HO HB HN hv hvb c0 c1 f0
    go_wp2_with fail
    go_end0
    exact ⟨rfl, HW.out⟩

theorem number_any (v : Int) {w : World} {B x : Nat} {M : List Int} {ok : Bool} (h : Wr w B x M ok) (hl : M.length ≤ 100000) :
    Calls Try.prog 16 #[.pointer (some ⟨x, 0, none⟩), .int .i64 v] w fun e w' => e = .returned (.tuple #[]) ∧ WrTo w w' B x M ok [v] (ok1 v) := by
  by_cases hv : v % 256 = v
  · rw [(ok1_iff v).2 hv]
    cases ok with
    | true => exact number_yes h hv hl
    | false => exact number_no h hv
  · have : ok1 v = false := by
      rw [Bool.eq_false_iff]
      exact fun e => hv ((ok1_iff v).1 e)
    rw [this]
    exact number_bad h hv

theorem okL_take {L : List Int} {j : Nat} (h : j < L.length) : (L.take (j + 1)).all ok1 = ((L.take j).all ok1 && ok1 (L.getD j 0)) := by
  rw [take_snocD L j h]
  simp

set_option maxHeartbeats 1000000 in
theorem wlist_any (L : List Int) (a : Option Addr) (c : Nat) {w : World} {B x : Nat} {M : List Int} {ok : Bool} (h : Wr w B x M ok) (hs : SrcP (Lo B) w (.slice a L.length c) L) (hl : M.length + L.length ≤ 90000) :
    Calls Try.prog 15 #[.pointer (some ⟨x, 0, none⟩), .slice a L.length c] w fun e w' => e = .returned (.tuple #[]) ∧ WrTo w w' B x M ok (lyL L) (okL L) := by
  have HS : Hid (SrcP (Lo B) w (.slice a L.length c) L) := hs
  have HW : Hid (Wr w B x M ok) := h
  clear h hs
  go_enter Try.func15, Try.ntmps15
  go_wp2_with fail
  refine (number_any _ HW.out (by omega)).mono ?_
  rintro e w1 ⟨rfl, h1⟩
  have H1 : Hid (WrTo w w1 B x M ok [(L.length : Int)] (decide (L.length ≤ 255))) := by rw [← ok1_len]; exact h1
  clear h1 HW
  go_wp2_with fail
  go_loopw [5, 12] (fun _ k wr => ∃ j : Nat, j ≤ L.length ∧ k = .int .i64 j ∧ Hid (WrTo w wr B x M ok ((L.length : Int) :: L.take j) (decide (L.length ≤ 255) && (L.take j).all ok1))) (fun _ k _ => L.length - (intOf k).toNat)
  case atStart => exact ⟨0, Nat.zero_le _, rfl, by unfold Hid; simpa using H1.out⟩
  case round =>
    obtain ⟨j, hj, rfl, HR⟩ := hrel
    clear H1
    by_cases hlt : j < L.length
    · obtain ⟨M1, g1, g2, g3, g4⟩ := HR.out
      obtain ⟨b, off, rfl, hb, hP, hc⟩ := HS.out.some hlt
      have hc' := ((Stay.tw g4).cell hb hP (o := off + j)).trans hc
      have G1 : Hid (Wr wr B x M1 (ok && (decide (L.length ≤ 255) && (L.take j).all ok1))) := g1
      have hM : M1.length ≤ 100000 := by
        simp at g3
        omega
      have HE : Hid (∀ w2, WrTo wr w2 B x M1 (ok && (decide (L.length ≤ 255) && (L.take j).all ok1)) [L.getD j 0] (ok1 (L.getD j 0)) → WrTo w w2 B x M ok ((L.length : Int) :: L.take (j + 1)) (decide (L.length ≤ 255) && (L.take (j + 1)).all ok1)) := fun w2 hw => by
        have := WrTo.step g2 g3 g4 hw
        rw [okL_take hlt, ← Bool.and_assoc, take_snocD L j hlt]
        exact this
      clear g1 g2 g3 g4 hc hb hP HR
      generalize L.getD j 0 = y at *
      have hltI : (j : Int) < (L.length : Int) := by omega
      go_wp2_with fail
      refine (number_any y G1.out hM).mono ?_
      rintro e w2 ⟨rfl, h2⟩
      have H2 := HE.out w2 h2
      have H2' : Hid (WrTo w w2 B x M ok ((L.length : Int) :: L.take (j + 1)) (decide (L.length ≤ 255) && (L.take (j + 1)).all ok1)) := H2
      clear H2 h2 HE
      go_wp2_with fail
      go_roundw
      case rel => exact ⟨j + 1, by omega, by go_num, H2'⟩
      case measure => simp [intOf]; omega
    · have e : j = L.length := by omega
      subst e
      have H2 : Hid (WrTo w wr B x M ok (lyL L) (okL L)) := by
        have := HR.out
        rw [List.take_length] at this
        exact this
      clear HR
      go_wp2_with fail
      go_end0
      exact ⟨rfl, H2.out⟩

end Go.Proofs.Ytkgicalkcbagaaa

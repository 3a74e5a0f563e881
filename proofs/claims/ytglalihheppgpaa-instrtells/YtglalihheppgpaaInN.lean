/- What InstrTells keeps; its walk. -/
import Derived.Test.YtglalihheppgpaaInM
import Derived.Test.YtglalihheppgpaaInI
import Derived.Test.YtglalihheppgpaaKpJ
import Derived.Deep.RegionHeld3
namespace Go.Proofs.Ytglalihheppgpaa
open Go.RowKit

theorem ownBook_new (w : World) (B : Nat) (hB : B ≤ w.heap.size) :
    BookAt (w.alloc (.cells #[.slice none 0 0, .slice none 0 0, .slice none 0 0, .slice none 0 0, .slice none 0 0, .slice none 0 0, .slice none 0 0, .slice none 0 0, .slice none 0 0, .slice none 0 0] 36)) B w.heap.size (.slice none 0 0) (.slice none 0 0) [] [] := by
  refine ⟨?_, hB, World.ownsRow_nil _ _ _ _, World.ownsRow_nil _ _ _ _, Or.inl rfl, fun p hp => by simp at hp, fun p hp => by simp at hp, List.Pairwise.nil, fun p hp => by simp at hp⟩
  have := World.rowIs_alloc w #[.slice none 0 0, .slice none 0 0, .slice none 0 0, .slice none 0 0, .slice none 0 0, .slice none 0 0, .slice none 0 0, .slice none 0 0, .slice none 0 0, .slice none 0 0] 36 (bkCells (.slice none 0 0) (.slice none 0 0)) (fun i hi => by
    simp at hi
    have : i = 0 ∨ i = 1 ∨ i = 2 ∨ i = 3 ∨ i = 4 ∨ i = 5 ∨ i = 6 ∨ i = 7 ∨ i = 8 ∨ i = 9 := by omega
    rcases this with rfl | rfl | rfl | rfl | rfl | rfl | rfl | rfl | rfl | rfl <;> rfl)
  exact this

/-- The list that Reads answers. -/
def rdA (o a b c args : Int) : List Int := rdTo (nA args) (R3 (ro o).1 (ro o).2.1 (ro o).2.2) (R3 a b c) 3
theorem rdA_len (o a b c args : Int) : (rdA o a b c args).length ≤ 48 := rdTo_len _ (nA_le args) _ _ 3
theorem reads_any {o a b c args : Int} {R : List Int} (h : Hid (rdA o a b c args = R)) (w : World) :
    Calls Try.prog 11 #[.agg #[.int .i64 o, .int .i64 a, .int .i64 b, .int .i64 c], .int .i64 args] w fun e w' => ∃ v, e = .returned v ∧ w'.ownsRow w.heap.size 3 1 v R.length (R.map (Value.int .i64)) ∧ Below w.heap.size w w' := by
  have := reads_core o a b c args (ro o).1 (ro o).2.1 (ro o).2.2 _ _ rfl rfl rfl w
  rw [← h.out]
  exact this
theorem refReads_any {o a b c args : Int} {R : List Int} (h : Hid (rdA o a b c args = R)) (w : World) :
    Calls Try.prog 18 #[.agg #[.int .i64 o, .int .i64 a, .int .i64 b, .int .i64 c], .int .i64 args] w fun e w' => ∃ v, e = .returned v ∧ w'.ownsRow w.heap.size 3 1 v R.length (R.map (Value.int .i64)) ∧ Below w.heap.size w w' := by
  have := refReads_core o a b c args _ rfl w
  rw [← h.out]
  exact this

/-- The box, and the Book with nothing in it. -/
structure Tl (w wk : World) (bk : Nat) (o a b c : Int) : Prop where
  box : wk.rowIs w.heap.size 23 4 (fun k => (Ins.cs ⟨o, a, b, c⟩).getD k undef)
  bo : BookAt wk (w.heap.size + 1) bk (.slice none 0 0) (.slice none 0 0) [] []
  low : Below w.heap.size w wk
theorem Tl.below {w wk w' : World} {bk : Nat} {o a b c : Int} (h : Tl w wk bk o a b c) (hb : Below wk.heap.size wk w') : Tl w w' bk o a b c :=
  ⟨h.box.of_block (hb.block _ h.box.lt), h.bo.below hb, h.low.trans (hb.mono h.low.size)⟩
theorem Tl.c {w wk : World} {bk : Nat} {o a b c : Int} (h : Tl w wk bk o a b c) : wk.cell? ⟨w.heap.size, 0, none⟩ = some (.int .i64 o) ∧ wk.cell? ⟨w.heap.size, 1, none⟩ = some (.int .i64 a) ∧ wk.cell? ⟨w.heap.size, 2, none⟩ = some (.int .i64 b) ∧ wk.cell? ⟨w.heap.size, 3, none⟩ = some (.int .i64 c) :=
  ⟨h.box.cell (i := 0) (by decide), h.box.cell (i := 1) (by decide), h.box.cell (i := 2) (by decide), h.box.cell (i := 3) (by decide)⟩
/-- .. and two lists apart. -/
structure Two (w wk : World) (bk : Nat) (o a b c : Int) (R : List Int) (l m : Value) : Prop where
  tl : Tl w wk bk o a b c
  ol : OwnInts wk (w.heap.size + 1) (l, R)
  om : OwnInts wk (w.heap.size + 1) (m, R)
  ap : Apt l m

/-- The Book with both lists. -/
structure Kp2 (w wk : World) (bk : Nat) (vi vw l m v2 v3 : Value) (R : List Int) (o a b c : Int) : Prop where
  bo : BookAt wk (w.heap.size + 1) bk vi vw [(l, R), (m, R)] [(v2, R), (v3, R)]
  box : wk.rowIs w.heap.size 23 4 (fun k => (Ins.cs ⟨o, a, b, c⟩).getD k undef)
  low : Below w.heap.size w wk
theorem row_c {wk : World} {x : Nat} {o a b c : Int} (h : wk.rowIs x 23 4 (fun k => (Ins.cs ⟨o, a, b, c⟩).getD k undef)) : wk.cell? ⟨x, 0, none⟩ = some (.int .i64 o) ∧ wk.cell? ⟨x, 1, none⟩ = some (.int .i64 a) ∧ wk.cell? ⟨x, 2, none⟩ = some (.int .i64 b) ∧ wk.cell? ⟨x, 3, none⟩ = some (.int .i64 c) :=
  ⟨h.cell (i := 0) (by decide), h.cell (i := 1) (by decide), h.cell (i := 2) (by decide), h.cell (i := 3) (by decide)⟩
section
variable {w wk w' : World} {bk : Nat} {vi vw l m v2 v3 : Value} {R : List Int} {o a b c : Int}
theorem Kp2.below (h : Kp2 w wk bk vi vw l m v2 v3 R o a b c) (hb : Below wk.heap.size wk w') : Kp2 w w' bk vi vw l m v2 v3 R o a b c :=
  ⟨h.bo.below hb, h.box.of_block (hb.block _ h.box.lt), h.low.trans (hb.mono h.low.size)⟩
theorem Kp2.cs (h : Kp2 w wk bk vi vw l m v2 v3 R o a b c) : wk.cell? ⟨w.heap.size, 0, none⟩ = some (.int .i64 o) ∧ wk.cell? ⟨w.heap.size, 1, none⟩ = some (.int .i64 a) ∧ wk.cell? ⟨w.heap.size, 2, none⟩ = some (.int .i64 b) ∧ wk.cell? ⟨w.heap.size, 3, none⟩ = some (.int .i64 c) := row_c h.box
theorem Kp2.own1 (h : Kp2 w wk bk vi vw l m v2 v3 R o a b c) : OwnInts wk (w.heap.size + 1) (l, R) := h.bo.ri _ (by simp)
theorem Kp2.keep {q : Nat} (h : Kp2 w wk bk vi vw l m v2 v3 R o a b c) (hb : Below (w.heap.size + 1) (wk.drewN q) w') : Hid (w'.cell? ⟨w.heap.size, 0, none⟩ = some (.int .i64 o) ∧ w'.cell? ⟨w.heap.size, 1, none⟩ = some (.int .i64 a) ∧ w'.cell? ⟨w.heap.size, 2, none⟩ = some (.int .i64 b) ∧ w'.cell? ⟨w.heap.size, 3, none⟩ = some (.int .i64 c)) :=
  row_c ((show (wk.drewN q).rowIs w.heap.size 23 4 _ from h.box).of_block (hb.block _ (by omega)))
end
theorem known' {op : Int} {k : Bool} (h : Hid (kn op = k)) (w : World) : Calls Try.prog 13 #[.int .i64 op] w fun e w' => e = .returned (.bool k) ∧ Below w.heap.size w w' := h.out ▸ known_any op w
theorem refKnown' {op : Int} {k : Bool} (h : Hid (kn op = k)) (w : World) : Calls Try.prog 14 #[.int .i64 op] w fun e w' => e = .returned (.bool k) ∧ w' = w := h.out ▸ refKnown_any op w
theorem safe' {op : Int} {k : Bool} (h : Hid (sfB op = k)) (w : World) : Calls Try.prog 15 #[.int .i64 op] w fun e w' => e = .returned (.bool k) ∧ w' = w := h.out ▸ safe_any op w
theorem refSafe' {op : Int} {k : Bool} (h : Hid (sfB op = k)) (w : World) : Calls Try.prog 16 #[.int .i64 op] w fun e w' => e = .returned (.bool k) ∧ w' = w := h.out ▸ refSafe_any op w

set_option maxRecDepth 100000 in
set_option maxHeartbeats 4000000 in
theorem tells_core (o a b c args : Int) (R : List Int) (hR : Hid (rdA o a b c args = R)) (w : World) :
    Calls Try.prog 3 #[.agg #[.int .i64 o, .int .i64 a, .int .i64 b, .int .i64 c], .int .i64 args] w fun e w' => e = .returned (.bool true) ∧ Below w.heap.size w w' := by
  have hRl : R.length ≤ 48 := by rw [← hR.out]; exact rdA_len o a b c args
  obtain ⟨u0, u1, u2, hu⟩ : ∃ u0 u1 u2, Hid (((ro o).1 != 0) = u0 ∧ ((ro o).2.1 != 0) = u1 ∧ ((ro o).2.2 != 0) = u2) := ⟨_, _, _, rfl, rfl, rfl⟩
  obtain ⟨wv, wb, hw⟩ : ∃ wv wb, Hid ((if wrB o = true then a else 0) = wv ∧ wrB o = wb) := ⟨_, _, rfl, rfl⟩
  have HX : Hid ((w.alloc (.cells #[.int .i64 o, .int .i64 a, .int .i64 b, .int .i64 c] 23)).rowIs w.heap.size 23 4 (fun k => (Ins.cs ⟨o, a, b, c⟩).getD k undef)) := box_row w o a b c
  have HB : Hid (Below w.heap.size w (w.alloc (.cells #[.int .i64 o, .int .i64 a, .int .i64 b, .int .i64 c] 23))) := (Below.refl _ _).alloc (Nat.le_refl _) _
  go_enter Try.func3, Try.ntmps3
  go_wp2_with fail
  refine (alive_any _).mono ?_
  rintro e w1 ⟨rfl, hB1⟩
  have HX1 : Hid (w1.rowIs w.heap.size 23 4 (fun k => (Ins.cs ⟨o, a, b, c⟩).getD k undef)) := HX.out.of_block (hB1.block _ HX.out.lt)
  have HB1 : Hid (Below w.heap.size w w1) := HB.out.trans (hB1.mono HB.out.size)
  clear HX HB hB1
  have d0 : w1.cell? ⟨w.heap.size, 0, none⟩ = some (.int .i64 o) := HX1.out.cell (i := 0) (by decide)
  go_wp2_with fail
  refine (uses_any o _).mono ?_
  rw [hu.out.1, hu.out.2.1, hu.out.2.2]
  rintro e w2 ⟨rfl, hB2⟩
  have HX2 : Hid (w2.rowIs w.heap.size 23 4 (fun k => (Ins.cs ⟨o, a, b, c⟩).getD k undef)) := HX1.out.of_block (hB2.block _ HX1.out.lt)
  have HB2 : Hid (Below w.heap.size w w2) := HB1.out.trans (hB2.mono HB1.out.size)
  clear HX1 HB1 hB2 d0
  have d0 : w2.cell? ⟨w.heap.size, 0, none⟩ = some (.int .i64 o) := HX2.out.cell (i := 0) (by decide)
  go_wp2_with fail
  refine (refUses_any o _).mono ?_
  rw [hu.out.1, hu.out.2.1, hu.out.2.2]
  rintro e w3 ⟨rfl, q, rfl⟩
  have HX3 : Hid ((w2.drewN q).rowIs w.heap.size 23 4 (fun k => (Ins.cs ⟨o, a, b, c⟩).getD k undef)) := HX2.out
  have HB3 : Hid (Below w.heap.size w (w2.drewN q)) := below_drewN HB2.out q
  clear HX2 HB2 d0
  generalize w2.drewN q = w3 at *
  have d0 : w3.cell? ⟨w.heap.size, 0, none⟩ = some (.int .i64 o) := HX3.out.cell (i := 0) (by decide)
  have d1 : w3.cell? ⟨w.heap.size, 1, none⟩ = some (.int .i64 a) := HX3.out.cell (i := 1) (by decide)
  have d2 : w3.cell? ⟨w.heap.size, 2, none⟩ = some (.int .i64 b) := HX3.out.cell (i := 2) (by decide)
  have d3 : w3.cell? ⟨w.heap.size, 3, none⟩ = some (.int .i64 c) := HX3.out.cell (i := 3) (by decide)
  go_wp2_with fail
  refine (writes_any ⟨o, a, b, c⟩ _).mono ?_
  simp only []
  rw [hw.out.1, hw.out.2]
  rintro e w4 ⟨rfl, hB4⟩
  have HX4 : Hid (w4.rowIs w.heap.size 23 4 (fun k => (Ins.cs ⟨o, a, b, c⟩).getD k undef)) := HX3.out.of_block (hB4.block _ HX3.out.lt)
  have HB4 : Hid (Below w.heap.size w w4) := HB3.out.trans (hB4.mono HB3.out.size)
  clear HX3 HB3 hB4 d0 d1 d2 d3
  have d0 : w4.cell? ⟨w.heap.size, 0, none⟩ = some (.int .i64 o) := HX4.out.cell (i := 0) (by decide)
  have d1 : w4.cell? ⟨w.heap.size, 1, none⟩ = some (.int .i64 a) := HX4.out.cell (i := 1) (by decide)
  have d2 : w4.cell? ⟨w.heap.size, 2, none⟩ = some (.int .i64 b) := HX4.out.cell (i := 2) (by decide)
  have d3 : w4.cell? ⟨w.heap.size, 3, none⟩ = some (.int .i64 c) := HX4.out.cell (i := 3) (by decide)
  go_wp2_with fail
  refine (refWrites_any ⟨o, a, b, c⟩ _).mono ?_
  simp only []
  rw [hw.out.1, hw.out.2]
  rintro e w5 ⟨rfl, hB5⟩
  have HX5 : Hid (w5.rowIs w.heap.size 23 4 (fun k => (Ins.cs ⟨o, a, b, c⟩).getD k undef)) := HX4.out.of_block (hB5.block _ HX4.out.lt)
  have HB5 : Hid (Below w.heap.size w w5) := HB4.out.trans (hB5.mono HB4.out.size)
  clear HX4 HB4 hB5 d0 d1 d2 d3
  have HT : Hid (Tl w (w5.alloc (.cells #[.slice none 0 0, .slice none 0 0, .slice none 0 0, .slice none 0 0, .slice none 0 0, .slice none 0 0, .slice none 0 0, .slice none 0 0, .slice none 0 0, .slice none 0 0] 36)) w5.heap.size o a b c) :=
    ⟨HX5.out.alloc _, ownBook_new w5 _ HX5.out.lt, HB5.out.alloc HB5.out.size _⟩
  clear HX5 HB5
  go_upto_region 8 with (fail)
  generalize w5.alloc (.cells #[.slice none 0 0, .slice none 0 0, .slice none 0 0, .slice none 0 0, .slice none 0 0, .slice none 0 0, .slice none 0 0, .slice none 0 0, .slice none 0 0, .slice none 0 0] 36) = w6 at *
  generalize w5.heap.size = bk at *
  go_cut [16, 17] (fun l m wk => Hid (Two w wk bk o a b c R l m))
  case first => as_aux_lemma =>
    clear hu hw
    go_region_held3 (fun w' => w'.cell? ⟨w.heap.size, 0, none⟩ = some (.int .i64 o) ∧ w'.cell? ⟨w.heap.size, 1, none⟩ = some (.int .i64 a) ∧ w'.cell? ⟨w.heap.size, 2, none⟩ = some (.int .i64 b) ∧ w'.cell? ⟨w.heap.size, 3, none⟩ = some (.int .i64 c))
      (first | exact HT.out.c | exact HT8.out.c | exact HT9.out.tl.c)
      (first
        | (go_at_call 11; refine (reads_any hR (w6.drewN 1)).mono ?_; rintro e w8 ⟨v8, rfl, ho8, hB8⟩; have HT8 : Hid (Tl w w8 bk o a b c) := HT.out.below ⟨hB8.os, hB8.tape, hB8.output, hB8.size, hB8.block⟩; have HO8 : Hid (OwnInts w8 (w.heap.size + 1) (v8, R)) := own_base ho8 HT.out.box.lt; clear ho8 hB8)
        | (go_at_call 11; refine (reads_any hR w8).mono ?_; rintro e w9 ⟨v9, rfl, ho9, hB9⟩; have HT9 : Hid (Two w w9 bk o a b c R v8 v9) := ⟨HT8.out.below hB9, HO8.out.below hB9, own_base ho9 HT8.out.box.lt, apt_fresh HO8.out ho9 (Nat.le_refl _)⟩; clear ho9 hB9))
    all_goals
      go_wp2
      go_meet
      case rel =>
        first
        | exact HT9
        | exact ⟨HT9.out.tl, HT9.out.om, HT9.out.ol, HT9.out.ap.symm'⟩
  case rest =>
    have H : Hid (Two w wc bk o a b c R u16 u17) := hcut
    clear hcut HT
    go_wp2_with fail
    refine (ints_any2 R _ _ H.out.tl.bo H.out.tl.box.lt (by omega) (by decide) (by decide) H.out.ol (fun p hp => by simp at hp) (fun p hp => by simp at hp)).mono ?_
    rintro e w8 ⟨rfl, vi, vw, v2, hb8, ht8, hf8⟩
    have HK : Hid (BookAt w8 (w.heap.size + 1) bk vi vw [(u16, R)] [(v2, R)]) := hb8
    have HF : Hid (OwnInts w8 (w.heap.size + 1) (u17, R) ∧ Apt u16 u17 ∧ Apt u17 v2) := by
      refine ⟨ht8.own H.out.om (by decide), H.out.ap, ?_⟩
      cases hm : u17.ownBlock with
      | none => exact Or.inl hm
      | some k =>
        refine Or.inr ?_
        rw [hm]
        intro e1
        have h1 := ((show OwnInts wc (w.heap.size + 1) (u17, R) from H.out.om).lt k hm).2
        have h2 := hf8 k e1.symm
        omega
    have HX : Hid (w8.rowIs w.heap.size 23 4 (fun k => (Ins.cs ⟨o, a, b, c⟩).getD k undef)) := ht8.row H.out.tl.box (by decide)
    have HB : Hid (Below w.heap.size w w8) := H.out.tl.low.trans ((ht8.below H.out.tl.box.lt).mono (by omega))
    clear H hb8 ht8 hf8
    go_wp2_with fail
    refine (ints_any2 R _ _ HK.out HX.out.lt (by omega) (by simp) (by simp) HF.out.1 (fun p hp => by simp at hp; subst hp; exact HF.out.2.1) (fun p hp => by simp at hp; subst hp; exact HF.out.2.2)).mono ?_
    rintro e w9 ⟨rfl, vi', vw', v3, hb9, ht9, _⟩
    have HJ : Hid (Kp2 w w9 bk vi' vw' u16 u17 v2 v3 R o a b c) := ⟨hb9, ht9.row HX.out (by decide), HB.out.trans ((ht9.below HX.out.lt).mono (by omega))⟩
    clear HK HF HX HB hb9 ht9
    obtain ⟨kk, hk⟩ : ∃ kk, Hid (kn o = kk) := ⟨_, rfl⟩
    obtain ⟨sf, hs⟩ : ∃ sf, Hid (sfB o = sf) := ⟨_, rfl⟩
    clear hu hw
    go_upto_region 11 with (fail)
    go_region_held3 (fun w' => w'.cell? ⟨w.heap.size, 0, none⟩ = some (.int .i64 o) ∧ w'.cell? ⟨w.heap.size, 1, none⟩ = some (.int .i64 a) ∧ w'.cell? ⟨w.heap.size, 2, none⟩ = some (.int .i64 b) ∧ w'.cell? ⟨w.heap.size, 3, none⟩ = some (.int .i64 c))
      (first | exact HJ.out.cs | exact HJa.out.cs | exact HJb.out.cs | exact HJd.out)
      (first
        | (go_at_call 13; refine (known' hk (w9.drewN 1)).mono ?_; rintro e w10 ⟨rfl, hBa⟩; have HJa : Hid (Kp2 w w10 bk vi' vw' u16 u17 v2 v3 R o a b c) := HJ.out.below ⟨hBa.os, hBa.tape, hBa.output, hBa.size, hBa.block⟩; clear hBa)
        | (go_at_call 14; refine (refKnown' hk _).mono ?_; rintro e wz ⟨rfl, hz⟩; rw [hz]; clear hz)
        | (go_at_call 15; refine (safe' hs _).mono ?_; rintro e wz ⟨rfl, hz⟩; rw [hz]; clear hz)
        | (go_at_call 16; refine (refSafe' hs _).mono ?_; rintro e wz ⟨rfl, hz⟩; rw [hz]; clear hz)
        | (go_at_call 18; refine (refReads_any hR w10).mono ?_; rintro e w12 ⟨v12, rfl, ho12, hB12⟩; have HJb : Hid (Kp2 w w12 bk vi' vw' u16 u17 v2 v3 R o a b c) := HJa.out.below hB12; have HS12 : Hid (SrcAt w12 v12 R) := src_of_own ho12; clear ho12 hB12)
        | (go_at_call 17; refine (same_any R u16 v12 w12 (by unfold maxLen; omega) (src_of_own HJb.out.own1) HS12.out).mono ?_; rintro e wz ⟨rfl, q12, hz⟩; rw [hz]; clear hz)
        | (go_at_call 19; refine (apart_any (w12.drewN q12) (HJb.out.bo.drewN q12) (HJb.out.box.lt) rfl (by simp) (by intro p hp; simp at hp; rcases hp with rfl | rfl <;> exact Nat.le_trans hRl (by decide))).mono ?_; rintro e w14 ⟨rfl, hB14⟩; have HJd := HJb.out.keep (q := q12) hB14))
    all_goals
      have HBf : Hid (Below w.heap.size w w14) := (below_drewN HJb.out.low q12).trans (hB14.mono (by omega))
      clear hB14
      go_wp2_with fail
      go_ret
      exact ⟨rfl, HBf.out⟩

theorem tells_walk (i : Ins) (args : Int) (w : World) : Calls Try.prog 3 #[i.v, .int .i64 args] w fun e w' => e = .returned (.bool true) ∧ Below w.heap.size w w' :=
  tells_core i.o i.a i.b i.c args _ rfl w

end Go.Proofs.Ytglalihheppgpaa

/- The walk of image's reader's function; a program that is being made, in memory. -/
import Derived.Test.YtkgicalkcbagaaaImF
import Derived.Test.YtkgicalkcbagaaaImD
import Derived.Deep.RegionLaw
namespace Go.Proofs.Ytkgicalkcbagaaa
open Go.RowKit

theorem Ty.but_new {K : List TypeId} {B k : Nat} {a b c : World} (h : Ty K B a b) (g : But k b c) (hk : a.heap.size ≤ k) : Ty K B a c :=
  ⟨g.os.trans h.os, g.tape.trans h.tape, g.output.trans h.output, Nat.le_trans h.size g.size, fun i hi hB => (g.block i (Nat.lt_of_lt_of_le hi h.size) (by omega)).trans (h.low i hi hB),
    fun i cs t fz hb ht => by
      have hlt := (Array.getElem?_eq_some_iff.1 hb).1
      exact (g.block i (Nat.lt_of_lt_of_le hlt h.size) (by omega)).trans (h.block i cs t fz hb ht)⟩

theorem bind_step {α β : Type} {S S1 : Option (List Int)} {y : α} {f : List Int → Option (α × List Int)} (g : α → List Int → Option β) (h : S.bind f = S1.map fun t => (y, t)) : S.bind (fun t => (f t).bind fun q => g q.1 q.2) = S1.bind (g y) := by
  have e : S.bind (fun t => (f t).bind fun q => g q.1 q.2) = (S.bind f).bind fun q => g q.1 q.2 := by cases S <;> rfl
  rw [e, h]
  cases S1 <;> rfl
theorem rF_eq (t : List Int) : rF t = (rL t).bind fun q1 => (rN q1.2).bind fun q2 => (rN q2.2).bind fun q3 => (rL q3.2).bind fun q4 => (rCount rI q4.2).bind fun q5 => some (⟨q1.1, q2.1, q3.1, q4.1, q5.1⟩, q5.2) := by
  unfold rF
  cases rL t with
  | none => rfl
  | some q =>
    obtain ⟨a, t1⟩ := q
    match t1 with
    | [] => rfl
    | [_] => rfl
    | r :: s :: t2 => rfl
theorem rF_chain {S S1 S2 S3 S4 S5 : Option (List Int)} {a : List Int} {r s : Int} {o : List Int} {c : List Ins} (h1 : S.bind rL = S1.map fun t => (a, t)) (h2 : S1.bind rN = S2.map fun t => (r, t)) (h3 : S2.bind rN = S3.map fun t => (s, t)) (h4 : S3.bind rL = S4.map fun t => (o, t))
    (h5 : S4.bind (rCount rI) = S5.map fun t => (c, t)) : S.bind rF = S5.map fun t => ((⟨a, r, s, o, c⟩ : Fn), t) := by
  have e : S.bind rF = S.bind fun t => (rL t).bind fun q1 => (rN q1.2).bind fun q2 => (rN q2.2).bind fun q3 => (rL q3.2).bind fun q4 => (rCount rI q4.2).bind fun q5 => some (⟨q1.1, q2.1, q3.1, q4.1, q5.1⟩, q5.2) := by
    cases S with
    | none => rfl
    | some t => exact rF_eq t
  rw [e, bind_step (fun a t => (rN t).bind fun q2 => (rN q2.2).bind fun q3 => (rL q3.2).bind fun q4 => (rCount rI q4.2).bind fun q5 => some ((⟨a, q2.1, q3.1, q4.1, q5.1⟩ : Fn), q5.2)) h1,
    bind_step (fun r t => (rN t).bind fun q3 => (rL q3.2).bind fun q4 => (rCount rI q4.2).bind fun q5 => some ((⟨a, r, q3.1, q4.1, q5.1⟩ : Fn), q5.2)) h2,
    bind_step (fun s t => (rL t).bind fun q4 => (rCount rI q4.2).bind fun q5 => some ((⟨a, r, s, q4.1, q5.1⟩ : Fn), q5.2)) h3,
    bind_step (fun o t => (rCount rI t).bind fun q5 => some ((⟨a, r, s, o, q5.1⟩ : Fn), q5.2)) h4,
    bind_step (fun c t => some ((⟨a, r, s, o, c⟩ : Fn), t)) h5]
  cases S5 <;> rfl

abbrev OwnI (w : World) (B : Nat) (v : Value) (L : List Int) : Prop := w.ownsRow B 3 1 v L.length (L.map (Value.int .i64))
/-- A function and the values of its lists. -/
structure FnV where
  f : Fn
  v0 : Value
  v3 : Value
  v4 : Value
def FnV.cs (q : FnV) : List Value := [q.v0, .int .i64 q.f.res, .int .i64 q.f.slots, q.v3, q.v4]
structure FnO (w : World) (B : Nat) (q : FnV) : Prop where
  args : OwnI w B q.v0 q.f.args
  objs : OwnI w B q.v3 q.f.objs
  code : w.ownsRow B 47 4 q.v4 q.f.code.length (flI q.f.code)
theorem FnO.ty {w w' : World} {B B' : Nat} {q : FnV} {K : List TypeId} (h : FnO w B q) (ht : Ty K B' w w') (h1 : 3 ∉ K) (h2 : 47 ∉ K) : FnO w' B q := ⟨ht.own h.args h1, ht.own h.objs h1, ht.own h.code h2⟩
theorem FnO.base {w : World} {B B' : Nat} {q : FnV} (h : FnO w B q) (hb : B' ≤ B) : FnO w B' q := ⟨own_base h.args hb, own_base h.objs hb, own_base h.code hb⟩
theorem own4_len {w : World} {base : Nat} {e : TypeId} {k : Nat} {v : Value} {n : Nat} {xs : List Value} (h : w.ownsRow base e k v n xs) : ∃ a c, v = .slice a n c := by
  rcases h.2 with ⟨rfl, rfl⟩ | ⟨g, cap, cur, rfl, _⟩
  · exact ⟨none, 0, rfl⟩
  · exact ⟨_, _, rfl⟩
theorem FnO.lens {w : World} {B : Nat} {q : FnV} (h : FnO w B q) : ∃ a0 c0 a3 c3 a4 c4, q.v0 = .slice a0 q.f.args.length c0 ∧ q.v3 = .slice a3 q.f.objs.length c3 ∧ q.v4 = .slice a4 q.f.code.length c4 := by
  obtain ⟨a0, c0, e0⟩ := own4_len h.args
  obtain ⟨a3, c3, e3⟩ := own4_len h.objs
  obtain ⟨a4, c4, e4⟩ := own4_len h.code
  exact ⟨a0, c0, a3, c3, a4, c4, e0, e3, e4⟩
/-- What a call of the reader's function answers. -/
def RdF (w : World) (B x : Nat) (S : Option (List Int)) (v : Value) (w' : World) : Prop :=
  ∃ q S', v = .agg #[q.v0, .int .i64 q.f.res, .int .i64 q.f.slots, q.v3, q.v4] ∧ Rd w' B x S' ∧ S.bind rF = S'.map (fun t => (q.f, t)) ∧ FnO w' w.heap.size q ∧ szF q.f ≤ 1000 ∧ Tr B w w'
def RdL (w : World) (B x : Nat) (S : Option (List Int)) (v : Value) (w' : World) : Prop :=
  ∃ L S', Rd w' B x S' ∧ S.bind rL = S'.map (fun t => (L, t)) ∧ OwnI w' w.heap.size v L ∧ L.length ≤ 255 ∧ Tr B w w'
theorem rlist_call {w : World} {B x : Nat} {S : Option (List Int)} (h : Rd w B x S) :
    Calls Try.prog 20 #[.pointer (some ⟨x, 0, none⟩)] w fun e w' => ∃ v, e = .returned v ∧ RdL w B x S v w' := by
  refine (rlist_any h).mono ?_
  rintro e w' ⟨v, L, S', h1, h2⟩
  exact ⟨v, h1, L, S', h2⟩

def fnZ (k : Nat) : Value := if k = 1 then .int .i64 0 else if k = 2 then .int .i64 0 else .slice none 0 0

set_option maxRecDepth 100000 in
set_option maxHeartbeats 4000000 in
theorem rfunc_any {w : World} {B x : Nat} {S : Option (List Int)} (h : Rd w B x S) :
    Calls Try.prog 22 #[.pointer (some ⟨x, 0, none⟩)] w fun e w' => ∃ v, e = .returned v ∧ RdF w B x S v w' := by
  obtain ⟨bx, hbx⟩ : ∃ bx, w.heap.size = bx := ⟨_, rfl⟩
  obtain ⟨wa, hwa⟩ : ∃ wa, w.alloc (.cells #[.slice none 0 0, .int .i64 0, .int .i64 0, .slice none 0 0, .slice none 0 0] 45) = wa := ⟨_, rfl⟩
  have HA : Hid (Tr B w wa) := hwa ▸ tr_alloc _ _ _
  have HR : Hid (Rd wa B x S) := hwa ▸ h.below ((Below.refl _ _).alloc (Nat.le_refl _) _)
  have HQ : Hid (wa.rowIs bx 45 5 fnZ) := by
    rw [← hbx]
    exact hwa ▸ World.rowIs_alloc w #[.slice none 0 0, .int .i64 0, .int .i64 0, .slice none 0 0, .slice none 0 0] 45 fnZ (fun k hk => by
      have : k = 0 ∨ k = 1 ∨ k = 2 ∨ k = 3 ∨ k = 4 := by simp at hk; omega
      rcases this with rfl | rfl | rfl | rfl | rfl <;> rfl)
  have hlo : w.heap.size ≤ wa.heap.size := HA.out.size
  have HLO : Hid (w.heap.size ≤ wa.heap.size) := hlo
  clear h hlo
  go_enter Try.func22, Try.ntmps22
  go_wp2_with fail
  refine (rlist_any HR.out).mono ?_
  rintro e w1 ⟨v0, La, S1, rfl, h1, h2, h3, h4, h5⟩
  have HR1 : Hid (Rd w1 B x S1) := h1
  have HS1 : Hid (S.bind rL = S1.map fun t => (La, t)) := h2
  have HO1 : Hid (OwnI w1 bx v0 La) := own_base h3 (by rw [← hbx]; exact HLO.out)
  have HT1 : Hid (Tr B wa w1) := h5
  obtain ⟨a0, c0, rfl⟩ := own_len h3
  have HL1 : Hid (La.length ≤ 255) := h4
  clear h1 h2 h3 h4 h5 HR
  go_wp2_with fail
  refine (rnumber_any HR1.out).mono ?_
  rintro e w2 ⟨r, S2, rfl, h1, h2, _, _, h5⟩
  have HR2 : Hid (Rd w2 B x S2) := h1
  have HS2 : Hid (S1.bind rN = S2.map fun t => ((r : Int), t)) := h2
  have HT2 : Hid (Tr B wa w2) := HT1.out.trans h5
  have HO2 : Hid (OwnI w2 bx (.slice a0 La.length c0) La) := h5.own HO1.out (by decide)
  clear h1 h2 h5 HR1 HO1 HT1
  go_wp2_with fail
  refine (rnumber_any HR2.out).mono ?_
  rintro e w3 ⟨s, S3, rfl, h1, h2, _, _, h5⟩
  have HR3 : Hid (Rd w3 B x S3) := h1
  have HS3 : Hid (S2.bind rN = S3.map fun t => ((s : Int), t)) := h2
  have HT3 : Hid (Tr B wa w3) := HT2.out.trans h5
  have HO3 : Hid (OwnI w3 bx (.slice a0 La.length c0) La) := h5.own HO2.out (by decide)
  clear h1 h2 h5 HR2 HO2 HT2
  go_wp2_with fail
  refine (rlist_any HR3.out).mono ?_
  rintro e w4 ⟨v3, Lo3, S4, rfl, h1, h2, h3, h4, h5⟩
  have HR4 : Hid (Rd w4 B x S4) := h1
  have HS4 : Hid (S3.bind rL = S4.map fun t => (Lo3, t)) := h2
  have HO4 : Hid (OwnI w4 bx v3 Lo3) := own_base h3 (by have := HT3.out.size; have := HLO.out; omega)
  have HO4' : Hid (OwnI w4 bx (.slice a0 La.length c0) La) := h5.own HO3.out (by decide)
  have HT4 : Hid (Tr B wa w4) := HT3.out.trans h5
  obtain ⟨a3, c3, rfl⟩ := own_len h3
  have HL4 : Hid (Lo3.length ≤ 255) := h4
  clear h1 h2 h3 h4 h5 HR3 HO3 HT3
  go_wp2_with fail
  refine (rcode_any HR4.out).mono ?_
  rintro e w5 ⟨v4, Lc, S5, rfl, h1, h2, h3, h4, h5⟩
  obtain ⟨a4, c4, rfl⟩ := own4_len h3
  have HR5 : Hid (Rd w5 B x S5) := h1
  have HS5 : Hid (S.bind rF = S5.map fun t => ((⟨La, (r : Int), (s : Int), Lo3, Lc⟩ : Fn), t)) := rF_chain HS1.out HS2.out HS3.out HS4.out h2
  have HT5 : Hid (Tr B wa w5) := HT4.out.trans h5
  have HO5 : Hid (FnO w5 bx ⟨⟨La, (r : Int), (s : Int), Lo3, Lc⟩, .slice a0 La.length c0, .slice a3 Lo3.length c3, .slice a4 Lc.length c4⟩) := ⟨h5.own HO4'.out (by decide), h5.own HO4.out (by decide), own_base h3 (by have := HT4.out.size; have := HLO.out; omega)⟩
  have HL5 : Hid (szF (⟨La, (r : Int), (s : Int), Lo3, Lc⟩ : Fn) ≤ 1000) := by
    have := HL1.out
    have := HL4.out
    show La.length + Lo3.length + Lc.length ≤ 1000
    omega
  have hq := HT5.out.row HQ.out (by decide)
  have q0 : w5.cell? ⟨bx, 0, none⟩ = some (.slice none 0 0) := hq.cell (i := 0) (by decide)
  have q1 : w5.cell? ⟨bx, 1, none⟩ = some (.int .i64 0) := hq.cell (i := 1) (by decide)
  have q2 : w5.cell? ⟨bx, 2, none⟩ = some (.int .i64 0) := hq.cell (i := 2) (by decide)
  have q3 : w5.cell? ⟨bx, 3, none⟩ = some (.slice none 0 0) := hq.cell (i := 3) (by decide)
  have q4 : w5.cell? ⟨bx, 4, none⟩ = some (.slice none 0 0) := hq.cell (i := 4) (by decide)
  have f0 := hq.frozen 0
  have f1 := hq.frozen 1
  have f2 := hq.frozen 2
  have f3 := hq.frozen 3
  have f4 := hq.frozen 4
  have hbl := hq.lt
  have HX : Hid (∃ v, Ending.returned (.agg #[.slice a0 La.length c0, .int .i64 (r : Int), .int .i64 (s : Int), .slice a3 Lo3.length c3, .slice a4 Lc.length c4]) = .returned v ∧
      RdF w B x S v (((((w5.setCell ⟨bx, 0, none⟩ (.slice a0 La.length c0)).setCell ⟨bx, 1, none⟩ (.int .i64 (r : Int))).setCell ⟨bx, 2, none⟩ (.int .i64 (s : Int))).setCell ⟨bx, 3, none⟩ (.slice a3 Lo3.length c3)).setCell ⟨bx, 4, none⟩ (.slice a4 Lc.length c4))) := by
    have hbut : But bx w5 (((((w5.setCell ⟨bx, 0, none⟩ (.slice a0 La.length c0)).setCell ⟨bx, 1, none⟩ (.int .i64 (r : Int))).setCell ⟨bx, 2, none⟩ (.int .i64 (s : Int))).setCell ⟨bx, 3, none⟩ (.slice a3 Lo3.length c3)).setCell ⟨bx, 4, none⟩ (.slice a4 Lc.length c4)) :=
      (((((But.refl _ _).setCell 0 _).setCell 1 _).setCell 2 _).setCell 3 _).setCell 4 _
    have hty := Ty.of_but (B := 0) hbut hq (Nat.zero_le _)
    refine ⟨_, rfl, ⟨⟨La, (r : Int), (s : Int), Lo3, Lc⟩, .slice a0 La.length c0, .slice a3 Lo3.length c3, .slice a4 Lc.length c4⟩, S5, rfl, HR5.out.ty hty (by decide), HS5.out, ?_, HL5.out, (HA.out.trans HT5.out).but_new hbut (by omega)⟩
    rw [hbx]
    exact HO5.out.ty hty (by decide) (by decide)
  clear h1 h2 h3 h4 h5 HR4 HS1 HS2 HS3 HS4 HO4 HO4' HT4 HR5 HS5 HT5 HO5 HL5 HL1 HL4 hq HQ HA HLO
  go_wp2_with fail
  refine bodyPost_ret (v := .agg #[.slice a0 La.length c0, .int .i64 (r : Int), .int .i64 (s : Int), .slice a3 Lo3.length c3, .slice a4 Lc.length c4]) (by simp [results, go_sem, q0, q1, q2, q3, q4]) rfl ?_
  exact HX.out

end Go.Proofs.Ytkgicalkcbagaaa

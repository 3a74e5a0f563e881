/- The two copies of ImageCopies: a region that draws its order, by what holds behind each set of its operations. -/
import Derived.Test.YtkgicalkcbagaaaImV
namespace Go.Proofs.Ytkgicalkcbagaaa
open Go.RowKit

theorem run_copyP (u : Value) (w : World) : (callFunc 13 #[u]).run Try.prog w = .ok (.enter 13 #[u]) w := by
  simp [go_sem]

section
variable {w wk w2 : World} {B M : Nat} {p : Pg} {p0 p1 p2 : Value} {n0 n1 n2 : Nat} {v u : Value}
def st3 (wk : World) (x : Nat) (u0 u1 u2 : Value) : World := ((wk.setCell ⟨x, 0, none⟩ u0).setCell ⟨x, 1, none⟩ u1).setCell ⟨x, 2, none⟩ u2
theorem st3_size {x : Nat} {u0 u1 u2 : Value} : (st3 wk x u0 u1 u2).heap.size = wk.heap.size := by simp [st3]
theorem PreAt.set {x N : Nat} {f : Nat → Value} (h : PreAt w wk B p0 p1 p2 p) (_hr : wk.rowIs x 26 N f) (hx : B < x) (o : Nat) (u : Value) : PreAt w (wk.setCell ⟨x, o, none⟩ u) B p0 p1 p2 p := by
  have hbut := (But.refl x wk).setCell o u
  have hst : Stay (fun b => b < B) wk (wk.setCell ⟨x, o, none⟩ u) := ⟨hbut.size, fun b hb hp => hbut.block b hb (by omega)⟩
  exact ⟨h.low.setCell (p := ⟨x, o, none⟩) (Nat.le_of_lt hx) _, hbut.row h.box (by omega), h.pg.stay hst⟩
theorem PreAt.st3 {x N : Nat} {f : Nat → Value} (h : PreAt w wk B p0 p1 p2 p) (hr : wk.rowIs x 26 N f) (hx : B < x) (u0 u1 u2 : Value) : PreAt w (st3 wk x u0 u1 u2) B p0 p1 p2 p :=
  ((h.set hr hx 0 u0).set (hr.set 0 u0) hx 1 u1).set ((hr.set 0 u0).set 1 u1) hx 2 u2
/-- The first copy: a program of its own, whose lists lie below M and may be spoilt. -/
def AOk (wk : World) (B M : Nat) (p : Pg) (n0 n1 n2 : Nat) (v : Value) : Prop := ∃ ag cg aq cs af cf, v = .agg #[.slice ag n0 cg, .slice aq n1 cs, .slice af n2 cf] ∧ (∃ Ss Fs, PgO wk B (.slice ag n0 cg) (.slice aq n1 cs) (.slice af n2 cf) p Ss Fs) ∧
  RwT (fun b => B ≤ b ∧ b < M) wk 3 1 (.slice ag n0 cg) n0 ∧ ShT (fun b => B ≤ b ∧ b < M) wk (.slice aq n1 cs) n1 0 ∧ FuT (fun b => B ≤ b ∧ b < M) wk (.slice af n2 cf) n2
/-- The second: its lists lie from M on. -/
def BOk (wk : World) (M : Nat) (p : Pg) (n0 n1 n2 : Nat) (v : Value) : Prop := ∃ ag cg aq cs af cf, v = .agg #[.slice ag n0 cg, .slice aq n1 cs, .slice af n2 cf] ∧ ∃ Ss Fs, PgO wk M (.slice ag n0 cg) (.slice aq n1 cs) (.slice af n2 cf) p Ss Fs
/-- A box that was laid, and stored into if d. -/
def XOk (wk : World) (B : Nat) (d : Bool) (u v : Value) : Prop := ∃ x f, v = .pointer (some ⟨x, 0, none⟩) ∧ B < x ∧ wk.rowIs x 26 3 f ∧ (d = true → ∀ c0 c1 c2, u = .agg #[c0, c1, c2] → f = pgC c0 c1 c2)
theorem AOk.below (h : AOk wk B M p n0 n1 n2 v) (hb : Below wk.heap.size wk w2) : AOk w2 B M p n0 n1 n2 v := by
  obtain ⟨ag, cg, aq, cs, af, cf, e, ⟨Ss, Fs, hO⟩, h1, h2, h3⟩ := h
  exact ⟨ag, cg, aq, cs, af, cf, e, ⟨Ss, Fs, hO.ty (B' := 0) (Ty.of_below hb)⟩, h1.below hb, h2.below hb, h3.below hb⟩
theorem BOk.below (h : BOk wk M p n0 n1 n2 v) (hb : Below wk.heap.size wk w2) : BOk w2 M p n0 n1 n2 v := by
  obtain ⟨ag, cg, aq, cs, af, cf, e, Ss, Fs, hO⟩ := h
  exact ⟨ag, cg, aq, cs, af, cf, e, Ss, Fs, hO.ty (B' := 0) (Ty.of_below hb)⟩
theorem XOk.below {d : Bool} (h : XOk wk B d u v) (hb : Below wk.heap.size wk w2) : XOk w2 B d u v := by
  obtain ⟨x, f, e, h1, h2, h3⟩ := h
  exact ⟨x, f, e, h1, h2.of_block (hb.block _ h2.lt), h3⟩
theorem AOk.set {x N : Nat} {f : Nat → Value} (h : AOk wk B M p n0 n1 n2 v) (hr : wk.rowIs x 26 N f) (o : Nat) (u : Value) : AOk (wk.setCell ⟨x, o, none⟩ u) B M p n0 n1 n2 v := by
  obtain ⟨ag, cg, aq, cs, af, cf, e, ⟨Ss, Fs, hO⟩, h1, h2, h3⟩ := h
  have hbut := (But.refl x wk).setCell o u
  exact ⟨ag, cg, aq, cs, af, cf, e, ⟨Ss, Fs, hO.ty (Ty.of_but hbut hr (Nat.zero_le _))⟩, h1.set x o u, h2.set hr (by decide) o u, h3.set hr (by decide) o u⟩
theorem BOk.set {x N : Nat} {f : Nat → Value} (h : BOk wk M p n0 n1 n2 v) (hr : wk.rowIs x 26 N f) (o : Nat) (u : Value) : BOk (wk.setCell ⟨x, o, none⟩ u) M p n0 n1 n2 v := by
  obtain ⟨ag, cg, aq, cs, af, cf, e, Ss, Fs, hO⟩ := h
  have hbut := (But.refl x wk).setCell o u
  exact ⟨ag, cg, aq, cs, af, cf, e, Ss, Fs, hO.ty (Ty.of_but hbut hr (Nat.zero_le _))⟩
theorem AOk.st3 {x N : Nat} {f : Nat → Value} (h : AOk wk B M p n0 n1 n2 v) (hr : wk.rowIs x 26 N f) (u0 u1 u2 : Value) : AOk (st3 wk x u0 u1 u2) B M p n0 n1 n2 v :=
  ((h.set hr 0 u0).set (hr.set 0 u0) 1 u1).set ((hr.set 0 u0).set 1 u1) 2 u2
theorem BOk.st3 {x N : Nat} {f : Nat → Value} (h : BOk wk M p n0 n1 n2 v) (hr : wk.rowIs x 26 N f) (u0 u1 u2 : Value) : BOk (st3 wk x u0 u1 u2) M p n0 n1 n2 v :=
  ((h.set hr 0 u0).set (hr.set 0 u0) 1 u1).set ((hr.set 0 u0).set 1 u1) 2 u2
theorem XOk.ot3 {d : Bool} {x : Nat} (h : XOk wk B d u v) (hne : v ≠ .pointer (some ⟨x, 0, none⟩)) (u0 u1 u2 : Value) : XOk (st3 wk x u0 u1 u2) B d u v := by
  obtain ⟨y, f, rfl, h1, h2, h3⟩ := h
  exact ⟨y, f, rfl, h1, row_ot3 h2 (fun e => hne (by rw [e])) u0 u1 u2, h3⟩

structure Iv (w wk : World) (B M : Nat) (p : Pg) (p0 p1 p2 v3 v4 v21 v22 v23 v24 : Value) (n0 n1 n2 : Nat) (b0 b1 b2 b3 b4 b5 b6 b7 : Bool) : Prop where
  pre : PreAt w wk B p0 p1 p2 p
  hM : M ≤ wk.heap.size
  l0 : b0 = true → v21 = .agg #[p0, p1, p2]
  l2 : b2 = true → v23 = .agg #[p0, p1, p2]
  a : b1 = true → AOk wk B M p n0 n1 n2 v22
  b : b3 = true → BOk wk M p n0 n1 n2 v24
  d3 : b3 = true → b1 = true
  xa : b4 = true → XOk wk B b6 v22 v3
  xb : b5 = true → XOk wk B b7 v24 v4
  ne : b4 = true → b5 = true → v3 ≠ v4
  d6 : b6 = true → b4 = true ∧ b1 = true
  d7 : b7 = true → b5 = true ∧ b3 = true

def Inv (w : World) (B : Nat) (p : Pg) (p0 p1 p2 : Value) (n0 n1 n2 : Nat) (T : Array Value) (l : Array Bool) (a : Act) (wk : World) : Prop :=
  ∃ b0 b1 b2 b3 b4 b5 b6 b7 v3 v4 v21 v22 v23 v24 M, l = #[b0, b1, b2, b3, b4, b5, b6, b7] ∧ a = fr T v3 v4 v21 v22 v23 v24 ∧ Iv w wk B M p p0 p1 p2 v3 v4 v21 v22 v23 v24 n0 n1 n2 b0 b1 b2 b3 b4 b5 b6 b7
theorem fr_self {T : Array Value} (hT : 24 < T.size) : ({ tmps := T, defers := [] } : Act) = fr T T[3] T[4] T[21] T[22] T[23] T[24] := by
  unfold fr
  have e : ∀ (n : Nat) (h : n < T.size), T.setIfInBounds n T[n] = T := fun n h => by simp [Array.setIfInBounds, h]
  rw [e 3, e 4, e 21, e 22, e 23, e 24]
theorem all8 {ops : Array Oper} {l : Array Bool} (hs : l.size = ops.size) (hr : Region.ready .any ops l = []) (hlow : ∀ (i : Nat) (o : Oper), ops[i]? = some o → ∀ e ∈ o.after, e.on < i) : ∀ n i, i < n → i < ops.size → l.getD i false = true := by
  intro n
  induction n with
  | zero => intro i h _; omega
  | succ n ih =>
    intro i hi hsz
    have ho : ops[i]? = some ops[i] := by simp [hsz]
    cases hl : l.getD i true with
    | true => simpa [hs, hsz] using hl
    | false =>
      have : i ∈ Region.ready .any ops l := mem_ready.2 ⟨hl, _, ho, fun e he _ => ih e.on (by have := hlow i _ ho e he; omega) (by have := hlow i _ ho e he; omega)⟩
      rw [hr] at this
      cases this

variable {ops : Array Oper} {o0 o1 o2 o3 o4 o5 o6 o7 : Oper} {id : Nat} {Q : Exit → Act → World → Prop} {T : Array Value} {ag az af : Option Addr} {cg cs cf : Nat} {ts1 ts3 : Array TypeId}
theorem copies_region (hops : ops = #[o0, o1, o2, o3, o4, o5, o6, o7])
    (k0 : o0.guard = none ∧ o0.dst = some 21 ∧ o0.op = .load 26 (.tmp 1))
    (k1 : o1.guard = none ∧ o1.dst = some 22 ∧ o1.op = .call { callee := .value (.func 13), args := #[.tmp 21], argTypes := ts1 } ∧ (⟨0, .data⟩ : Edge) ∈ o1.after)
    (k2 : o2.guard = none ∧ o2.dst = some 23 ∧ o2.op = .load 26 (.tmp 1))
    (k3 : o3.guard = none ∧ o3.dst = some 24 ∧ o3.op = .call { callee := .value (.func 13), args := #[.tmp 23], argTypes := ts3 } ∧ (⟨2, .data⟩ : Edge) ∈ o3.after ∧ (⟨1, .chain⟩ : Edge) ∈ o3.after)
    (k4 : o4.guard = none ∧ o4.dst = some 3 ∧ o4.op = .alloc 26)
    (k5 : o5.guard = none ∧ o5.dst = some 4 ∧ o5.op = .alloc 26)
    (k6 : o6.guard = none ∧ o6.dst = none ∧ o6.op = .store 26 (.tmp 3) (.tmp 22) ∧ (⟨4, .data⟩ : Edge) ∈ o6.after ∧ (⟨1, .data⟩ : Edge) ∈ o6.after)
    (k7 : o7.guard = none ∧ o7.dst = none ∧ o7.op = .store 26 (.tmp 4) (.tmp 24) ∧ (⟨5, .data⟩ : Edge) ∈ o7.after ∧ (⟨3, .data⟩ : Edge) ∈ o7.after)
    (hlow : ∀ (i : Nat) (o : Oper), ops[i]? = some o → ∀ e ∈ o.after, e.on < i) (hm : Try.prog.follows .mixedOrders = true) (hT : 24 < T.size) (hT1 : T[1]? = some (.pointer (some ⟨B, 0, none⟩)))
    (hz : szP p ≤ 3000) (hn : Hid (p.glob.length = n0 ∧ p.shapes.length = n1 ∧ p.funcs.length = n2)) (HP : PreAt w w2 B (.slice ag n0 cg) (.slice az n1 cs) (.slice af n2 cf) p)
    (hQ : ∀ wk xa xb M bg dg bs ds bf df qg eg qs es qf ef v21 v22 v23 v24, CsAt w wk B M B xa xb p (.slice ag n0 cg) (.slice az n1 cs) (.slice af n2 cf) (.slice bg n0 dg) (.slice bs n1 ds) (.slice bf n2 df) (.slice qg n0 eg) (.slice qs n1 es) (.slice qf n2 ef) n0 n1 n2 0 →
      PgV Any wk (.slice qg n0 eg) (.slice qs n1 es) (.slice qf n2 ef) p → Q .normal (fr T (.pointer (some ⟨xa, 0, none⟩)) (.pointer (some ⟨xb, 0, none⟩)) v21 v22 v23 v24) wk) :
    (Code.region id ops true).wp Try.prog Q { tmps := T, defers := [] } w2 := by
  subst hops
  have hrun := fun (x : Value) (wx : World) => (run_copyP x wx)
  have ALLOC : ∀ (wk : World) {b0 b1 b2 b3 b4 b5 b6 b7 : Bool} {v3 v4 v21 v22 v23 v24 : Value} {M : Nat}, Iv w wk B M p (.slice ag n0 cg) (.slice az n1 cs) (.slice af n2 cf) v3 v4 v21 v22 v23 v24 n0 n1 n2 b0 b1 b2 b3 b4 b5 b6 b7 → ∀ w', Below wk.heap.size wk w' → Iv w w' B M p (.slice ag n0 cg) (.slice az n1 cs) (.slice af n2 cf) v3 v4 v21 v22 v23 v24 n0 n1 n2 b0 b1 b2 b3 b4 b5 b6 b7 := by
    intro wk b0 b1 b2 b3 b4 b5 b6 b7 v3 v4 v21 v22 v23 v24 M h w' hb
    exact ⟨h.pre.below hb, Nat.le_trans h.hM hb.size, h.l0, h.l2, fun e => (h.a e).below hb, fun e => (h.b e).below hb, h.d3, fun e => (h.xa e).below hb, fun e => (h.xb e).below hb, h.ne, h.d6, h.d7⟩
  refine wp_region_inv hm (Inv w B p (.slice ag n0 cg) (.slice az n1 cs) (.slice af n2 cf) n0 n1 n2 T) ?_ ?_ ?_
  · rw [fr_self hT]
    exact ⟨false, false, false, false, false, false, false, false, _, _, _, _, _, _, 0, rfl, rfl, HP.drew, Nat.zero_le _, nofun, nofun, nofun, nofun, nofun, nofun, nofun, nofun, nofun, nofun⟩
  · rintro l a wk i o ⟨b0, b1, b2, b3, b4, b5, b6, b7, v3, v4, v21, v22, v23, v24, M, rfl, rfl, h⟩ ho hl hall
    have hi : i < 8 := by
      rcases Nat.lt_or_ge i 8 with h' | h'
      · exact h'
      · simp [Array.getElem?_eq_none (xs := #[o0, o1, o2, o3, o4, o5, o6, o7]) (show _ ≤ i from h')] at ho
    have hcase : i = 0 ∨ i = 1 ∨ i = 2 ∨ i = 3 ∨ i = 4 ∨ i = 5 ∨ i = 6 ∨ i = 7 := by omega
    rcases hcase with rfl | rfl | rfl | rfl | rfl | rfl | rfl | rfl
    · obtain rfl : o0 = o := by simpa using ho
      refine wpOp_of ho k0.1 (o_load k0.2.2 (ev1 hT1) h.pre.box ?_)
      rw [k0.2.1, fr21]
      exact ⟨true, b1, b2, b3, b4, b5, b6, b7, v3, v4, _, v22, v23, v24, M, rfl, rfl, h.pre, h.hM, fun _ => rfl, h.l2, h.a, h.b, h.d3, h.xa, h.xb, h.ne, h.d6, h.d7⟩
    · obtain rfl : o1 = o := by simpa using ho
      obtain rfl : b1 = false := hl
      have e0 : b0 = true := hall _ k1.2.2.2 rfl
      have hb3 : b3 = false := by
        cases hb : b3 with
        | false => rfl
        | true => exact absurd (h.d3 hb) nofun
      have hb6 : b6 = false := by
        cases hb : b6 with
        | false => rfl
        | true => exact absurd (h.d6 hb).2 nofun
      have hb7 : b7 = false := by
        cases hb : b7 with
        | false => rfl
        | true => exact absurd ((h.d7 hb).2.symm.trans hb3) nofun
      refine wpOp_of ho k1.1 ?_
      have hst := step_call1 (P := Try.prog) (ops := #[o0, o1, o2, o3, o4, o5, o6, o7]) (o := o1) (K := Inv w B p (.slice ag n0 cg) (.slice az n1 cs) (.slice af n2 cf) n0 n1 n2 T (#[b0, false, b2, b3, b4, b5, b6, b7].setIfInBounds 1 true)) (Q := Q) (E := False) (w := wk) (a := fr T v3 v4 v21 v22 v23 v24) k1.1 (.tmp 21) 13 ts1 k1.2.2.1 _ ((ev21 hT).trans (h.l0 e0)) _ (copy_any p n0 n1 n2 ag az af cg cs cf wk hz hn h.pre.pg.any) (hrun _ _) (by
        rintro v' w' ⟨qg, eg, qs, es, qf, ef, Ss, Fs, rfl, hO, hb⟩
        rw [k1.2.1, fr22]
        have hle : B ≤ wk.heap.size := Nat.le_of_lt h.pre.box.lt
        have hO' := hO.base hle
        obtain ⟨s1, s2, s3⟩ := hO'.spoil (Nat.le_refl w'.heap.size) hz
        obtain ⟨e0, e1, e2⟩ := hn.out
        rw [e0] at s1
        rw [e1] at s2
        rw [e2] at s3
        have g := ALLOC wk h w' hb
        exact ⟨b0, true, b2, b3, b4, b5, b6, b7, v3, v4, v21, _, v23, v24, w'.heap.size, rfl, rfl, g.pre, Nat.le_refl _, g.l0, g.l2, fun _ => ⟨qg, eg, qs, es, qf, ef, rfl, ⟨Ss, Fs, hO'⟩, s1, s2, s3⟩, fun e => absurd (e.symm.trans hb3) nofun, fun _ => rfl, fun e => (g.xa e).elim fun x hx => hx.elim fun f hf => ⟨x, f, hf.1, hf.2.1, hf.2.2.1, fun e6 => absurd (e6.symm.trans hb6) nofun⟩, g.xb, g.ne, fun e6 => absurd (e6.symm.trans hb6) nofun, fun e7 => absurd (e7.symm.trans hb7) nofun⟩)
      simpa [Region.wanted, k1.1] using hst
    · obtain rfl : o2 = o := by simpa using ho
      refine wpOp_of ho k2.1 (o_load k2.2.2 (ev1 hT1) h.pre.box ?_)
      rw [k2.2.1, fr23]
      exact ⟨b0, b1, true, b3, b4, b5, b6, b7, v3, v4, v21, v22, _, v24, M, rfl, rfl, h.pre, h.hM, h.l0, fun _ => rfl, h.a, h.b, h.d3, h.xa, h.xb, h.ne, h.d6, h.d7⟩
    · obtain rfl : o3 = o := by simpa using ho
      obtain rfl : b3 = false := hl
      have e2 : b2 = true := hall _ k3.2.2.2.1 rfl
      have e1 : b1 = true := hall _ k3.2.2.2.2 rfl
      have hb7 : b7 = false := by
        cases hb : b7 with
        | false => rfl
        | true => exact absurd (h.d7 hb).2 nofun
      refine wpOp_of ho k3.1 ?_
      have hst := step_call1 (P := Try.prog) (ops := #[o0, o1, o2, o3, o4, o5, o6, o7]) (o := o3) (K := Inv w B p (.slice ag n0 cg) (.slice az n1 cs) (.slice af n2 cf) n0 n1 n2 T (#[b0, b1, b2, false, b4, b5, b6, b7].setIfInBounds 3 true)) (Q := Q) (E := False) (w := wk) (a := fr T v3 v4 v21 v22 v23 v24) k3.1 (.tmp 23) 13 ts3 k3.2.2.1 _ ((ev23 hT).trans (h.l2 e2)) _ (copy_any p n0 n1 n2 ag az af cg cs cf wk hz hn h.pre.pg.any) (hrun _ _) (by
        rintro v' w' ⟨qg, eg, qs, es, qf, ef, Ss, Fs, rfl, hO, hb⟩
        rw [k3.2.1, fr24]
        have g := ALLOC wk h w' hb
        exact ⟨b0, b1, b2, true, b4, b5, b6, b7, v3, v4, v21, v22, v23, _, M, rfl, rfl, g.pre, g.hM, g.l0, g.l2, g.a, fun _ => ⟨qg, eg, qs, es, qf, ef, rfl, Ss, Fs, hO.base h.hM⟩, fun _ => e1, g.xa, fun e => (g.xb e).elim fun x hx => hx.elim fun f hf => ⟨x, f, hf.1, hf.2.1, hf.2.2.1, fun e7 => absurd (e7.symm.trans hb7) nofun⟩, g.ne, g.d6, fun e7 => absurd (e7.symm.trans hb7) nofun⟩)
      simpa [Region.wanted, k3.1] using hst
    · obtain rfl : o4 = o := by simpa using ho
      obtain rfl : b4 = false := hl
      have hb6 : b6 = false := by
        cases hb : b6 with
        | false => rfl
        | true => exact absurd (h.d6 hb).1 nofun
      refine wpOp_of ho k4.1 (o_alloc k4.2.2 ?_)
      rw [k4.2.1, fr3]
      have g := ALLOC wk h (wk.alloc zPg) ((Below.refl _ _).alloc (Nat.le_refl _) _)
      exact ⟨b0, b1, b2, b3, true, b5, b6, b7, _, v4, v21, v22, v23, v24, M, rfl, rfl, g.pre, g.hM, g.l0, g.l2, g.a, g.b, g.d3, fun _ => ⟨_, _, rfl, h.pre.box.lt, zrow wk, fun e6 => absurd (e6.symm.trans hb6) nofun⟩, g.xb, fun _ e5 => by
        obtain ⟨x, f, hx, _, hr, _⟩ := h.xb e5
        have := hr.lt
        rw [hx]
        intro e
        injection e with e
        injection e with e
        injection e with e
        omega, fun e6 => absurd (e6.symm.trans hb6) nofun, g.d7⟩
    · obtain rfl : o5 = o := by simpa using ho
      obtain rfl : b5 = false := hl
      have hb7 : b7 = false := by
        cases hb : b7 with
        | false => rfl
        | true => exact absurd (h.d7 hb).1 nofun
      refine wpOp_of ho k5.1 (o_alloc k5.2.2 ?_)
      rw [k5.2.1, fr4]
      have g := ALLOC wk h (wk.alloc zPg) ((Below.refl _ _).alloc (Nat.le_refl _) _)
      exact ⟨b0, b1, b2, b3, b4, true, b6, b7, v3, _, v21, v22, v23, v24, M, rfl, rfl, g.pre, g.hM, g.l0, g.l2, g.a, g.b, g.d3, g.xa, fun _ => ⟨_, _, rfl, h.pre.box.lt, zrow wk, fun e7 => absurd (e7.symm.trans hb7) nofun⟩, fun e4 _ => by
        obtain ⟨x, f, hx, _, hr, _⟩ := h.xa e4
        have := hr.lt
        rw [hx]
        intro e
        injection e with e
        injection e with e
        injection e with e
        omega, g.d6, fun e7 => absurd (e7.symm.trans hb7) nofun⟩
    · obtain rfl : o6 = o := by simpa using ho
      obtain rfl : b6 = false := hl
      have e4 : b4 = true := hall _ k6.2.2.2.1 rfl
      have e1 : b1 = true := hall _ k6.2.2.2.2 rfl
      obtain ⟨x, f, rfl, hx, hr, _⟩ := h.xa e4
      obtain ⟨qg, eg, qs, es, qf, ef, rfl, hrest⟩ := h.a e1
      have hA := h.a e1
      refine wpOp_of ho k6.1 (o_store k6.2.2.1 (ev3 hT) (ev22 hT) hr ?_)
      rw [k6.2.1, fr_none]
      exact ⟨b0, b1, b2, b3, b4, b5, true, b7, _, v4, v21, _, v23, v24, M, rfl, rfl, h.pre.st3 hr hx _ _ _, (by have := h.hM; exact Nat.le_trans this (Nat.le_of_eq st3_size.symm)), h.l0, h.l2, fun _ => hA.st3 hr _ _ _, fun e => (h.b e).st3 hr _ _ _, h.d3, fun _ => ⟨x, _, rfl, hx, row_st3 hr _ _ _, fun _ c0 c1 c2 e => by
        injection e with e
        simp only [Array.mk.injEq, List.cons.injEq, and_true] at e
        obtain ⟨rfl, rfl, rfl⟩ := e
        rfl⟩, fun e5 => (h.xb e5).ot3 (fun e => h.ne e4 e5 e.symm) _ _ _, h.ne, fun _ => ⟨e4, e1⟩, h.d7⟩
    · obtain rfl : o7 = o := by simpa using ho
      obtain rfl : b7 = false := hl
      have e5 : b5 = true := hall _ k7.2.2.2.1 rfl
      have e3 : b3 = true := hall _ k7.2.2.2.2 rfl
      obtain ⟨x, f, rfl, hx, hr, _⟩ := h.xb e5
      obtain ⟨qg, eg, qs, es, qf, ef, rfl, hrest⟩ := h.b e3
      have hB := h.b e3
      refine wpOp_of ho k7.1 (o_store k7.2.2.1 (ev4 hT) (ev24 hT) hr ?_)
      rw [k7.2.1, fr_none]
      exact ⟨b0, b1, b2, b3, b4, b5, b6, true, v3, _, v21, v22, v23, _, M, rfl, rfl, h.pre.st3 hr hx _ _ _, (by have := h.hM; exact Nat.le_trans this (Nat.le_of_eq st3_size.symm)), h.l0, h.l2, fun e => (h.a e).st3 hr _ _ _, fun _ => hB.st3 hr _ _ _, h.d3, fun e4 => (h.xa e4).ot3 (fun e => h.ne e4 e5 e) _ _ _, fun _ => ⟨x, _, rfl, hx, row_st3 hr _ _ _, fun _ c0 c1 c2 e => by
        injection e with e
        simp only [Array.mk.injEq, List.cons.injEq, and_true] at e
        obtain ⟨rfl, rfl, rfl⟩ := e
        rfl⟩, h.ne, h.d6, fun _ => ⟨e5, e3⟩⟩
  · rintro l a wk ⟨b0, b1, b2, b3, b4, b5, b6, b7, v3, v4, v21, v22, v23, v24, M, rfl, rfl, h⟩ hr
    have hall := fun i (hi : i < 8) => all8 (ops := #[o0, o1, o2, o3, o4, o5, o6, o7]) (l := #[b0, b1, b2, b3, b4, b5, b6, b7]) rfl hr hlow 8 i hi hi
    have e1 : b1 = true := hall 1 (by decide)
    have e3 : b3 = true := hall 3 (by decide)
    have e4 : b4 = true := hall 4 (by decide)
    have e5 : b5 = true := hall 5 (by decide)
    have e6 : b6 = true := hall 6 (by decide)
    have e7 : b7 = true := hall 7 (by decide)
    obtain ⟨qg, eg, qs, es, qf, ef, hv, ⟨Ss, Fs, hO⟩, s1, s2, s3⟩ := h.a e1
    obtain ⟨bg, dg, bs, ds, bf, df, hu, Ss2, Fs2, hO2⟩ := h.b e3
    obtain ⟨xa, fa, rfl, _, hra, hfa⟩ := h.xa e4
    obtain ⟨xb, fb, rfl, _, hrb, hfb⟩ := h.xb e5
    have ea := hfa e6 _ _ _ hv
    have eb := hfb e7 _ _ _ hu
    subst ea
    subst eb
    exact hQ wk xa xb M bg dg bs ds bf df qg eg qs es qf ef v21 v22 v23 v24 ⟨h.pre.low, Nat.le_refl _, h.pre.box, hrb, hra, h.pre.pg, hO2.pgV, s1, s2, s3⟩ hO.pgV.any
end

end Go.Proofs.Ytkgicalkcbagaaa

/- A program that is being made, in memory: what one more shape, one more function leave. -/
import Derived.Test.YtkgicalkcbagaaaImG
namespace Go.Proofs.Ytkgicalkcbagaaa
open Go.RowKit

/-- THE PROGRAM AT BLOCK x: its globals, its shapes and functions (each with the values of its lists): all of it lies from B on. -/
structure PqAt (w : World) (B x : Nat) (vg vs vf : Value) (G : List Int) (Ss : List (List Int × Value)) (Fs : List FnV) : Prop where
  ge : B ≤ x
  box : w.rowIs x 26 3 (pgC vg vs vf)
  glob : OwnI w B vg G
  sh : w.ownsRow B 42 1 vs Ss.length (Ss.map Prod.snd)
  fn : w.ownsRow B 45 5 vf Fs.length (Fs.flatMap FnV.cs)
  es : ∀ q ∈ Ss, OwnI w B q.2 q.1
  ef : ∀ q ∈ Fs, FnO w B q

theorem flV_at : ∀ (Fs : List FnV) (j : Nat) (q : FnV), Fs[j]? = some q → ∀ k, k < 5 → (Fs.flatMap FnV.cs)[j * 5 + k]? = q.cs[k]?
  | [], j, q, h, k, hk => by simp at h
  | y :: Fs, 0, q, h, k, hk => by
    simp at h; subst h
    rw [List.flatMap_cons, Nat.zero_mul, Nat.zero_add, List.getElem?_append_left (by simpa [FnV.cs] using hk)]
  | y :: Fs, j + 1, q, h, k, hk => by
    have hl : y.cs.length = 5 := rfl
    rw [List.flatMap_cons, List.getElem?_append_right (by rw [hl]; omega), hl]
    have := flV_at Fs j q (by simpa using h) k hk
    rw [← this]
    congr 1
    omega

theorem own_srcP {w : World} {B : Nat} {v : Value} {L : List Int} (h : OwnI w B v L) : SrcP (fun b => B ≤ b) w v L := by
  rcases h.2 with ⟨rfl, h0⟩ | ⟨g, cap, cur, rfl, hb, hg, hn, _, hs, ht⟩
  · exact Or.inl ⟨List.eq_nil_of_length_eq_zero h0, Or.inl rfl⟩
  · refine Or.inr ⟨g, 0, cap, rfl, hb, (Array.getElem?_eq_some_iff.1 hg).1, fun j hj => ?_⟩
    have hc := h.cells (g := g) rfl j (.int .i64 (L.getD j 0)) (by simp [hj])
    rw [Go.WideShapes.add_plain] at hc
    exact hc
theorem own_srcJ {w : World} {B : Nat} {v : Value} {L : List Ins} (h : w.ownsRow B 47 4 v L.length (flI L)) : SrcJ (fun b => B ≤ b) w v L := by
  have hi := srcI_of_own h
  rcases hi with hi | ⟨b, off, c, h1, h2, h3⟩
  · exact Or.inl hi
  · refine Or.inr ⟨b, off, c, h1, ?_, h2, h3⟩
    rcases h.2 with ⟨h4, _⟩ | ⟨g, cap, cur, h4, hb, _⟩
    · rw [h1] at h4; cases h4
    · rw [h1] at h4
      cases h4
      exact hb
theorem FnO.fnc {w : World} {B : Nat} {q : FnV} (h : FnO w B q) : FnC (fun b => B ≤ b) w q.f q.v0 (.int .i64 q.f.res) (.int .i64 q.f.slots) q.v3 q.v4 :=
  ⟨own_srcP h.args, rfl, rfl, own_srcP h.objs, own_srcJ h.code⟩
theorem pgV_rows {w : World} {B : Nat} {vg vs vf : Value} {G : List Int} {Ss : List (List Int × Value)} {Fs : List FnV} (hglob : OwnI w B vg G) (hsh : w.ownsRow B 42 1 vs Ss.length (Ss.map Prod.snd)) (hfn : w.ownsRow B 45 5 vf Fs.length (Fs.flatMap FnV.cs))
    (hes : ∀ q ∈ Ss, OwnI w B q.2 q.1) (hef : ∀ q ∈ Fs, FnO w B q) : PgV (fun b => B ≤ b) w vg vs vf ⟨G, Ss.map Prod.fst, Fs.map FnV.f⟩ := by
  refine ⟨own_srcP hglob, ?_, ?_⟩
  · rcases hsh.2 with ⟨rfl, h0⟩ | ⟨g, cap, cur, rfl, hb, hg, _⟩
    · exact Or.inl ⟨by rw [List.eq_nil_of_length_eq_zero h0]; rfl, none, 0, rfl⟩
    · refine Or.inr ⟨g, 0, cap, by simp, (Array.getElem?_eq_some_iff.1 hg).1, hb, fun j L hj => ?_⟩
      rw [List.getElem?_map] at hj
      obtain ⟨q, hq, rfl⟩ := Option.map_eq_some_iff.1 hj
      have hc := hsh.cells (g := g) rfl j q.2 (by rw [List.getElem?_map, hq]; rfl)
      rw [Go.WideShapes.add_plain] at hc
      exact ⟨q.2, hc, own_srcP (hes q (List.mem_of_getElem? hq))⟩
  · rcases hfn.2 with ⟨rfl, h0⟩ | ⟨g, cap, cur, rfl, hb, hg, _⟩
    · exact Or.inl ⟨by rw [List.eq_nil_of_length_eq_zero h0]; rfl, none, 0, rfl⟩
    · refine Or.inr ⟨g, 0, cap, by simp, (Array.getElem?_eq_some_iff.1 hg).1, hb, fun j f hj => ?_⟩
      rw [List.getElem?_map] at hj
      obtain ⟨q, hq, rfl⟩ := Option.map_eq_some_iff.1 hj
      have hc : ∀ k u, k < 5 → q.cs[k]? = some u → w.cell? ⟨g, 0 + j * 5 + k, none⟩ = some u := fun k u hk hu => by
        have := hfn.cells (g := g) rfl (j * 5 + k) u ((flV_at Fs j q hq k hk).trans hu)
        rw [Go.WideShapes.add_plain] at this
        rw [Nat.add_assoc]
        exact this
      exact ⟨q.v0, _, _, q.v3, q.v4, hc 0 _ (by omega) rfl, hc 1 _ (by omega) rfl, hc 2 _ (by omega) rfl, hc 3 _ (by omega) rfl, hc 4 _ (by omega) rfl, (hef q (List.mem_of_getElem? hq)).fnc⟩

theorem PqAt.pgV {w : World} {B x : Nat} {vg vs vf : Value} {G : List Int} {Ss : List (List Int × Value)} {Fs : List FnV} (h : PqAt w B x vg vs vf G Ss Fs) : PgV (fun b => B ≤ b) w vg vs vf ⟨G, Ss.map Prod.fst, Fs.map FnV.f⟩ := pgV_rows h.glob h.sh h.fn h.es h.ef
theorem PqAt.pgV_ty {w w' : World} {B B' x : Nat} {vg vs vf : Value} {G : List Int} {Ss : List (List Int × Value)} {Fs : List FnV} (h : PqAt w B x vg vs vf G Ss Fs) (ht : Ty [26] B' w w') : PgV (fun b => B ≤ b) w' vg vs vf ⟨G, Ss.map Prod.fst, Fs.map FnV.f⟩ :=
  pgV_rows (ht.own h.glob (by decide)) (ht.own h.sh (by decide)) (ht.own h.fn (by decide)) (fun q hq => ht.own (h.es q hq) (by decide)) (fun q hq => (h.ef q hq).ty ht (by decide) (by decide))

section
variable {w w' : World} {B x : Nat} {vg vs vf : Value} {G : List Int} {Ss : List (List Int × Value)} {Fs : List FnV}
theorem PqAt.ty {K : List TypeId} {B' : Nat} (h : PqAt w B x vg vs vf G Ss Fs) (ht : Ty K B' w w') (h1 : 26 ∉ K) (h2 : 3 ∉ K) (h3 : 42 ∉ K) (h4 : 45 ∉ K) (h5 : 47 ∉ K) : PqAt w' B x vg vs vf G Ss Fs :=
  ⟨h.ge, ht.row h.box h1, ht.own h.glob h2, ht.own h.sh h3, ht.own h.fn h4, fun q hq => ht.own (h.es q hq) h2, fun q hq => (h.ef q hq).ty ht h2 h5⟩
theorem PqAt.below (h : PqAt w B x vg vs vf G Ss Fs) (hb : Below w.heap.size w w') : PqAt w' B x vg vs vf G Ss Fs :=
  h.ty (K := []) (B' := 0) (Ty.of_below hb) (by simp) (by simp) (by simp) (by simp) (by simp)
theorem PqAt.drewN (h : PqAt w B x vg vs vf G Ss Fs) (n : Nat) : PqAt (w.drewN n) B x vg vs vf G Ss Fs := h.below (below_drewN (Below.refl _ _) n)
theorem PqAt.c (h : PqAt w B x vg vs vf G Ss Fs) : w.cell? ⟨x, 0, none⟩ = some vg ∧ w.cell? ⟨x, 1, none⟩ = some vs ∧ w.cell? ⟨x, 2, none⟩ = some vf :=
  ⟨h.box.cell (i := 0) (by decide), h.box.cell (i := 1) (by decide), h.box.cell (i := 2) (by decide)⟩
theorem PqAt.lens (h : PqAt w B x vg vs vf G Ss Fs) : ∃ ag cg az cs af cf, vg = .slice ag G.length cg ∧ vs = .slice az Ss.length cs ∧ vf = .slice af Fs.length cf := by
  obtain ⟨ag, cg, eg⟩ := own4_len h.glob
  obtain ⟨az, cs, es⟩ := own4_len h.sh
  obtain ⟨af, cf, ef⟩ := own4_len h.fn
  exact ⟨ag, cg, az, cs, af, cf, eg, es, ef⟩
/-- What the making of a program may change. -/
abbrev Tq (B : Nat) (w w' : World) : Prop := Ty [26, 42, 45] B w w'

/-- Behind the append of a shape and the store of the new slice. -/
theorem PqAt.shape {w3 : World} {v v' : Value} {L : List Int} (h : PqAt w B x vg vs vf G Ss Fs) (hv : OwnI w B v L)
    (ho : w3.ownsRow B 42 1 v' (Ss.length + 1) (Ss.map Prod.snd ++ [v])) (hg : w.grownBy w3 vs.ownBlock) :
    PqAt (w3.setCell ⟨x, 1, none⟩ v') B x vg v' vf G (Ss ++ [(L, v)]) Fs ∧ Tq B w (w3.setCell ⟨x, 1, none⟩ v') ∧ w3.rowIs x 26 3 (pgC vg vs vf) ∧ ∀ b n f, b ≠ x → w.rowIs b 26 n f → (w3.setCell ⟨x, 1, none⟩ v').rowIs b 26 n f := by
  have t1 : Ty [42] B w w3 := Ty.of_grown h.sh hg (Nat.le_refl _)
  have hd1 := t1.row h.box (by decide)
  have t2 : Ty [26] B w3 (w3.setCell ⟨x, 1, none⟩ v') := Ty.of_but ((But.refl _ _).setCell 1 _) hd1 h.ge
  have t : Ty [26, 42] B w (w3.setCell ⟨x, 1, none⟩ v') := (t1.mono (by simp) (Nat.le_refl _)).trans (t2.mono (by simp) (Nat.le_refl _))
  refine ⟨⟨h.ge, ?_, t.own h.glob (by decide), ?_, t.own h.fn (by decide), fun q hq => ?_, fun q hq => (h.ef q hq).ty t (by decide) (by decide)⟩, t.mono (by simp) (Nat.le_refl _), hd1, fun b n f hb r => ((But.refl x w3).setCell 1 v').row (t1.row r (by decide)) hb⟩
  · refine (hd1.set 1 v').congr fun i hi => ?_
    match i, hi with
    | 0, _ => rfl
    | 1, _ => rfl
    | 2, _ => rfl
  · have := t2.own ho (by decide)
    simpa using this
  · rcases List.mem_append.1 hq with hq | hq
    · exact t.own (h.es q hq) (by decide)
    · simp at hq; subst hq
      exact t.own hv (by decide)
/-- Behind the append of a function and the store of the new slice. -/
theorem PqAt.func {w3 : World} {v' : Value} {f : FnV} (h : PqAt w B x vg vs vf G Ss Fs) (hv : FnO w B f)
    (ho : w3.ownsRow B 45 5 v' (Fs.length + 1) (Fs.flatMap FnV.cs ++ f.cs)) (hg : w.grownBy w3 vf.ownBlock) :
    PqAt (w3.setCell ⟨x, 2, none⟩ v') B x vg vs v' G Ss (Fs ++ [f]) ∧ Tq B w (w3.setCell ⟨x, 2, none⟩ v') ∧ w3.rowIs x 26 3 (pgC vg vs vf) ∧ ∀ b n f, b ≠ x → w.rowIs b 26 n f → (w3.setCell ⟨x, 2, none⟩ v').rowIs b 26 n f := by
  have t1 : Ty [45] B w w3 := Ty.of_grown h.fn hg (Nat.le_refl _)
  have hd1 := t1.row h.box (by decide)
  have t2 : Ty [26] B w3 (w3.setCell ⟨x, 2, none⟩ v') := Ty.of_but ((But.refl _ _).setCell 2 _) hd1 h.ge
  have t : Ty [26, 45] B w (w3.setCell ⟨x, 2, none⟩ v') := (t1.mono (by simp) (Nat.le_refl _)).trans (t2.mono (by simp) (Nat.le_refl _))
  refine ⟨⟨h.ge, ?_, t.own h.glob (by decide), t.own h.sh (by decide), ?_, fun q hq => t.own (h.es q hq) (by decide), fun q hq => ?_⟩, t.mono (by simp) (Nat.le_refl _), hd1, fun b n f hb r => ((But.refl x w3).setCell 2 v').row (t1.row r (by decide)) hb⟩
  · refine (hd1.set 2 v').congr fun i hi => ?_
    match i, hi with
    | 0, _ => rfl
    | 1, _ => rfl
    | 2, _ => rfl
  · have := t2.own ho (by decide)
    simpa using this
  · rcases List.mem_append.1 hq with hq | hq
    · exact (h.ef q hq).ty t (by decide) (by decide)
    · simp at hq; subst hq
      exact hv.ty t (by decide) (by decide)
end

theorem Try.info42 : (Try.prog.info? 42).map (fun i => (i.zero, i.size, i.bytes)) = some (some (.agg #[.slice none 0 0]), 1, 24) := by kernel_rfl
theorem Try.info45 : (Try.prog.info? 45).map (fun i => (i.zero, i.size, i.bytes)) = some (some (.agg #[.slice none 0 0, .int .i64 0, .int .i64 0, .slice none 0 0, .slice none 0 0]), 5, 88) := by kernel_rfl
theorem one_at (w : World) (v : Value) (t : TypeId) : ∀ j u, [v][j]? = some u → (w.alloc (.cells #[v] t)).cell? ((⟨w.heap.size, 0, none⟩ : Addr).add j) = some u := by
  intro j u hj
  match j, hj with
  | 0, hj => simp at hj; subst hj; simp [Addr.add]
theorem five_at (w : World) (v0 v1 v2 v3 v4 : Value) (t : TypeId) : ∀ j u, [v0, v1, v2, v3, v4][j]? = some u → (w.alloc (.cells #[v0, v1, v2, v3, v4] t)).cell? ((⟨w.heap.size, 0, none⟩ : Addr).add j) = some u := by
  intro j u hj
  rw [Go.WideShapes.add_plain, Nat.zero_add]
  exact cell_new w _ _ (by rw [← hj]; simp)
theorem slice_one (a : Option Addr) (n c : Nat) : ∀ u ∈ [Value.slice a n c], u.oneCell' = true := by
  intro u hu; simp at hu; subst hu; rfl
theorem five_one (a0 a3 a4 : Option Addr) (n0 c0 n3 c3 n4 c4 : Nat) (r s : Int) : ∀ u ∈ [Value.slice a0 n0 c0, .int .i64 r, .int .i64 s, .slice a3 n3 c3, .slice a4 n4 c4], u.oneCell' = true := by
  intro u hu
  simp at hu
  rcases hu with rfl | rfl | rfl | rfl | rfl <;> rfl
def RdF' (w : World) (B x : Nat) (S : Option (List Int)) (v : Value) (w' : World) : Prop :=
  ∃ f a0 c0 a3 c3 a4 c4 S', v = .agg #[.slice a0 f.args.length c0, .int .i64 f.res, .int .i64 f.slots, .slice a3 f.objs.length c3, .slice a4 f.code.length c4] ∧ Rd w' B x S' ∧ S.bind rF = S'.map (fun t => (f, t)) ∧
    FnO w' w.heap.size ⟨f, .slice a0 f.args.length c0, .slice a3 f.objs.length c3, .slice a4 f.code.length c4⟩ ∧ Tr B w w'
theorem rfunc_call {w : World} {B x : Nat} {S : Option (List Int)} (h : Rd w B x S) :
    Calls Try.prog 22 #[.pointer (some ⟨x, 0, none⟩)] w fun e w' => ∃ v, e = .returned v ∧ RdF' w B x S v w' := by
  refine (rfunc_any h).mono ?_
  rintro e w' ⟨v, h1, ⟨f, v0, v3, v4⟩, S', h2, h3, h4, h5, h6, h7⟩
  obtain ⟨a0, c0, a3, c3, a4, c4, e0, e3, e4⟩ := h5.lens
  dsimp only at e0 e3 e4
  subst e0 e3 e4
  exact ⟨v, h1, f, a0, c0, a3, c3, a4, c4, S', h2, h3, h4, h5, h7⟩
theorem run_rlist (u : Value) (w : World) : (callFunc 20 #[u]).run Try.prog w = .ok (.enter 20 #[u]) w := by
  simp [go_sem]
theorem run_rfunc (u : Value) (w : World) : (callFunc 22 #[u]).run Try.prog w = .ok (.enter 22 #[u]) w := by
  simp [go_sem]
theorem step_call1 {P : Program} {ops : Array Oper} {o : Oper} {a : Act} {w : World} {K : Act → World → Prop} {Q : Exit → Act → World → Prop} {E : Prop} (hg : o.guard = none) (x : Operand) (f : FuncId) (ts : Array TypeId)
    (hop : o.op = Op.call { callee := Callee.value (Operand.func f), args := #[x], argTypes := ts }) (u : Value) (hx : a.eval x = u) (R : Value → World → Prop) (hc : Calls P f #[u] w fun e w' => ∃ v, e = .returned v ∧ R v w')
    (hrun : (callFunc f #[u]).run P w = .ok (.enter f #[u]) w) (hK : ∀ v w', R v w' → K (a.put o.dst v) w') : if Region.wanted o (yielded ops a.tmps) = true then Oper.wp P o a w K Q else E := by
  have hw : Region.wanted o (yielded ops a.tmps) = true := by simp [Region.wanted, hg]
  rw [if_pos hw]
  unfold Oper.wp
  have e : (execOp a.eval o).run P w = .ok (.enter f #[u]) w := by
    rw [← hrun]
    simp only [execOp, hop, resolve]
    rw [show Array.map a.eval #[x] = #[u] from by simp [hx]]
    simp [go_sem]
  rw [e]
  refine hc.mono ?_
  rintro e w' ⟨v, rfl, hR⟩
  exact hK v w' hR

end Go.Proofs.Ytkgicalkcbagaaa

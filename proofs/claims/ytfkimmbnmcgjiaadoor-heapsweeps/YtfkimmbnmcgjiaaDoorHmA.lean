/- A map from places (two numbers, a struct as a key) to objects (three numbers): what it holds, place by place; look-ups, stores, deletions. -/
import Derived.Test.YtfkimmbnmcgjiaaDoorFx
import Derived.Maps.OwnSet
import Derived.DeepKeys4
namespace Go.Proofs.YtfkimmbnmcgjiaaDoor
open Go.RowKit Go.Maps

theorem Tryd.rowPlace : (61 : TypeId) < Tryd.prog.types.size := of_decide_eq_true (by kernel_rfl)
theorem Tryd.widePlace : (match Tryd.prog.underlying 61 with | some (.array _ _) | some (.struct _) => true | _ => false) = true := by kernel_rfl
theorem Tryd.lawPlace : Keyed Tryd.prog 61 := Keyed.of_law (deep_law_laid (by kernel_rfl) (m := 2) (by omega) Tryd.rowPlace (by kernel_rfl) Tryd.widePlace)
theorem Tryd.zeroObject (w : World) : (zeroValue 59).run Tryd.prog w = .ok (.agg #[.int .i64 0, .int .i64 0, .int .i64 0]) w := by kernel_rfl

/-- What is kept of an object: its shape, its serial, its color. -/
structure Ob where
  sh : Int
  se : Int
  co : Int
def Ob.v (o : Ob) : Value := .agg #[.int .i64 o.sh, .int .i64 o.se, .int .i64 o.co]
def Ob.zero : Ob := ⟨0, 0, 0⟩
theorem Ob.v_inj {a b : Ob} (h : a.v = b.v) : a = b := by
  cases a; cases b
  simp [Ob.v] at h
  simp [h]
/-- A place as a value. -/
def plV (k s : Int) : Value := .agg #[.int .i64 k, .int .i64 s]

/-- How a value of the map is read: as itself. -/
def heldElem (v : Value) : Option (DataW Value × List MemPlace) := some (.held v, [])

theorem key_some (k s : Int) (hk : (Lit.int .i64 k).wf = true) (hs : (Lit.int .i64 s).wf = true) : ∃ l, keyOf Tryd.prog 61 (plV k s) = some l := by
  have hT : Tryd.prog.keyType 61 = true := by kernel_rfl
  have hc : Tryd.prog.cellsOf 61 = 2 := by kernel_rfl
  have hi : Tryd.prog.cellsOf 3 = 1 := by kernel_rfl
  have hn : ∃ n, Tryd.prog.types.size + 1 = n + 2 := ⟨Tryd.prog.types.size - 1, by kernel_rfl⟩
  obtain ⟨n, hn⟩ := hn
  unfold keyOf
  simp only [Tryd.underlying61]
  rw [hT, hn]
  simp [Value.formed, Tryd.underlying61, hc, plV, Value.cells, Program.keyLits, hi, Tryd.underlying3, hk, hs]

theorem wf_nat {n : Nat} (h : n ≤ 3000000) : (Lit.int .i64 (n : Int)).wf = true := WalkArith.wf_i64 (by omega)

/-- The key of a place. -/
noncomputable def klit (k s : Nat) : Lit := (keyOf Tryd.prog 61 (plV k s)).getD (.bool false)
theorem key_is {k s : Nat} (hk : k ≤ 3000000) (hs : s ≤ 3000000) : keyOf Tryd.prog 61 (plV k s) = some (klit k s) := by
  obtain ⟨l, hl⟩ := key_some k s (wf_nat hk) (wf_nat hs)
  unfold klit
  rw [hl]
  rfl
theorem key_ne {k s k' s' : Nat} (hk : k ≤ 3000000) (hs : s ≤ 3000000) (hk' : k' ≤ 3000000) (hs' : s' ≤ 3000000) (h : ¬ (k = k' ∧ s = s')) : klit k s ≠ klit k' s' := by
  intro e
  have h1 := key_is hk hs
  have h2 := key_is hk' hs'
  rw [← e] at h2
  have := Tryd.lawPlace.inj h1 h2
  simp [plV] at this
  exact h ⟨by omega, by omega⟩
theorem key_lit {k s : Nat} (hk : k ≤ 3000000) (hs : s ≤ 3000000) : WideAt.IsKeyLit (klit k s) := Tryd.lawPlace.key (key_is hk hs)

/-- What is kept, and one thing of it changed. -/
def upO (O : Nat → Nat → Option Ob) (k s : Nat) (v : Option Ob) (k' s' : Nat) : Option Ob := if k' = k ∧ s' = s then v else O k' s'
theorem upO_same (O : Nat → Nat → Option Ob) (k s : Nat) (v : Option Ob) : upO O k s v k s = v := by simp [upO]
theorem upO_other (O : Nat → Nat → Option Ob) {k s k' s' : Nat} (v : Option Ob) (h : ¬ (k' = k ∧ s' = s)) : upO O k s v k' s' = O k' s' := by unfold upO; rw [if_neg h]

/-- THE MAP AT BLOCK b HAS AT MOST n OBJECTS, THOSE OF O. -/
def MpAt (w : World) (b n : Nat) (O : Nat → Nat → Option Ob) : Prop :=
  ∃ D, w.ownsMap Tryd.prog 61 heldElem b n D ∧ (∀ k s : Nat, k ≤ 3000000 → s ≤ 3000000 → Maps.has D (klit k s) = (O k s).isSome ∧ D.atKey (klit k s) (.held Ob.zero.v) = .held ((O k s).getD Ob.zero).v)

theorem own_exact {w : World} {b n : Nat} {D : DataW Value} (h : w.ownsMap Tryd.prog 61 heldElem b n D) : w.ownsMap Tryd.prog 61 heldElem b (Maps.size D) D := by
  obtain ⟨es, clock, hb, F, hs, rfl⟩ := h
  refine ⟨es, clock, hb, F, ?_, rfl⟩
  simp [Maps.size, length_sorted]

section
variable {w : World} {b n : Nat} {O : Nat → Nat → Option Ob}
theorem MpAt.lt (h : MpAt w b n O) : b < w.heap.size := by
  obtain ⟨D, h1, _⟩ := h
  exact h1.lt
theorem MpAt.of_block {w' : World} (h : MpAt w b n O) (e : w'.heap[b]? = w.heap[b]?) : MpAt w' b n O := by
  obtain ⟨D, ⟨es, clock, hb, r⟩, h2⟩ := h
  exact ⟨D, ⟨es, clock, e.trans hb, r⟩, h2⟩
theorem MpAt.drewN (h : MpAt w b n O) (q : Nat) : MpAt (w.drewN q) b n O := h.of_block rfl
theorem MpAt.mono {m : Nat} (h : MpAt w b n O) (hm : n ≤ m) : MpAt w b m O := by
  obtain ⟨D, h1, h2⟩ := h
  exact ⟨D, h1.mono hm, h2⟩
theorem MpAt.below {w' : World} (h : MpAt w b n O) (hb : Below w.heap.size w w') : MpAt w' b n O := h.of_block (hb.block _ h.lt)
/-- It is a map: no row of cells lies there. -/
theorem MpAt.no_row (h : MpAt w b n O) {t : TypeId} {m : Nat} {f : Nat → Value} {c : Nat} (r : w.rowIs c t m f) : c ≠ b := by
  intro e
  subst e
  obtain ⟨D, ⟨es, clock, hb, _⟩, _⟩ := h
  obtain ⟨cs, hc, _⟩ := r
  rw [hb] at hc
  cases hc

theorem mp_made (w : World) : MpAt (w.alloc (.map #[] 0)) w.heap.size 0 (fun _ _ => none) :=
  ⟨_, World.ownsMap_made w Tryd.prog 61 heldElem, fun _ _ _ _ => ⟨rfl, rfl⟩⟩

theorem MpAt.look (h : MpAt w b n O) {k s : Nat} (hk : k ≤ 3000000) (hs : s ≤ 3000000) :
    (Instr.lookup 55 (.map (some b)) (plV k s) true).run Tryd.prog w = .ok (.tuple #[((O k s).getD Ob.zero).v, .bool (O k s).isSome]) w ∧
    (Instr.lookup 55 (.map (some b)) (plV k s) false).run Tryd.prog w = .ok ((O k s).getD Ob.zero).v w := by
  obtain ⟨D, h1, h2⟩ := h
  obtain ⟨h3, h4⟩ := h2 k s hk hs
  obtain ⟨v, ps, hrun, hv⟩ := h1.look_ok Tryd.lawPlace Tryd.underlying55 (Tryd.zeroObject w) (zd := .held Ob.zero.v) (zp := []) rfl (key_is hk hs)
  obtain ⟨v', ps', hrun', hv'⟩ := h1.lookup Tryd.lawPlace Tryd.underlying55 (Tryd.zeroObject w) (zd := .held Ob.zero.v) (zp := []) rfl (key_is hk hs)
  rw [h4] at hv hv'
  simp [heldElem] at hv hv'
  rw [hrun, hrun', hv.1, hv'.1, h3]
  exact ⟨rfl, rfl⟩

theorem MpAt.store (h : MpAt w b n O) {k s : Nat} (hk : k ≤ 3000000) (hs : s ≤ 3000000) (o : Ob) (hn : n ≤ 3000000) :
    ∃ w', (Instr.mapUpdate 55 (.map (some b)) (plV k s) o.v).run Tryd.prog w = .ok () w' ∧ MpAt w' b (if (O k s).isSome then n else n + 1) (upO O k s (some o)) ∧ But b w w' := by
  obtain ⟨D, h1, h2⟩ := h
  obtain ⟨w', hrun, hown, ht⟩ := h1.store Tryd.lawPlace Tryd.underlying55 (by unfold maxLen; omega) (val := o.v) (d := .held o.v) (ps := []) (key_is hk hs) rfl
  have hg := ht.grown
  refine ⟨w', hrun, ⟨_, (own_exact hown).mono ?_, fun k' s' hk' hs' => ?_⟩, ⟨hg.os, hg.tape, hg.output, hg.size, fun i hi hne => hg.block i hi (by simpa using hne)⟩⟩
  · rw [size_put (h1.tidy Tryd.lawPlace), (h2 k s hk hs).1]
    have := h1.size_le
    split <;> omega
  · by_cases e : k' = k ∧ s' = s
    · obtain ⟨rfl, rfl⟩ := e
      rw [upO_same, has_put_same h1.isMap (key_lit hk hs), atKey_put_same h1.isMap (key_lit hk hs)]
      exact ⟨rfl, rfl⟩
    · have hne := key_ne hk' hs' hk hs e
      rw [upO_other _ _ e, has_put_other hne, atKey_put_other hne]
      exact h2 k' s' hk' hs'

theorem MpAt.drop (h : MpAt w b n O) {k s : Nat} (hk : k ≤ 3000000) (hs : s ≤ 3000000) (ty : TypeId) :
    ∃ w', (Builtin.delete_ #[55, 61] ty #[.map (some b), plV k s]).run Tryd.prog w = .ok (.tuple #[]) w' ∧ MpAt w' b n (upO O k s none) ∧ But b w w' := by
  obtain ⟨D, h1, h2⟩ := h
  obtain ⟨w', hrun, hown, ht⟩ := h1.drop Tryd.lawPlace Tryd.underlying55 (key_is hk hs) ty
  have hg := ht.grown
  refine ⟨w', hrun, ⟨_, hown, fun k' s' hk' hs' => ?_⟩, ⟨hg.os, hg.tape, hg.output, hg.size, fun i hi hne => hg.block i hi (by simpa using hne)⟩⟩
  by_cases e : k' = k ∧ s' = s
  · obtain ⟨rfl, rfl⟩ := e
    rw [upO_same, has_del_same, atKey_del_same]
    exact ⟨rfl, rfl⟩
  · have hne := key_ne hk' hs' hk hs e
    rw [upO_other _ _ e, has_del_other hne, atKey_del_other hne]
    exact h2 k' s' hk' hs'
end

end Go.Proofs.YtfkimmbnmcgjiaaDoor

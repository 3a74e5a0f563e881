/- A map from places (two numbers, a struct as a key) to errors (numbers); the walk of check's faults. -/
import Derived.Test.YtmjappcjfjajmaaCkF
import Derived.Test.YtmjappcjfjajmaaFs
import Derived.Maps.OwnSet
import Derived.DeepKeys4
namespace Go.Proofs.Ytmjappcjfjajmaa
open Go.RowKit Go.Maps

set_option maxRecDepth 100000 in
theorem Try.rowPlace : (34 : TypeId) < Try.prog.types.size := of_decide_eq_true (by kernel_rfl)
set_option maxRecDepth 100000 in
theorem Try.widePlace : (match Try.prog.underlying 34 with | some (.array _ _) | some (.struct _) => true | _ => false) = true := by kernel_rfl
set_option maxRecDepth 100000 in
theorem Try.lawPlace : Keyed Try.prog 34 := Keyed.of_law (deep_law_laid (by kernel_rfl) (m := 2) (by omega) Try.rowPlace (by kernel_rfl) Try.widePlace)
set_option maxRecDepth 100000 in
theorem Try.zeroErrno (w : World) : (zeroValue 29).run Try.prog w = .ok (.int .i64 0) w := by kernel_rfl

/-- A place as a value. -/
def plV (k s : Int) : Value := .agg #[.int .i64 k, .int .i64 s]

/-- How a value of the map is read: as itself. -/
def heldElem (v : Value) : Option (DataW Value × List MemPlace) := some (.held v, [])

set_option maxRecDepth 100000 in
theorem key_some (k s : Int) (hk : (Lit.int .i64 k).wf = true) (hs : (Lit.int .i64 s).wf = true) : ∃ l, keyOf Try.prog 34 (plV k s) = some l := by
  have hT : Try.prog.keyType 34 = true := by kernel_rfl
  have hc : Try.prog.cellsOf 34 = 2 := by kernel_rfl
  have hi : Try.prog.cellsOf 3 = 1 := by kernel_rfl
  have hn : ∃ n, Try.prog.types.size + 1 = n + 2 := ⟨Try.prog.types.size - 1, by kernel_rfl⟩
  obtain ⟨n, hn⟩ := hn
  unfold keyOf
  simp only [Try.underlying34]
  rw [hT, hn]
  simp [Value.formed, Try.underlying34, hc, plV, Value.cells, Program.keyLits, hi, Try.underlying3, hk, hs]

set_option maxRecDepth 100000 in
theorem wf_nat {n : Nat} (h : n ≤ 3000000) : (Lit.int .i64 (n : Int)).wf = true := WalkArith.wf_i64 (by omega)

/-- The key of a place. -/
noncomputable def klit (k s : Nat) : Lit := (keyOf Try.prog 34 (plV k s)).getD (.bool false)
set_option maxRecDepth 100000 in
theorem key_is {k s : Nat} (hk : k ≤ 3000000) (hs : s ≤ 3000000) : keyOf Try.prog 34 (plV k s) = some (klit k s) := by
  obtain ⟨l, hl⟩ := key_some k s (wf_nat hk) (wf_nat hs)
  unfold klit
  rw [hl]
  rfl
set_option maxRecDepth 100000 in
theorem key_ne {k s k' s' : Nat} (hk : k ≤ 3000000) (hs : s ≤ 3000000) (hk' : k' ≤ 3000000) (hs' : s' ≤ 3000000) (h : ¬ (k = k' ∧ s = s')) : klit k s ≠ klit k' s' := by
  intro e
  have h1 := key_is hk hs
  have h2 := key_is hk' hs'
  rw [← e] at h2
  have := Try.lawPlace.inj h1 h2
  simp [plV] at this
  exact h ⟨by omega, by omega⟩
set_option maxRecDepth 100000 in
theorem key_lit {k s : Nat} (hk : k ≤ 3000000) (hs : s ≤ 3000000) : WideAt.IsKeyLit (klit k s) := Try.lawPlace.key (key_is hk hs)

/-- What is kept, and one thing of it changed. -/
def upO (O : Nat → Nat → Option Int) (k s : Nat) (v : Option Int) (k' s' : Nat) : Option Int := if k' = k ∧ s' = s then v else O k' s'
set_option maxRecDepth 100000 in
theorem upO_same (O : Nat → Nat → Option Int) (k s : Nat) (v : Option Int) : upO O k s v k s = v := by simp [upO]
set_option maxRecDepth 100000 in
theorem upO_other (O : Nat → Nat → Option Int) {k s k' s' : Nat} (v : Option Int) (h : ¬ (k' = k ∧ s' = s)) : upO O k s v k' s' = O k' s' := by unfold upO; rw [if_neg h]

/-- THE MAP AT BLOCK b HAS AT MOST n OBJECTS, THOSE OF O. -/
def MpAt (w : World) (b n : Nat) (O : Nat → Nat → Option Int) : Prop :=
  ∃ D, w.ownsMap Try.prog 34 heldElem b n D ∧ (∀ k s : Nat, k ≤ 3000000 → s ≤ 3000000 → Maps.has D (klit k s) = (O k s).isSome ∧ D.atKey (klit k s) (.held (.int .i64 0)) = .held (.int .i64 ((O k s).getD 0)))

set_option maxRecDepth 100000 in
theorem own_exact {w : World} {b n : Nat} {D : DataW Value} (h : w.ownsMap Try.prog 34 heldElem b n D) : w.ownsMap Try.prog 34 heldElem b (Maps.size D) D := by
  obtain ⟨es, clock, hb, F, hs, rfl⟩ := h
  refine ⟨es, clock, hb, F, ?_, rfl⟩
  simp [Maps.size, length_sorted]

section
variable {w : World} {b n : Nat} {O : Nat → Nat → Option Int}
set_option maxRecDepth 100000 in
theorem MpAt.lt (h : MpAt w b n O) : b < w.heap.size := by
  obtain ⟨D, h1, _⟩ := h
  exact h1.lt
set_option maxRecDepth 100000 in
theorem MpAt.of_block {w' : World} (h : MpAt w b n O) (e : w'.heap[b]? = w.heap[b]?) : MpAt w' b n O := by
  obtain ⟨D, ⟨es, clock, hb, r⟩, h2⟩ := h
  exact ⟨D, ⟨es, clock, e.trans hb, r⟩, h2⟩
set_option maxRecDepth 100000 in
theorem MpAt.drewN (h : MpAt w b n O) (q : Nat) : MpAt (w.drewN q) b n O := h.of_block rfl
set_option maxRecDepth 100000 in
theorem MpAt.mono {m : Nat} (h : MpAt w b n O) (hm : n ≤ m) : MpAt w b m O := by
  obtain ⟨D, h1, h2⟩ := h
  exact ⟨D, h1.mono hm, h2⟩
set_option maxRecDepth 100000 in
theorem MpAt.below {w' : World} (h : MpAt w b n O) (hb : Below w.heap.size w w') : MpAt w' b n O := h.of_block (hb.block _ h.lt)
set_option maxRecDepth 100000 in
/-- It is a map: no row of cells lies there. -/
theorem MpAt.no_row (h : MpAt w b n O) {t : TypeId} {m : Nat} {f : Nat → Value} {c : Nat} (r : w.rowIs c t m f) : c ≠ b := by
  intro e
  subst e
  obtain ⟨D, ⟨es, clock, hb, _⟩, _⟩ := h
  obtain ⟨cs, hc, _⟩ := r
  rw [hb] at hc
  cases hc

set_option maxRecDepth 100000 in
theorem mp_made (w : World) : MpAt (w.alloc (.map #[] 0)) w.heap.size 0 (fun _ _ => none) :=
  ⟨_, World.ownsMap_made w Try.prog 34 heldElem, fun _ _ _ _ => ⟨rfl, rfl⟩⟩

set_option maxRecDepth 100000 in
theorem MpAt.look (h : MpAt w b n O) {k s : Nat} (hk : k ≤ 3000000) (hs : s ≤ 3000000) :
    (Instr.lookup 116 (.map (some b)) (plV k s) true).run Try.prog w = .ok (.tuple #[(.int .i64 ((O k s).getD 0)), .bool (O k s).isSome]) w ∧
    (Instr.lookup 116 (.map (some b)) (plV k s) false).run Try.prog w = .ok (.int .i64 ((O k s).getD 0)) w := by
  obtain ⟨D, h1, h2⟩ := h
  obtain ⟨h3, h4⟩ := h2 k s hk hs
  obtain ⟨v, ps, hrun, hv⟩ := h1.look_ok Try.lawPlace Try.underlying116 (Try.zeroErrno w) (zd := .held (.int .i64 0)) (zp := []) rfl (key_is hk hs)
  obtain ⟨v', ps', hrun', hv'⟩ := h1.lookup Try.lawPlace Try.underlying116 (Try.zeroErrno w) (zd := .held (.int .i64 0)) (zp := []) rfl (key_is hk hs)
  rw [h4] at hv hv'
  simp [heldElem] at hv hv'
  rw [hrun, hrun', hv.1, hv'.1, h3]
  exact ⟨rfl, rfl⟩

set_option maxRecDepth 100000 in
theorem MpAt.store (h : MpAt w b n O) {k s : Nat} (hk : k ≤ 3000000) (hs : s ≤ 3000000) (o : Int) (hn : n ≤ 3000000) :
    ∃ w', (Instr.mapUpdate 116 (.map (some b)) (plV k s) (.int .i64 o)).run Try.prog w = .ok () w' ∧ MpAt w' b (if (O k s).isSome then n else n + 1) (upO O k s (some o)) ∧ But b w w' := by
  obtain ⟨D, h1, h2⟩ := h
  obtain ⟨w', hrun, hown, ht⟩ := h1.store Try.lawPlace Try.underlying116 (by unfold maxLen; omega) (val := (.int .i64 o)) (d := .held (.int .i64 o)) (ps := []) (key_is hk hs) rfl
  have hg := ht.grown
  refine ⟨w', hrun, ⟨_, (own_exact hown).mono ?_, fun k' s' hk' hs' => ?_⟩, ⟨hg.os, hg.tape, hg.output, hg.size, fun i hi hne => hg.block i hi (by simpa using hne)⟩⟩
  · rw [size_put (h1.tidy Try.lawPlace), (h2 k s hk hs).1]
    have := h1.size_le
    split <;> omega
  · by_cases e : k' = k ∧ s' = s
    · obtain ⟨rfl, rfl⟩ := e
      rw [upO_same, has_put_same h1.isMap (key_lit hk hs), atKey_put_same h1.isMap (key_lit hk hs)]
      exact ⟨rfl, rfl⟩
    · have hne := key_ne hk' hs' hk hs e
      rw [upO_other _ _ e, has_put_other hne, atKey_put_other hne]
      exact h2 k' s' hk' hs'

end

end Go.Proofs.Ytmjappcjfjajmaa

/- A map from places to lists of kinds (slices). -/
import Derived.Test.YtmjappcjfjajmaaCkG
import Derived.Test.YtmjappcjfjajmaaFlN
namespace Go.Proofs.Ytmjappcjfjajmaa
open Go.RowKit Go.Maps

set_option maxRecDepth 100000 in
theorem Try.zeroIntsL (w : World) : (zeroValue 22).run Try.prog w = .ok (.slice none 0 0) w := by kernel_rfl

/-- A number that an int may be. -/
def I64 (n : Int) : Prop := -9223372036854775808 ≤ n ∧ n ≤ 9223372036854775807
set_option maxRecDepth 100000 in
theorem I64.wf {n : Int} (h : I64 n) : (Lit.int .i64 n).wf = true := WalkArith.wf_i64 (by unfold I64 at h; omega)
set_option maxRecDepth 100000 in
theorem i64_nat {n : Nat} (h : n ≤ 3000000) : I64 (n : Int) := by unfold I64; omega
/-- The key of a place. -/
noncomputable def kliI (k s : Int) : Lit := (keyOf Try.prog 34 (plV k s)).getD (.bool false)
set_option maxRecDepth 100000 in
theorem keyI_is {k s : Int} (hk : I64 k) (hs : I64 s) : keyOf Try.prog 34 (plV k s) = some (kliI k s) := by
  obtain ⟨l, hl⟩ := key_some k s hk.wf hs.wf
  unfold kliI
  rw [hl]
  rfl
set_option maxRecDepth 100000 in
theorem keyI_ne {k s k' s' : Int} (hk : I64 k) (hs : I64 s) (hk' : I64 k') (hs' : I64 s') (h : ¬ (k = k' ∧ s = s')) : kliI k s ≠ kliI k' s' := by
  intro e
  have h1 := keyI_is hk hs
  have h2 := keyI_is hk' hs'
  rw [← e] at h2
  have := Try.lawPlace.inj h1 h2
  simp [plV] at this
  exact h ⟨by omega, by omega⟩
set_option maxRecDepth 100000 in
theorem keyI_lit {k s : Int} (hk : I64 k) (hs : I64 s) : WideAt.IsKeyLit (kliI k s) := Try.lawPlace.key (keyI_is hk hs)

/-- What is kept, and one thing of it changed. -/
def upV (O : Int → Int → Option Value) (k s : Int) (v : Option Value) (k' s' : Int) : Option Value := if k' = k ∧ s' = s then v else O k' s'
set_option maxRecDepth 100000 in
theorem upV_same (O : Int → Int → Option Value) (k s : Int) (v : Option Value) : upV O k s v k s = v := by simp [upV]
set_option maxRecDepth 100000 in
theorem upV_other (O : Int → Int → Option Value) {k s k' s' : Int} (v : Option Value) (h : ¬ (k' = k ∧ s' = s)) : upV O k s v k' s' = O k' s' := by unfold upV; rw [if_neg h]

/-- THE MAP AT BLOCK b HAS AT MOST n OBJECTS, THOSE OF O. -/
def MkAt (w : World) (b n : Nat) (O : Int → Int → Option Value) : Prop :=
  ∃ D, w.ownsMap Try.prog 34 heldElem b n D ∧ (∀ k s : Int, I64 k → I64 s → Maps.has D (kliI k s) = (O k s).isSome ∧ D.atKey (kliI k s) (.held (.slice none 0 0)) = .held ((O k s).getD (.slice none 0 0)))

section
variable {w : World} {b n : Nat} {O : Int → Int → Option Value}
set_option maxRecDepth 100000 in
theorem MkAt.lt (h : MkAt w b n O) : b < w.heap.size := by
  obtain ⟨D, h1, _⟩ := h
  exact h1.lt
set_option maxRecDepth 100000 in
theorem MkAt.of_block {w' : World} (h : MkAt w b n O) (e : w'.heap[b]? = w.heap[b]?) : MkAt w' b n O := by
  obtain ⟨D, ⟨es, clock, hb, r⟩, h2⟩ := h
  exact ⟨D, ⟨es, clock, e.trans hb, r⟩, h2⟩
set_option maxRecDepth 100000 in
theorem MkAt.drewN (h : MkAt w b n O) (q : Nat) : MkAt (w.drewN q) b n O := h.of_block rfl
set_option maxRecDepth 100000 in
theorem MkAt.mono {m : Nat} (h : MkAt w b n O) (hm : n ≤ m) : MkAt w b m O := by
  obtain ⟨D, h1, h2⟩ := h
  exact ⟨D, h1.mono hm, h2⟩
set_option maxRecDepth 100000 in
theorem MkAt.below {w' : World} (h : MkAt w b n O) (hb : Below w.heap.size w w') : MkAt w' b n O := h.of_block (hb.block _ h.lt)
set_option maxRecDepth 100000 in
/-- It is a map: no row of cells lies there. -/
theorem MkAt.no_row (h : MkAt w b n O) {t : TypeId} {m : Nat} {f : Nat → Value} {c : Nat} (r : w.rowIs c t m f) : c ≠ b := by
  intro e
  subst e
  obtain ⟨D, ⟨es, clock, hb, _⟩, _⟩ := h
  obtain ⟨cs, hc, _⟩ := r
  rw [hb] at hc
  cases hc

set_option maxRecDepth 100000 in
theorem mk_made (w : World) : MkAt (w.alloc (.map #[] 0)) w.heap.size 0 (fun _ _ => none) :=
  ⟨_, World.ownsMap_made w Try.prog 34 heldElem, fun _ _ _ _ => ⟨rfl, rfl⟩⟩

set_option maxRecDepth 100000 in
theorem MkAt.look (h : MkAt w b n O) {k s : Int} (hk : I64 k) (hs : I64 s) :
    (Instr.lookup 74 (.map (some b)) (plV k s) true).run Try.prog w = .ok (.tuple #[((O k s).getD (.slice none 0 0)), .bool (O k s).isSome]) w ∧
    (Instr.lookup 74 (.map (some b)) (plV k s) false).run Try.prog w = .ok ((O k s).getD (.slice none 0 0)) w := by
  obtain ⟨D, h1, h2⟩ := h
  obtain ⟨h3, h4⟩ := h2 k s hk hs
  obtain ⟨v, ps, hrun, hv⟩ := h1.look_ok Try.lawPlace Try.underlying74 (Try.zeroIntsL w) (zd := .held (.slice none 0 0)) (zp := []) rfl (keyI_is hk hs)
  obtain ⟨v', ps', hrun', hv'⟩ := h1.lookup Try.lawPlace Try.underlying74 (Try.zeroIntsL w) (zd := .held (.slice none 0 0)) (zp := []) rfl (keyI_is hk hs)
  rw [h4] at hv hv'
  simp [heldElem] at hv hv'
  rw [hrun, hrun', hv.1, hv'.1, h3]
  exact ⟨rfl, rfl⟩

set_option maxRecDepth 100000 in
theorem MkAt.store (h : MkAt w b n O) {k s : Int} (hk : I64 k) (hs : I64 s) (o : Value) (hn : n ≤ 3000000) :
    ∃ w', (Instr.mapUpdate 74 (.map (some b)) (plV k s) o).run Try.prog w = .ok () w' ∧ MkAt w' b (if (O k s).isSome then n else n + 1) (upV O k s (some o)) ∧ But b w w' := by
  obtain ⟨D, h1, h2⟩ := h
  obtain ⟨w', hrun, hown, ht⟩ := h1.store Try.lawPlace Try.underlying74 (by unfold maxLen; omega) (val := o) (d := .held o) (ps := []) (keyI_is hk hs) rfl
  have hg := ht.grown
  refine ⟨w', hrun, ⟨_, (own_exact hown).mono ?_, fun k' s' hk' hs' => ?_⟩, ⟨hg.os, hg.tape, hg.output, hg.size, fun i hi hne => hg.block i hi (by simpa using hne)⟩⟩
  · rw [size_put (h1.tidy Try.lawPlace), (h2 k s hk hs).1]
    have := h1.size_le
    split <;> omega
  · by_cases e : k' = k ∧ s' = s
    · obtain ⟨rfl, rfl⟩ := e
      rw [upV_same, has_put_same h1.isMap (keyI_lit hk hs), atKey_put_same h1.isMap (keyI_lit hk hs)]
      exact ⟨rfl, rfl⟩
    · have hne := keyI_ne hk' hs' hk hs e
      rw [upV_other _ _ e, has_put_other hne, atKey_put_other hne]
      exact h2 k' s' hk' hs'

end

end Go.Proofs.Ytmjappcjfjajmaa

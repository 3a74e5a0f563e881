/- Put of any list; alive. -/
import Derived.Test.YtckljbjnhgnkgaaPiB
namespace Go.Proofs.Ytckljbjnhgnkgaa
open Go.RowKit

theorem heap_new (w : World) (o : Obj) : (w.alloc o).heap[w.heap.size]? = some o := by
  show (w.heap.push o)[w.heap.size]? = some o
  simp
/-- THE VALUE x IS A SLICE OF THE INTS M, within its capacity. -/
def SrcC (w : World) (x : Value) (M : List Int) : Prop :=
  (M = [] ∧ (x = .slice none 0 0 ∨ ∃ ad c, x = .slice (some ad) 0 c)) ∨
    ∃ b off c, x = .slice (some ⟨b, off, none⟩) M.length c ∧ M.length ≤ c ∧ c ≤ maxLen ∧ b < w.heap.size ∧ ∀ j, j < M.length → w.cell? ⟨b, off + j, none⟩ = some (.int .i64 (M.getD j 0))
theorem SrcC.below {w w' : World} {v : Value} {L : List Int} (h : SrcC w v L) (hB : Below w.heap.size w w') : SrcC w' v L := by
  rcases h with h | ⟨b, off, c, h1, h2, h3, h4, h5⟩
  · exact Or.inl h
  · exact Or.inr ⟨b, off, c, h1, h2, h3, Nat.lt_of_lt_of_le h4 hB.size, fun j hj => (hB.cell (p := ⟨b, off + j, none⟩) h4).trans (h5 j hj)⟩
theorem SrcC.len {w : World} {v : Value} {L : List Int} (h : SrcC w v L) : ∃ a c, v = .slice a L.length c := by
  rcases h with ⟨rfl, rfl | ⟨ad, c, rfl⟩⟩ | ⟨b, off, c, rfl, _⟩
  · exact ⟨none, 0, rfl⟩
  · exact ⟨_, _, rfl⟩
  · exact ⟨_, _, rfl⟩
theorem SrcC.src {w : World} {v : Value} {L : List Int} (h : SrcC w v L) : SrcAt w v L := by
  rcases h with h | ⟨b, off, c, h1, _, _, h4, h5⟩
  · exact Or.inl h
  · exact Or.inr ⟨b, off, c, h1, h4, h5⟩
theorem SrcC.of_own {w : World} {base : Nat} {v : Value} {L : List Int} (h : w.ownsRow base 3 1 v L.length (L.map (Value.int .i64))) : SrcC w v L := by
  rcases h.2 with ⟨rfl, h0⟩ | ⟨g, cap, cur, rfl, _, hg, hn, hm, hs, ht⟩
  · exact Or.inl ⟨List.eq_nil_of_length_eq_zero h0, Or.inl rfl⟩
  · refine Or.inr ⟨g, 0, cap, rfl, hn, hm, ?_, fun j hj => ?_⟩
    · obtain ⟨hlt, _⟩ := Array.getElem?_eq_some_iff.1 hg
      exact hlt
    · have hc := h.cells (g := g) rfl j (.int .i64 (L.getD j 0)) (by simp [hj])
      rw [Go.WideShapes.add_plain] at hc
      exact hc

set_option maxHeartbeats 1000000 in
theorem put_zero (w : World) {B b : Nat} {v : Value} {R : Nat} {L : List Int} {l : Bool} {a : Option Addr} {c : Nat} (h : PiAt w B b v R L l) (ha : a = none → c = 0) :
    Calls Try.prog 9 #[.pointer (some ⟨b, 0, none⟩), .slice a 0 c] w fun e w' => e = .returned (.int .i64 0) ∧
      PutAt w w' B b v v R L l := by
  obtain ⟨a0, c0, rfl⟩ := h.len
  have hr2 := h.r2
  have hle := h.le
  obtain ⟨D, hD⟩ : ∃ D : Nat, R = L.length + D := ⟨R - L.length, by omega⟩
  have hsub : IntKind.i64.wrap ((R : Int) - (L.length : Int)) = (D : Int) := by rw [IntKind.wrap_i64]; omega
  have hc0' := h.c0
  have hc1' := h.c1
  have H : Hid (PiAt w B b (.slice a0 L.length c0) R L l) := h
  have HS : Hid (∀ q, PutAt w (w.drewN q) B b (.slice a0 L.length c0) (.slice a0 L.length c0) R L l) := fun q => ⟨h.drewN q, (Pf.refl _ _ _).drewN q, Or.inl rfl⟩
  clear h hr2 hle hD
  rcases a with _ | ad
  · obtain rfl := ha rfl
    go_enter Try.func9, Try.ntmps9
    go_wp2_with fail
    refine (ready_any _ H.out).mono ?_
    rintro e wz ⟨rfl, hwz⟩
    subst wz
    go_wp2_with fail
    go_quiet (fail)
    go_wp2_with fail
    go_loop [30] (fun i => i = .int .i64 0) (fun _ => 0)
    case atStart => rfl
    case round =>
      obtain rfl := hrel
      go_wp2_with fail
      go_ret
      exact ⟨rfl, HS.out _⟩
  · clear ha
    go_enter Try.func9, Try.ntmps9
    go_wp2_with fail
    refine (ready_any _ H.out).mono ?_
    rintro e wz ⟨rfl, hwz⟩
    subst wz
    go_wp2_with fail
    go_quiet (fail)
    go_wp2_with fail
    go_loop [30] (fun i => i = .int .i64 0) (fun _ => 0)
    case atStart => rfl
    case round =>
      obtain rfl := hrel
      go_wp2_with fail
      go_ret
      exact ⟨rfl, HS.out _⟩

theorem put_any (w : World) {B b : Nat} {v x : Value} {R K : Nat} {L M : List Int} {l : Bool} (h : PiAt w B b v R L l) (hB : B ≤ w.heap.size)
    (hx : ∀ w', Pf b v.ownBlock w w' → SrcC w' x M) (hK : min M.length (R - L.length) = K) :
    Calls Try.prog 9 #[.pointer (some ⟨b, 0, none⟩), x] w fun e w' => e = .returned (.int .i64 (K : Int)) ∧
      ∃ v', PutAt w w' B b v v' R (L ++ M.take K) (l || decide (K < M.length)) := by
  rcases hx w (Pf.refl _ _ _) with ⟨rfl, rfl | ⟨ad, c, rfl⟩⟩ | ⟨bs, off, c, rfl, h1, h2, h3, h4⟩
  · simp at hK
    subst hK
    refine (put_zero w h (fun _ => rfl)).mono ?_
    rintro e w' ⟨rfl, hp⟩
    exact ⟨rfl, v, by simpa using hp⟩
  · simp at hK
    subst hK
    refine (put_zero w h (fun e => by cases e)).mono ?_
    rintro e w' ⟨rfl, hp⟩
    exact ⟨rfl, v, by simpa using hp⟩
  · refine put_core w h hB (fun w' hf j hj => ?_) rfl h1 h2 hK
    rcases hx w' hf with ⟨rfl, _⟩ | ⟨bs', off', c', e, _, _, _, h5⟩
    · cases hj
    · cases e
      exact h5 j hj

set_option maxRecDepth 100000 in
set_option maxHeartbeats 2000000 in
theorem alive_any (w : World) :
    Calls Try.prog 6 #[] w fun e w' => e = .returned (.bool true) ∧ Below w.heap.size w w' := by
  go_enter Try.func6, Try.ntmps6
  go_wp2_with fail
  refine (pnew_any 2 2 _ (by decide)).mono ?_
  rintro e w1 ⟨rfl, h1, hB1⟩
  have H1 : Hid (PiAt w1 w.heap.size w.heap.size (.slice none 0 0) 2 [] false ∧ Below w.heap.size w w1) := ⟨h1, hB1⟩
  clear h1 hB1
  go_wp2_with fail
  have H2 : Hid (PiAt (w1.alloc (.cells #[.int .i64 5, .int .i64 6, .int .i64 7] 3)) w.heap.size w.heap.size (.slice none 0 0) 2 [] false ∧ Below w.heap.size w (w1.alloc (.cells #[.int .i64 5, .int .i64 6, .int .i64 7] 3))) := ⟨H1.out.1.alloc _, H1.out.2.alloc H1.out.2.size _⟩
  have HX : Hid (∀ w', Pf w.heap.size (Value.slice none 0 0).ownBlock (w1.alloc (.cells #[.int .i64 5, .int .i64 6, .int .i64 7] 3)) w' → SrcC w' (.slice (some ⟨w1.heap.size, 0, none⟩) 3 3) [5, 6, 7]) := by
    intro w' hf
    have hlt := H1.out.1.lt
    have e : w'.heap[w1.heap.size]? = some (.cells #[.int .i64 5, .int .i64 6, .int .i64 7] 3 (0, 0)) := (hf.block w1.heap.size (by simp) (by omega) (by simp [Value.ownBlock])).trans (heap_new _ _)
    refine Or.inr ⟨w1.heap.size, 0, 3, rfl, by decide, by decide, ?_, fun j hj => ?_⟩
    · exact Nat.lt_of_lt_of_le (by simp) hf.size
    · have : j = 0 ∨ j = 1 ∨ j = 2 := by simp at hj; omega
      rcases this with rfl | rfl | rfl <;> simp [World.cell?, e]
  generalize w1.alloc (.cells #[.int .i64 5, .int .i64 6, .int .i64 7] 3) = w2 at *
  generalize w1.heap.size = g at *
  clear H1
  refine (put_any _ H2.out.1 H2.out.2.size HX.out (K := 2) (by decide)).mono ?_
  rintro e w3 ⟨rfl, v3, h3⟩
  have H3 : Hid (PiAt w3 w.heap.size w.heap.size v3 2 ([5] ++ [6]) true ∧ Below w.heap.size w w3) := ⟨h3.at_, H2.out.2.trans (h3.fr.below (Nat.le_refl _) (fun k hk => by simp [Value.ownBlock] at hk) H2.out.2.size)⟩
  clear h3 H2 HX
  go_wp2_with fail
  refine (ptake_some _ H3.out.1).mono ?_
  rintro e w4 ⟨rfl, v4, h4, hf4, _⟩
  have H4 : Hid (PiAt w4 w.heap.size w.heap.size v4 2 [5] true ∧ Below w.heap.size w w4) := ⟨h4, H3.out.2.trans (hf4.below (Nat.le_refl _) H3.out.1.own H3.out.2.size)⟩
  clear h4 hf4 H3
  go_wp2_with fail
  refine (plost_any _ H4.out.1).mono ?_
  rintro e w5 ⟨rfl, hwz⟩
  subst w5
  go_wp2_with fail
  refine (plen_any _ H4.out.1).mono ?_
  rintro e w5 ⟨rfl, hwz⟩
  subst w5
  go_wp2_with fail
  go_ret
  exact ⟨rfl, H4.out.2⟩

end Go.Proofs.Ytckljbjnhgnkgaa

/- Instructions in memory; the walk of instr's Lay. -/
import Derived.Test.YtmjappcjfjajmaaInE
namespace Go.Proofs.Ytmjappcjfjajmaa
open Go.RowKit

theorem Try.info47 : (Try.prog.info? 47).map (fun i => (i.zero, i.size, i.bytes)) = some (some (.agg #[.int .i64 0, .int .i64 0, .int .i64 0, .int .i64 0]), 4, 32) := by kernel_rfl

def Ins.cs (i : Ins) : List Value := [.int .i64 i.o, .int .i64 i.a, .int .i64 i.b, .int .i64 i.c]
def flI (L : List Ins) : List Value := L.flatMap Ins.cs
theorem flI_len (L : List Ins) : (flI L).length = L.length * 4 := by
  induction L with
  | nil => rfl
  | cons i L ih => simp only [flI, List.flatMap_cons, List.length_append, List.length_cons] at *; rw [ih]; simp [Ins.cs]; omega
theorem flI_app (L M : List Ins) : flI (L ++ M) = flI L ++ flI M := by simp [flI]
theorem flI_one (L : List Ins) : ∀ u ∈ flI L, u.oneCell' = true := by
  intro u hu
  simp only [flI, List.mem_flatMap, Ins.cs] at hu
  obtain ⟨i, _, h⟩ := hu
  simp at h
  rcases h with rfl | rfl | rfl | rfl <;> rfl
theorem flI_at : ∀ (L : List Ins) (j : Nat) (i : Ins), L[j]? = some i → ∀ k, k < 4 → (flI L)[j * 4 + k]? = i.cs[k]?
  | [], j, i, h, k, hk => by simp at h
  | x :: L, 0, i, h, k, hk => by
    simp at h; subst h
    have : (flI (x :: L)) = x.cs ++ flI L := by simp [flI]
    rw [this, Nat.zero_mul, Nat.zero_add, List.getElem?_append_left (by simpa [Ins.cs] using hk)]
  | x :: L, j + 1, i, h, k, hk => by
    have e : (flI (x :: L)) = x.cs ++ flI L := by simp [flI]
    have hl : x.cs.length = 4 := rfl
    rw [e, List.getElem?_append_right (by rw [hl]; omega), hl]
    have := flI_at L j i (by simpa using h) k hk
    rw [← this]
    congr 1
    omega

/-- An instruction at an address. -/
def InsAt (w : World) (b off : Nat) (i : Ins) : Prop :=
  w.cell? ⟨b, off, none⟩ = some (.int .i64 i.o) ∧ w.cell? ⟨b, off + 1, none⟩ = some (.int .i64 i.a) ∧ w.cell? ⟨b, off + 2, none⟩ = some (.int .i64 i.b) ∧ w.cell? ⟨b, off + 3, none⟩ = some (.int .i64 i.c)
theorem InsAt.lt {w : World} {b off : Nat} {i : Ins} (h : InsAt w b off i) : b < w.heap.size := (cell_lt h.1).1
theorem InsAt.below {B : Nat} {w w' : World} {b off : Nat} {i : Ins} (h : InsAt w b off i) (hB : Below B w w') (hb : b < B) : InsAt w' b off i :=
  ⟨(hB.cell (p := ⟨b, off, none⟩) hb).trans h.1, (hB.cell (p := ⟨b, off + 1, none⟩) hb).trans h.2.1, (hB.cell (p := ⟨b, off + 2, none⟩) hb).trans h.2.2.1, (hB.cell (p := ⟨b, off + 3, none⟩) hb).trans h.2.2.2⟩

/-- THE VALUE v IS A SLICE OF THE INSTRUCTIONS L. -/
def SrcI (w : World) (v : Value) (L : List Ins) : Prop :=
  (L = [] ∧ (v = .slice none 0 0 ∨ ∃ ad c, v = .slice (some ad) 0 c)) ∨
    ∃ b off c, v = .slice (some ⟨b, off, none⟩) L.length c ∧ b < w.heap.size ∧ ∀ j i, L[j]? = some i → InsAt w b (off + j * 4) i
theorem SrcI.len {w : World} {v : Value} {L : List Ins} (h : SrcI w v L) : ∃ a c, v = .slice a L.length c := by
  rcases h with ⟨rfl, rfl | ⟨ad, c, rfl⟩⟩ | ⟨b, off, c, rfl, _⟩
  · exact ⟨none, 0, rfl⟩
  · exact ⟨_, _, rfl⟩
  · exact ⟨_, _, rfl⟩
theorem SrcI.below {w w' : World} {v : Value} {L : List Ins} (h : SrcI w v L) (hB : Below w.heap.size w w') : SrcI w' v L := by
  rcases h with h | ⟨b, off, c, h1, h2, h3⟩
  · exact Or.inl h
  · exact Or.inr ⟨b, off, c, h1, Nat.lt_of_lt_of_le h2 hB.size, fun j i hj => (h3 j i hj).below hB h2⟩
theorem SrcI.drewN {w : World} {v : Value} {L : List Ins} (h : SrcI w v L) (q : Nat) : SrcI (w.drewN q) v L := h
theorem srcI_of_own {w : World} {base : Nat} {v : Value} {L : List Ins} (h : w.ownsRow base 47 4 v L.length (flI L)) : SrcI w v L := by
  rcases h.2 with ⟨rfl, h0⟩ | ⟨g, cap, cur, rfl, _, hg, hn, _, hs, ht⟩
  · exact Or.inl ⟨List.eq_nil_of_length_eq_zero h0, Or.inl rfl⟩
  · refine Or.inr ⟨g, 0, cap, rfl, ?_, fun j i hj => ?_⟩
    · obtain ⟨hlt, _⟩ := Array.getElem?_eq_some_iff.1 hg
      exact hlt
    · have hc := fun k hk => h.cells (g := g) rfl (j * 4 + k) (i.cs[k]?.getD undef) (by
        rw [flI_at L j i hj k hk]
        have : k < i.cs.length := hk
        simp [this])
      have h0 := hc 0 (by decide); have h1 := hc 1 (by decide); have h2 := hc 2 (by decide); have h3 := hc 3 (by decide)
      rw [Go.WideShapes.add_plain] at h0 h1 h2 h3
      refine ⟨?_, ?_, ?_, ?_⟩
      · simpa [Ins.cs] using h0
      · simpa [Ins.cs, Nat.add_assoc] using h1
      · simpa [Ins.cs, Nat.add_assoc] using h2
      · simpa [Ins.cs, Nat.add_assoc] using h3

/-- The seven bytes of an instruction. -/
def insN (i : Ins) : List Int := [i.o % 256, i.a % 256, i.c % 256, byN i.b 0, byN i.b 1, byN i.b 2, byN i.b 3]
def layN (L : List Ins) : List Int := L.flatMap insN
def layS (L : List Ins) : ByteArray := strOfNums (layN L)
theorem layN_len (L : List Ins) : (layN L).length = 7 * L.length := by
  induction L with
  | nil => rfl
  | cons i L ih => simp only [layN, List.flatMap_cons, List.length_append, List.length_cons] at *; rw [ih]; simp [insN]; omega
theorem layN_snoc (L : List Ins) (j : Nat) (i : Ins) (h : L[j]? = some i) : layN (L.take (j + 1)) = layN (L.take j) ++ insN i := by
  have hlt := (List.getElem?_eq_some_iff.1 h).1
  have he := (List.getElem?_eq_some_iff.1 h).2
  rw [List.take_succ_eq_append_getElem hlt, he]
  simp [layN]
def layR (L : List Ins) : ByteArray := if L.all fit = true then layS L else ⟨#[]⟩
def layE (L : List Ins) : Int := if L.all fit = true then 0 else 1
theorem ret_si {s s' : ByteArray} {n n' : Int} (h : s = s') (h' : n = n') : Ending.returned (.tuple #[.string s, .int .i64 n]) = .returned (.tuple #[.string s', .int .i64 n']) := by rw [h, h']
theorem take_all {L : List Ins} {j : Nat} {i : Ins} (h : L[j]? = some i) (ha : ∀ x ∈ L.take j, fit x = true) (hi : fit i = true) : ∀ x ∈ L.take (j + 1), fit x = true := by
  have hlt := (List.getElem?_eq_some_iff.1 h).1
  have he := (List.getElem?_eq_some_iff.1 h).2
  rw [List.take_succ_eq_append_getElem hlt, he]
  intro x hx
  rcases List.mem_append.1 hx with hx | hx
  · exact ha x hx
  · simp at hx; subst hx; exact hi
theorem all_false {L : List Ins} {j : Nat} {i : Ins} (h : L[j]? = some i) (hi : fit i = false) : L.all fit = false := by
  rw [List.all_eq_false]
  exact ⟨i, List.mem_of_getElem? h, by simp [hi]⟩
theorem all_true {L : List Ins} {j : Nat} (hj : j = L.length) (ha : ∀ x ∈ L.take j, fit x = true) : L.all fit = true := by
  subst hj
  rw [List.take_length] at ha
  exact List.all_eq_true.2 ha

theorem bytes_one (L : List Int) : ∀ u ∈ L.map (Value.int .u8), u.oneCell' = true := by
  intro u hu
  obtain ⟨x, _, rfl⟩ := List.mem_map.1 hu
  rfl

end Go.Proofs.Ytmjappcjfjajmaa

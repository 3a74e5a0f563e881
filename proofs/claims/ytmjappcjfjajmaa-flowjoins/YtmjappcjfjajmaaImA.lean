/- Lists, shapes, functions and programs in memory: where they lie (under a property of blocks), and that they stay. -/
import Derived.Test.YtmjappcjfjajmaaCkT
namespace Go.Proofs.Ytmjappcjfjajmaa
open Go.RowKit

/-- Blocks of property P that were there are as they were. -/
structure Stay (P : Nat → Prop) (w w' : World) : Prop where
  size : w.heap.size ≤ w'.heap.size
  block : ∀ b, b < w.heap.size → P b → w'.heap[b]? = w.heap[b]?
theorem Stay.cell {P : Nat → Prop} {w w' : World} (h : Stay P w w') {b o : Nat} (hb : b < w.heap.size) (hP : P b) : w'.cell? ⟨b, o, none⟩ = w.cell? ⟨b, o, none⟩ := by
  unfold World.cell?
  rw [h.block b hb hP]
theorem Stay.of_below {P : Nat → Prop} {B : Nat} {w w' : World} (h : Below B w w') (hB : ∀ b, b < w.heap.size → P b → b < B) : Stay P w w' :=
  ⟨h.size, fun b hb hP => h.block b (hB b hb hP)⟩
theorem Stay.all {P : Nat → Prop} {w w' : World} (h : Below w.heap.size w w') : Stay P w w' := .of_below h fun _ hb _ => hb
abbrev Any : Nat → Prop := fun _ => True

/-- THE VALUE v IS A SLICE OF THE INTS L, in a block of property P. -/
def SrcP (P : Nat → Prop) (w : World) (v : Value) (L : List Int) : Prop :=
  (L = [] ∧ (v = .slice none 0 0 ∨ ∃ ad c, v = .slice (some ad) 0 c)) ∨
    ∃ b off c, v = .slice (some ⟨b, off, none⟩) L.length c ∧ P b ∧ b < w.heap.size ∧ ∀ j, j < L.length → w.cell? ⟨b, off + j, none⟩ = some (.int .i64 (L.getD j 0))
theorem SrcP.at_ {P : Nat → Prop} {w : World} {v : Value} {L : List Int} (h : SrcP P w v L) : SrcAt w v L := by
  rcases h with h | ⟨b, off, c, h1, _, h2, h3⟩
  · exact Or.inl h
  · exact Or.inr ⟨b, off, c, h1, h2, h3⟩
theorem SrcAt.p {w : World} {v : Value} {L : List Int} (h : SrcAt w v L) : SrcP Any w v L := by
  rcases h with h | ⟨b, off, c, h1, h2, h3⟩
  · exact Or.inl h
  · exact Or.inr ⟨b, off, c, h1, trivial, h2, h3⟩
theorem SrcP.stay {P : Nat → Prop} {w w' : World} {v : Value} {L : List Int} (h : SrcP P w v L) (hs : Stay P w w') : SrcP P w' v L := by
  rcases h with h | ⟨b, off, c, h1, hP, h2, h3⟩
  · exact Or.inl h
  · exact Or.inr ⟨b, off, c, h1, hP, Nat.lt_of_lt_of_le h2 hs.size, fun j hj => (hs.cell h2 hP).trans (h3 j hj)⟩
theorem SrcP.mono {P Q : Nat → Prop} {w : World} {v : Value} {L : List Int} (h : SrcP P w v L) (hq : ∀ b, b < w.heap.size → P b → Q b) : SrcP Q w v L := by
  rcases h with h | ⟨b, off, c, h1, hP, h2, h3⟩
  · exact Or.inl h
  · exact Or.inr ⟨b, off, c, h1, hq b h2 hP, h2, h3⟩
theorem SrcP.len {P : Nat → Prop} {w : World} {v : Value} {L : List Int} (h : SrcP P w v L) : ∃ a c, v = .slice a L.length c := h.at_.len
theorem srcP_nil (P : Nat → Prop) (w : World) : SrcP P w (.slice none 0 0) [] := Or.inl ⟨rfl, Or.inl rfl⟩

/-- THE VALUE v IS A SLICE OF THE INSTRUCTIONS L, in a block of property P. -/
def SrcJ (P : Nat → Prop) (w : World) (v : Value) (L : List Ins) : Prop :=
  (L = [] ∧ (v = .slice none 0 0 ∨ ∃ ad c, v = .slice (some ad) 0 c)) ∨
    ∃ b off c, v = .slice (some ⟨b, off, none⟩) L.length c ∧ P b ∧ b < w.heap.size ∧ ∀ j i, L[j]? = some i → InsAt w b (off + j * 4) i
theorem SrcJ.at_ {P : Nat → Prop} {w : World} {v : Value} {L : List Ins} (h : SrcJ P w v L) : SrcI w v L := by
  rcases h with h | ⟨b, off, c, h1, _, h2, h3⟩
  · exact Or.inl h
  · exact Or.inr ⟨b, off, c, h1, h2, h3⟩
theorem SrcI.p {w : World} {v : Value} {L : List Ins} (h : SrcI w v L) : SrcJ Any w v L := by
  rcases h with h | ⟨b, off, c, h1, h2, h3⟩
  · exact Or.inl h
  · exact Or.inr ⟨b, off, c, h1, trivial, h2, h3⟩
theorem InsAt.stay {P : Nat → Prop} {w w' : World} {b off : Nat} {i : Ins} (h : InsAt w b off i) (hs : Stay P w w') (hb : b < w.heap.size) (hP : P b) : InsAt w' b off i :=
  ⟨(hs.cell hb hP).trans h.1, (hs.cell hb hP).trans h.2.1, (hs.cell hb hP).trans h.2.2.1, (hs.cell hb hP).trans h.2.2.2⟩
theorem SrcJ.stay {P : Nat → Prop} {w w' : World} {v : Value} {L : List Ins} (h : SrcJ P w v L) (hs : Stay P w w') : SrcJ P w' v L := by
  rcases h with h | ⟨b, off, c, h1, hP, h2, h3⟩
  · exact Or.inl h
  · exact Or.inr ⟨b, off, c, h1, hP, Nat.lt_of_lt_of_le h2 hs.size, fun j i hj => (h3 j i hj).stay hs h2 hP⟩
theorem SrcJ.mono {P Q : Nat → Prop} {w : World} {v : Value} {L : List Ins} (h : SrcJ P w v L) (hq : ∀ b, b < w.heap.size → P b → Q b) : SrcJ Q w v L := by
  rcases h with h | ⟨b, off, c, h1, hP, h2, h3⟩
  · exact Or.inl h
  · exact Or.inr ⟨b, off, c, h1, hq b h2 hP, h2, h3⟩
theorem SrcJ.len {P : Nat → Prop} {w : World} {v : Value} {L : List Ins} (h : SrcJ P w v L) : ∃ a c, v = .slice a L.length c := h.at_.len
theorem srcJ_nil (P : Nat → Prop) (w : World) : SrcJ P w (.slice none 0 0) [] := Or.inl ⟨rfl, Or.inl rfl⟩

/-- The five cells of a function. -/
structure FnC (P : Nat → Prop) (w : World) (f : Fn) (v0 v1 v2 v3 v4 : Value) : Prop where
  args : SrcP P w v0 f.args
  res : v1 = .int .i64 f.res
  slots : v2 = .int .i64 f.slots
  objs : SrcP P w v3 f.objs
  code : SrcJ P w v4 f.code
theorem FnC.stay {P : Nat → Prop} {w w' : World} {f : Fn} {v0 v1 v2 v3 v4 : Value} (h : FnC P w f v0 v1 v2 v3 v4) (hs : Stay P w w') : FnC P w' f v0 v1 v2 v3 v4 :=
  ⟨h.args.stay hs, h.res, h.slots, h.objs.stay hs, h.code.stay hs⟩
theorem FnC.mono {P Q : Nat → Prop} {w : World} {f : Fn} {v0 v1 v2 v3 v4 : Value} (h : FnC P w f v0 v1 v2 v3 v4) (hq : ∀ b, b < w.heap.size → P b → Q b) : FnC Q w f v0 v1 v2 v3 v4 :=
  ⟨h.args.mono hq, h.res, h.slots, h.objs.mono hq, h.code.mono hq⟩

/-- At block b, from off on, lie the shapes whose fields are Ls. -/
structure SgAt (P : Nat → Prop) (w : World) (b off : Nat) (Ls : List (List Int)) : Prop where
  lt : b < w.heap.size
  pb : P b
  cell : ∀ j L, Ls[j]? = some L → ∃ v, w.cell? ⟨b, off + j, none⟩ = some v ∧ SrcP P w v L
/-- The value v is a list of the shapes Ls. -/
def SgV (P : Nat → Prop) (w : World) (v : Value) (Ls : List (List Int)) : Prop :=
  (Ls = [] ∧ ∃ a c, v = .slice a 0 c) ∨ ∃ b off c, v = .slice (some ⟨b, off, none⟩) Ls.length c ∧ SgAt P w b off Ls
/-- At block b, from off on, lie the functions Fs. -/
structure FsAt (P : Nat → Prop) (w : World) (b off : Nat) (Fs : List Fn) : Prop where
  lt : b < w.heap.size
  pb : P b
  cell : ∀ j f, Fs[j]? = some f → ∃ v0 v1 v2 v3 v4, w.cell? ⟨b, off + j * 5, none⟩ = some v0 ∧ w.cell? ⟨b, off + j * 5 + 1, none⟩ = some v1 ∧ w.cell? ⟨b, off + j * 5 + 2, none⟩ = some v2 ∧ w.cell? ⟨b, off + j * 5 + 3, none⟩ = some v3 ∧
    w.cell? ⟨b, off + j * 5 + 4, none⟩ = some v4 ∧ FnC P w f v0 v1 v2 v3 v4
/-- The value v is a list of the functions Fs. -/
def FsV (P : Nat → Prop) (w : World) (v : Value) (Fs : List Fn) : Prop :=
  (Fs = [] ∧ ∃ a c, v = .slice a 0 c) ∨ ∃ b off c, v = .slice (some ⟨b, off, none⟩) Fs.length c ∧ FsAt P w b off Fs
/-- The three values of a program. -/
structure PgV (P : Nat → Prop) (w : World) (vg vs vf : Value) (p : Pg) : Prop where
  glob : SrcP P w vg p.glob
  shapes : SgV P w vs p.shapes
  funcs : FsV P w vf p.funcs

section
variable {P Q : Nat → Prop} {w w' : World}
theorem SgAt.stay {b off : Nat} {Ls : List (List Int)} (h : SgAt P w b off Ls) (hs : Stay P w w') : SgAt P w' b off Ls :=
  ⟨Nat.lt_of_lt_of_le h.lt hs.size, h.pb, fun j L hj => by
    obtain ⟨v, h1, h2⟩ := h.cell j L hj
    exact ⟨v, (hs.cell h.lt h.pb).trans h1, h2.stay hs⟩⟩
theorem SgV.stay {v : Value} {Ls : List (List Int)} (h : SgV P w v Ls) (hs : Stay P w w') : SgV P w' v Ls := by
  rcases h with h | ⟨b, off, c, h1, h2⟩
  · exact Or.inl h
  · exact Or.inr ⟨b, off, c, h1, h2.stay hs⟩
theorem SgV.mono {v : Value} {Ls : List (List Int)} (h : SgV P w v Ls) (hq : ∀ b, b < w.heap.size → P b → Q b) : SgV Q w v Ls := by
  rcases h with h | ⟨b, off, c, h1, h2⟩
  · exact Or.inl h
  · exact Or.inr ⟨b, off, c, h1, h2.lt, hq b h2.lt h2.pb, fun j L hj => by
      obtain ⟨v, g1, g2⟩ := h2.cell j L hj
      exact ⟨v, g1, g2.mono hq⟩⟩
theorem SgV.len {v : Value} {Ls : List (List Int)} (h : SgV P w v Ls) : ∃ a c, v = .slice a Ls.length c := by
  rcases h with ⟨rfl, a, c, rfl⟩ | ⟨b, off, c, rfl, _⟩
  · exact ⟨a, c, rfl⟩
  · exact ⟨_, _, rfl⟩
theorem FsAt.stay {b off : Nat} {Fs : List Fn} (h : FsAt P w b off Fs) (hs : Stay P w w') : FsAt P w' b off Fs :=
  ⟨Nat.lt_of_lt_of_le h.lt hs.size, h.pb, fun j f hj => by
    obtain ⟨v0, v1, v2, v3, v4, h0, h1, h2, h3, h4, h5⟩ := h.cell j f hj
    exact ⟨v0, v1, v2, v3, v4, (hs.cell h.lt h.pb).trans h0, (hs.cell h.lt h.pb).trans h1, (hs.cell h.lt h.pb).trans h2, (hs.cell h.lt h.pb).trans h3, (hs.cell h.lt h.pb).trans h4, h5.stay hs⟩⟩
theorem FsV.stay {v : Value} {Fs : List Fn} (h : FsV P w v Fs) (hs : Stay P w w') : FsV P w' v Fs := by
  rcases h with h | ⟨b, off, c, h1, h2⟩
  · exact Or.inl h
  · exact Or.inr ⟨b, off, c, h1, h2.stay hs⟩
theorem FsV.mono {v : Value} {Fs : List Fn} (h : FsV P w v Fs) (hq : ∀ b, b < w.heap.size → P b → Q b) : FsV Q w v Fs := by
  rcases h with h | ⟨b, off, c, h1, h2⟩
  · exact Or.inl h
  · exact Or.inr ⟨b, off, c, h1, h2.lt, hq b h2.lt h2.pb, fun j f hj => by
      obtain ⟨v0, v1, v2, v3, v4, g0, g1, g2, g3, g4, g5⟩ := h2.cell j f hj
      exact ⟨v0, v1, v2, v3, v4, g0, g1, g2, g3, g4, g5.mono hq⟩⟩
theorem FsV.len {v : Value} {Fs : List Fn} (h : FsV P w v Fs) : ∃ a c, v = .slice a Fs.length c := by
  rcases h with ⟨rfl, a, c, rfl⟩ | ⟨b, off, c, rfl, _⟩
  · exact ⟨a, c, rfl⟩
  · exact ⟨_, _, rfl⟩
theorem PgV.stay {vg vs vf : Value} {p : Pg} (h : PgV P w vg vs vf p) (hs : Stay P w w') : PgV P w' vg vs vf p := ⟨h.glob.stay hs, h.shapes.stay hs, h.funcs.stay hs⟩
theorem PgV.mono {vg vs vf : Value} {p : Pg} (h : PgV P w vg vs vf p) (hq : ∀ b, b < w.heap.size → P b → Q b) : PgV Q w vg vs vf p := ⟨h.glob.mono hq, h.shapes.mono hq, h.funcs.mono hq⟩
theorem PgV.below {vg vs vf : Value} {p : Pg} (h : PgV P w vg vs vf p) (hB : Below w.heap.size w w') : PgV P w' vg vs vf p := h.stay (Stay.all hB)
theorem FsV.below {v : Value} {p : List Fn} (h : FsV P w v p) (hB : Below w.heap.size w w') : FsV P w' v p := h.stay (Stay.all hB)
theorem SgV.below {v : Value} {p : List (List Int)} (h : SgV P w v p) (hB : Below w.heap.size w w') : SgV P w' v p := h.stay (Stay.all hB)
theorem FnC.below {f : Fn} {v0 v1 v2 v3 v4 : Value} (h : FnC P w f v0 v1 v2 v3 v4) (hB : Below w.heap.size w w') : FnC P w' f v0 v1 v2 v3 v4 := h.stay (Stay.all hB)
theorem FnC.lens {f : Fn} {v0 v1 v2 v3 v4 : Value} (h : FnC P w f v0 v1 v2 v3 v4) : ∃ a0 c0 a3 c3 a4 c4, v0 = .slice a0 f.args.length c0 ∧ v3 = .slice a3 f.objs.length c3 ∧ v4 = .slice a4 f.code.length c4 := by
  obtain ⟨a0, c0, e0⟩ := h.args.len
  obtain ⟨a3, c3, e3⟩ := h.objs.len
  obtain ⟨a4, c4, e4⟩ := h.code.len
  exact ⟨a0, c0, a3, c3, a4, c4, e0, e3, e4⟩
/-- A shape of a list that is not empty. -/
theorem SgV.some {a : Option Addr} {n c j : Nat} {Ls : List (List Int)} {L : List Int} (h : SgV P w (.slice a n c) Ls) (hj : Ls[j]? = some L) :
    ∃ b off v, a = some ⟨b, off, none⟩ ∧ b < w.heap.size ∧ P b ∧ w.cell? ⟨b, off + j, none⟩ = some v ∧ SrcP P w v L := by
  rcases h with ⟨rfl, _⟩ | ⟨b, off, c', h1, h2⟩
  · simp at hj
  · cases h1
    obtain ⟨v, g1, g2⟩ := h2.cell j L hj
    exact ⟨b, off, v, rfl, h2.lt, h2.pb, g1, g2⟩
theorem FsV.some {a : Option Addr} {n c j : Nat} {Fs : List Fn} {f : Fn} (h : FsV P w (.slice a n c) Fs) (hj : Fs[j]? = some f) :
    ∃ b off v0 v1 v2 v3 v4, a = some ⟨b, off, none⟩ ∧ b < w.heap.size ∧ P b ∧ w.cell? ⟨b, off + j * 5, none⟩ = some v0 ∧ w.cell? ⟨b, off + j * 5 + 1, none⟩ = some v1 ∧ w.cell? ⟨b, off + j * 5 + 2, none⟩ = some v2 ∧ w.cell? ⟨b, off + j * 5 + 3, none⟩ = some v3 ∧
    w.cell? ⟨b, off + j * 5 + 4, none⟩ = some v4 ∧ FnC P w f v0 v1 v2 v3 v4 := by
  rcases h with ⟨rfl, _⟩ | ⟨b, off, c', h1, h2⟩
  · simp at hj
  · cases h1
    obtain ⟨v0, v1, v2, v3, v4, g⟩ := h2.cell j f hj
    exact ⟨b, off, v0, v1, v2, v3, v4, rfl, h2.lt, h2.pb, g⟩
theorem SrcP.some {a : Option Addr} {n c j : Nat} {L : List Int} (h : SrcP P w (.slice a n c) L) (hj : j < L.length) : ∃ b off, a = some ⟨b, off, none⟩ ∧ b < w.heap.size ∧ P b ∧ w.cell? ⟨b, off + j, none⟩ = some (.int .i64 (L.getD j 0)) := by
  rcases h with ⟨rfl, _⟩ | ⟨b, off, c', h1, hP, h2, h3⟩
  · simp at hj
  · cases h1
    exact ⟨b, off, rfl, h2, hP, h3 j hj⟩
end

/-! ### How much there is -/
def szF (f : Fn) : Nat := f.args.length + f.objs.length + f.code.length
def szS (Ls : List (List Int)) : Nat := (Ls.map List.length).sum
def szFs (Fs : List Fn) : Nat := (Fs.map szF).sum
def szP (p : Pg) : Nat := p.glob.length + p.shapes.length + p.funcs.length + szS p.shapes + szFs p.funcs
theorem szS_take {Ls : List (List Int)} {j : Nat} {L : List Int} (h : Ls[j]? = some L) : szS (Ls.take (j + 1)) = szS (Ls.take j) + L.length := by
  obtain ⟨hlt, he⟩ := List.getElem?_eq_some_iff.1 h
  rw [List.take_succ_eq_append_getElem hlt, he]
  simp [szS]
theorem szFs_take {Fs : List Fn} {j : Nat} {f : Fn} (h : Fs[j]? = some f) : szFs (Fs.take (j + 1)) = szFs (Fs.take j) + szF f := by
  obtain ⟨hlt, he⟩ := List.getElem?_eq_some_iff.1 h
  rw [List.take_succ_eq_append_getElem hlt, he]
  simp [szFs]
theorem szS_le (Ls : List (List Int)) (j : Nat) : szS (Ls.take j) ≤ szS Ls := by
  have : szS (Ls.take j ++ Ls.drop j) = szS (Ls.take j) + szS (Ls.drop j) := by simp only [szS, List.map_append, List.sum_append]
  rw [List.take_append_drop] at this
  omega
theorem szFs_le (Fs : List Fn) (j : Nat) : szFs (Fs.take j) ≤ szFs Fs := by
  have : szFs (Fs.take j ++ Fs.drop j) = szFs (Fs.take j) + szFs (Fs.drop j) := by simp only [szFs, List.map_append, List.sum_append]
  rw [List.take_append_drop] at this
  omega
theorem szS_mem {Ls : List (List Int)} {j : Nat} {L : List Int} (h : Ls[j]? = some L) : L.length ≤ szS Ls := by
  have h1 := szS_take h
  have h2 := szS_le Ls (j + 1)
  omega
theorem szFs_mem {Fs : List Fn} {j : Nat} {f : Fn} (h : Fs[j]? = some f) : szF f ≤ szFs Fs := by
  have h1 := szFs_take h
  have h2 := szFs_le Fs (j + 1)
  omega

end Go.Proofs.Ytmjappcjfjajmaa

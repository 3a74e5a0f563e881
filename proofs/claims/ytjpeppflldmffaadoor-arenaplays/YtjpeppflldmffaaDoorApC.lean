/- ArenaPlays: the model as it is made. -/
import Derived.Test.YtjpeppflldmffaaDoorApB
import Derived.Deep.DeepCutAuto
namespace Go.Proofs.YtjpeppflldmffaaDoor
open Go.RowKit

theorem Tryd.info43 : (Tryd.prog.info? 43).map (fun i => (i.zero, i.size, i.bytes)) = some (some (.slice none 0 0), 1, 24) := by kernel_rfl

/-- The model in the making: the first k classes are -1. -/
structure MdZ (w : World) (B m c u v n k : Nat) : Prop where
  hd : w.rowIs m 30 3 (mdC c u v n)
  cl : w.rowIs c 3 n (fun j => .int .i64 (if j < k then -1 else 0))
  us : w.rowIs u 43 n (fun _ => .slice none 0 0)
  wd : w.rowIs v 3 (32 * n) (fun _ => .int .i64 0)
  b0 : B ≤ m
  b1 : B ≤ c
  b2 : B ≤ u
  b3 : B ≤ v
  ne : c ≠ v
theorem MdZ.set {w : World} {B m c u v n k : Nat} (h : MdZ w B m c u v n k) : MdZ (w.setCell ⟨c, k, none⟩ (.int .i64 (-1))) B m c u v n (k + 1) := by
  have g : But c w (w.setCell ⟨c, k, none⟩ (.int .i64 (-1))) := (But.refl _ _).setCell k _
  have t := Ty.of_but (B := 0) g h.cl (Nat.zero_le _)
  refine ⟨t.row h.hd (by decide), (h.cl.set k _).congr fun i _ => ?_, t.row h.us (by decide), g.row h.wd (fun e => h.ne e.symm), h.b0, h.b1, h.b2, h.b3, h.ne⟩
  by_cases e : i = k
  · subst e; simp
  · rw [if_neg e]
    have : (i < k + 1) = (i < k) := by simp; omega
    simp [this]
theorem MdZ.md {w : World} {B m c u v n : Nat} (h : MdZ w B m c u v n n) (hn : n ≤ 64) : MdAt w B m c u v n (fun _ => none) (fun _ => 0) (fun _ => 0) :=
  ⟨h.hd, h.cl.congr fun i hi => by simp [hi, clsO], h.us, h.wd, fun k p e => (by cases e), fun k k' p p' e => (by cases e), fun _ _ => rfl, fun k p e => (by cases e), hn, h.b0, h.b1, h.b2, h.b3, fun k p e => (by cases e)⟩
/-- Three new rows, and the model made of them. -/
theorem md_made {w1 : World} {B c u v n M : Nat} (hM : M = 32 * n) (hB : B ≤ w1.heap.size) (h1 : B ≤ c) (h2 : B ≤ u) (h3 : B ≤ v) (hne : c ≠ v)
    (r1 : w1.rowIs c 3 n (fun _ => .int .i64 0)) (r2 : w1.rowIs u 43 n (fun _ => .slice none 0 0)) (r3 : w1.rowIs v 3 M (fun _ => .int .i64 0)) :
    MdZ (w1.alloc (.cells #[.slice (some ⟨c, 0, none⟩) n n, .slice (some ⟨u, 0, none⟩) n n, .slice (some ⟨v, 0, none⟩) M M] 30)) B w1.heap.size c u v n 0 := by
  subst hM
  refine ⟨?_, (r1.alloc _).congr fun i _ => by simp, r2.alloc _, r3.alloc _, hB, h1, h2, h3, hne⟩
  exact World.rowIs_alloc w1 #[.slice (some ⟨c, 0, none⟩) n n, .slice (some ⟨u, 0, none⟩) n n, .slice (some ⟨v, 0, none⟩) (32 * n) (32 * n)] 30 (mdC c u v n) (fun i hi => by
    have : i = 0 ∨ i = 1 ∨ i = 2 := by simp at hi; omega
    rcases this with rfl | rfl | rfl <;> rfl)

abbrev oC (n : Nat) : Obj := .cells (madeCells #[.int .i64 0] n) 3
abbrev oU (n : Nat) : Obj := .cells (madeCells #[.slice none 0 0] n) 43
theorem three {w : World} (o1 o2 o3 : Obj) : ((w.alloc o1).alloc o2).heap.size = w.heap.size + 2 ∧ (w.alloc o1).heap.size = w.heap.size + 1 ∧ (((w.alloc o1).alloc o2).alloc o3).drew.heap.size = w.heap.size + 3 ∧ Below w.heap.size w (((w.alloc o1).alloc o2).alloc o3).drew :=
  ⟨by simp, by simp, by simp, below_drew ((((Below.refl _ _).alloc (Nat.le_refl _) o1).alloc (by simp) o2).alloc (by simp; omega) o3)⟩
/-- What the model's making comes to. -/
def MdMade (w wk : World) (m c u v n : Nat) : Prop := MdZ wk w.heap.size m c u v n 0 ∧ Below w.heap.size w wk ∧ m < wk.heap.size ∧ c < wk.heap.size ∧ u < wk.heap.size ∧ v < wk.heap.size
section
variable (w : World) (n M : Nat) (hM : M = 32 * n)
include hM
theorem made_fin {w1 : World} {c u v : Nat} (h1 : w.heap.size ≤ c) (h2 : w.heap.size ≤ u) (h3 : w.heap.size ≤ v) (hne : c ≠ v) (hs : w1.heap.size = w.heap.size + 3) (hB : Below w.heap.size w w1)
    (r1 : w1.rowIs c 3 n (fun _ => .int .i64 0)) (r2 : w1.rowIs u 43 n (fun _ => .slice none 0 0)) (r3 : w1.rowIs v 3 M (fun _ => .int .i64 0)) :
    MdMade w (w1.alloc (.cells #[.slice (some ⟨c, 0, none⟩) n n, .slice (some ⟨u, 0, none⟩) n n, .slice (some ⟨v, 0, none⟩) M M] 30)) (w.heap.size + 3) c u v n := by
  have hz := md_made hM (B := w.heap.size) (by omega) h1 h2 h3 hne r1 r2 r3
  rw [hs] at hz
  exact ⟨hz, hB.alloc (by omega) _, hz.hd.lt, hz.cl.lt, hz.us.lt, hz.wd.lt⟩
theorem made_cuv : MdMade w ((((w.alloc (oC n)).alloc (oU n)).alloc (oC M)).drew.alloc (.cells #[.slice (some ⟨w.heap.size, 0, none⟩) n n, .slice (some ⟨w.heap.size + 1, 0, none⟩) n n, .slice (some ⟨w.heap.size + 2, 0, none⟩) M M] 30)) (w.heap.size + 3) w.heap.size (w.heap.size + 1) (w.heap.size + 2) n := by
  obtain ⟨e2, e1, e3, hB⟩ := three (w := w) (oC n) (oU n) (oC M)
  have r1 := World.rowIs_made w (.int .i64 0) n 3
  have r2 := World.rowIs_made (w.alloc (oC n)) (.slice none 0 0) n 43
  have r3 := World.rowIs_made ((w.alloc (oC n)).alloc (oU n)) (.int .i64 0) M 3
  rw [e1] at r2; rw [e2] at r3
  exact made_fin w n M hM (Nat.le_refl _) (by omega) (by omega) (by omega) e3 hB ((r1.alloc _).alloc _) (r2.alloc _) r3
theorem made_cvu : MdMade w ((((w.alloc (oC n)).alloc (oC M)).alloc (oU n)).drew.alloc (.cells #[.slice (some ⟨w.heap.size, 0, none⟩) n n, .slice (some ⟨w.heap.size + 2, 0, none⟩) n n, .slice (some ⟨w.heap.size + 1, 0, none⟩) M M] 30)) (w.heap.size + 3) w.heap.size (w.heap.size + 2) (w.heap.size + 1) n := by
  obtain ⟨e2, e1, e3, hB⟩ := three (w := w) (oC n) (oC M) (oU n)
  have r1 := World.rowIs_made w (.int .i64 0) n 3
  have r2 := World.rowIs_made (w.alloc (oC n)) (.int .i64 0) M 3
  have r3 := World.rowIs_made ((w.alloc (oC n)).alloc (oC M)) (.slice none 0 0) n 43
  rw [e1] at r2; rw [e2] at r3
  exact made_fin w n M hM (Nat.le_refl _) (by omega) (by omega) (by omega) e3 hB ((r1.alloc _).alloc _) r3 (r2.alloc _)
theorem made_ucv : MdMade w ((((w.alloc (oU n)).alloc (oC n)).alloc (oC M)).drew.alloc (.cells #[.slice (some ⟨w.heap.size + 1, 0, none⟩) n n, .slice (some ⟨w.heap.size, 0, none⟩) n n, .slice (some ⟨w.heap.size + 2, 0, none⟩) M M] 30)) (w.heap.size + 3) (w.heap.size + 1) w.heap.size (w.heap.size + 2) n := by
  obtain ⟨e2, e1, e3, hB⟩ := three (w := w) (oU n) (oC n) (oC M)
  have r1 := World.rowIs_made w (.slice none 0 0) n 43
  have r2 := World.rowIs_made (w.alloc (oU n)) (.int .i64 0) n 3
  have r3 := World.rowIs_made ((w.alloc (oU n)).alloc (oC n)) (.int .i64 0) M 3
  rw [e1] at r2; rw [e2] at r3
  exact made_fin w n M hM (by omega) (Nat.le_refl _) (by omega) (by omega) e3 hB (r2.alloc _) ((r1.alloc _).alloc _) r3
theorem made_uvc : MdMade w ((((w.alloc (oU n)).alloc (oC M)).alloc (oC n)).drew.alloc (.cells #[.slice (some ⟨w.heap.size + 2, 0, none⟩) n n, .slice (some ⟨w.heap.size, 0, none⟩) n n, .slice (some ⟨w.heap.size + 1, 0, none⟩) M M] 30)) (w.heap.size + 3) (w.heap.size + 2) w.heap.size (w.heap.size + 1) n := by
  obtain ⟨e2, e1, e3, hB⟩ := three (w := w) (oU n) (oC M) (oC n)
  have r1 := World.rowIs_made w (.slice none 0 0) n 43
  have r2 := World.rowIs_made (w.alloc (oU n)) (.int .i64 0) M 3
  have r3 := World.rowIs_made ((w.alloc (oU n)).alloc (oC M)) (.int .i64 0) n 3
  rw [e1] at r2; rw [e2] at r3
  exact made_fin w n M hM (by omega) (Nat.le_refl _) (by omega) (by omega) e3 hB r3 ((r1.alloc _).alloc _) (r2.alloc _)
theorem made_vcu : MdMade w ((((w.alloc (oC M)).alloc (oC n)).alloc (oU n)).drew.alloc (.cells #[.slice (some ⟨w.heap.size + 1, 0, none⟩) n n, .slice (some ⟨w.heap.size + 2, 0, none⟩) n n, .slice (some ⟨w.heap.size, 0, none⟩) M M] 30)) (w.heap.size + 3) (w.heap.size + 1) (w.heap.size + 2) w.heap.size n := by
  obtain ⟨e2, e1, e3, hB⟩ := three (w := w) (oC M) (oC n) (oU n)
  have r1 := World.rowIs_made w (.int .i64 0) M 3
  have r2 := World.rowIs_made (w.alloc (oC M)) (.int .i64 0) n 3
  have r3 := World.rowIs_made ((w.alloc (oC M)).alloc (oC n)) (.slice none 0 0) n 43
  rw [e1] at r2; rw [e2] at r3
  exact made_fin w n M hM (by omega) (by omega) (Nat.le_refl _) (by omega) e3 hB (r2.alloc _) r3 ((r1.alloc _).alloc _)
theorem made_vuc : MdMade w ((((w.alloc (oC M)).alloc (oU n)).alloc (oC n)).drew.alloc (.cells #[.slice (some ⟨w.heap.size + 2, 0, none⟩) n n, .slice (some ⟨w.heap.size + 1, 0, none⟩) n n, .slice (some ⟨w.heap.size, 0, none⟩) M M] 30)) (w.heap.size + 3) (w.heap.size + 2) (w.heap.size + 1) w.heap.size n := by
  obtain ⟨e2, e1, e3, hB⟩ := three (w := w) (oC M) (oU n) (oC n)
  have r1 := World.rowIs_made w (.int .i64 0) M 3
  have r2 := World.rowIs_made (w.alloc (oC M)) (.slice none 0 0) n 43
  have r3 := World.rowIs_made ((w.alloc (oC M)).alloc (oU n)) (.int .i64 0) n 3
  rw [e1] at r2; rw [e2] at r3
  exact made_fin w n M hM (by omega) (by omega) (Nat.le_refl _) (by omega) e3 hB r3 (r2.alloc _) ((r1.alloc _).alloc _)
end

/-- The state of memory ahead of the first round: the Arena and the model are new. -/
theorem ro_start {w w2 w3 : World} {ba bp bw bm bc bu bv n : Nat} (h : AS w w2 ba bp bw n (fun _ => none) (fun _ => 0)) (hz : MdZ w3 w.heap.size bm bc bu bv n n) (hf : Below w2.heap.size w2 w3) (hc : w2.heap.size ≤ bc) (hv : w2.heap.size ≤ bv) (hn : n ≤ 8) :
    RO w (w3.alloc (.cells #[.slice none 0 0, .slice none 0 0, .slice none 0 0, .slice none 0 0, .slice none 0 0, .slice none 0 0, .slice none 0 0, .slice none 0 0, .slice none 0 0, .slice none 0 0] 38)) ⟨ba, bp, bw, bm, bc, bu, bv, w3.heap.size, w3.heap.size, n⟩ (fun _ => none) (fun _ => 0) (fun _ => none) (fun _ => 0) := by
  have h3 := h.below hf
  have hb3 : Below w3.heap.size w3 (w3.alloc (.cells #[.slice none 0 0, .slice none 0 0, .slice none 0 0, .slice none 0 0, .slice none 0 0, .slice none 0 0, .slice none 0 0, .slice none 0 0, .slice none 0 0, .slice none 0 0] 38)) := (Below.refl _ _).alloc (Nat.le_refl _) _
  have hm := (hz.md (by omega)).fix (Fix.of_below (B := 0) (X := []) (K := []) hb3) (by simp) (by simp) (by simp) (by simp) (by simp) (by simp) (by simp) (by simp) (by simp)
  have e1 := h.ar.wo.lt
  exact ⟨(h3.below hb3).ar, ⟨_, hm⟩, book_new w3 _ (Nat.le_refl _), (h3.below hb3).lo, h.t0, Nat.ne_of_lt (Nat.lt_of_lt_of_le e1 hc), Nat.ne_of_lt (Nat.lt_of_lt_of_le e1 hv), hz.ne, h3.ar.pr.lt, h3.ar.wo.lt, hz.cl.lt, hz.wd.lt, hz.us.lt, h3.lo.size, by simp, hn⟩

end Go.Proofs.YtjpeppflldmffaaDoor

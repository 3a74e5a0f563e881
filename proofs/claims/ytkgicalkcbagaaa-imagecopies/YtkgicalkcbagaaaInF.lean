/- Instructions in memory; the walk of instr's Lay. -/
import Derived.Test.YtkgicalkcbagaaaInE
namespace Go.Proofs.Ytkgicalkcbagaaa
open Go.RowKit

theorem Try.info47 : (Try.prog.info? 47).map (fun i => (i.zero, i.size, i.bytes)) = some (some (.agg #[.int .i64 0, .int .i64 0, .int .i64 0, .int .i64 0]), 4, 32) := by kernel_rfl

def Ins.cs (i : Ins) : List Value := [.int .i64 i.o, .int .i64 i.a, .int .i64 i.b, .int .i64 i.c]
def flI (L : List Ins) : List Value := L.flatMap Ins.cs
theorem flI_len (L : List Ins) : (flI L).length = L.length * 4 := by
  induction L with
  | nil => rfl
  | cons i L ih => simp only [flI, List.flatMap_cons, List.length_append, List.length_cons] at *; rw [ih]; simp [Ins.cs]; omega
theorem flI_app (L M : List Ins) : flI (L ++ M) = flI L ++ flI M := by simp [flI]
theorem flI_one (L : List Ins) : ∀ u ∈ flI L, u.oneCell' = true := by
  intro u hu
  simp only [flI, List.mem_flatMap, Ins.cs] at hu
  obtain ⟨i, _, h⟩ := hu
  simp at h
  rcases h with rfl | rfl | rfl | rfl <;> rfl
theorem flI_at : ∀ (L : List Ins) (j : Nat) (i : Ins), L[j]? = some i → ∀ k, k < 4 → (flI L)[j * 4 + k]? = i.cs[k]?
  | [], j, i, h, k, hk => by simp at h
  | x :: L, 0, i, h, k, hk => by
    simp at h; subst h
    have : (flI (x :: L)) = x.cs ++ flI L := by simp [flI]
    rw [this, Nat.zero_mul, Nat.zero_add, List.getElem?_append_left (by simpa [Ins.cs] using hk)]
  | x :: L, j + 1, i, h, k, hk => by
    have e : (flI (x :: L)) = x.cs ++ flI L := by simp [flI]
    have hl : x.cs.length = 4 := rfl
    rw [e, List.getElem?_append_right (by rw [hl]; omega), hl]
    have := flI_at L j i (by simpa using h) k hk
    rw [← this]
    congr 1
    omega

/-- An instruction at an address. -/
def InsAt (w : World) (b off : Nat) (i : Ins) : Prop :=
  w.cell? ⟨b, off, none⟩ = some (.int .i64 i.o) ∧ w.cell? ⟨b, off + 1, none⟩ = some (.int .i64 i.a) ∧ w.cell? ⟨b, off + 2, none⟩ = some (.int .i64 i.b) ∧ w.cell? ⟨b, off + 3, none⟩ = some (.int .i64 i.c)
theorem InsAt.lt {w : World} {b off : Nat} {i : Ins} (h : InsAt w b off i) : b < w.heap.size := (cell_lt h.1).1
theorem InsAt.below {B : Nat} {w w' : World} {b off : Nat} {i : Ins} (h : InsAt w b off i) (hB : Below B w w') (hb : b < B) : InsAt w' b off i :=
  ⟨(hB.cell (p := ⟨b, off, none⟩) hb).trans h.1, (hB.cell (p := ⟨b, off + 1, none⟩) hb).trans h.2.1, (hB.cell (p := ⟨b, off + 2, none⟩) hb).trans h.2.2.1, (hB.cell (p := ⟨b, off + 3, none⟩) hb).trans h.2.2.2⟩

/-- THE VALUE v IS A SLICE OF THE INSTRUCTIONS L. -/
def SrcI (w : World) (v : Value) (L : List Ins) : Prop :=
  (L = [] ∧ (v = .slice none 0 0 ∨ ∃ ad c, v = .slice (some ad) 0 c)) ∨
    ∃ b off c, v = .slice (some ⟨b, off, none⟩) L.length c ∧ b < w.heap.size ∧ ∀ j i, L[j]? = some i → InsAt w b (off + j * 4) i
theorem SrcI.len {w : World} {v : Value} {L : List Ins} (h : SrcI w v L) : ∃ a c, v = .slice a L.length c := by
  rcases h with ⟨rfl, rfl | ⟨ad, c, rfl⟩⟩ | ⟨b, off, c, rfl, _⟩
  · exact ⟨none, 0, rfl⟩
  · exact ⟨_, _, rfl⟩
  · exact ⟨_, _, rfl⟩
theorem SrcI.below {w w' : World} {v : Value} {L : List Ins} (h : SrcI w v L) (hB : Below w.heap.size w w') : SrcI w' v L := by
  rcases h with h | ⟨b, off, c, h1, h2, h3⟩
  · exact Or.inl h
  · exact Or.inr ⟨b, off, c, h1, Nat.lt_of_lt_of_le h2 hB.size, fun j i hj => (h3 j i hj).below hB h2⟩
theorem SrcI.drewN {w : World} {v : Value} {L : List Ins} (h : SrcI w v L) (q : Nat) : SrcI (w.drewN q) v L := h
theorem srcI_of_own {w : World} {base : Nat} {v : Value} {L : List Ins} (h : w.ownsRow base 47 4 v L.length (flI L)) : SrcI w v L := by
  rcases h.2 with ⟨rfl, h0⟩ | ⟨g, cap, cur, rfl, _, hg, hn, _, hs, ht⟩
  · exact Or.inl ⟨List.eq_nil_of_length_eq_zero h0, Or.inl rfl⟩
  · refine Or.inr ⟨g, 0, cap, rfl, ?_, fun j i hj => ?_⟩
    · obtain ⟨hlt, _⟩ := Array.getElem?_eq_some_iff.1 hg
      exact hlt
    · have hc := fun k hk => h.cells (g := g) rfl (j * 4 + k) (i.cs[k]?.getD undef) (by
        rw [flI_at L j i hj k hk]
        have : k < i.cs.length := hk
        simp [this])
      have h0 := hc 0 (by decide); have h1 := hc 1 (by decide); have h2 := hc 2 (by decide); have h3 := hc 3 (by decide)
      rw [Go.WideShapes.add_plain] at h0 h1 h2 h3
      refine ⟨?_, ?_, ?_, ?_⟩
      · simpa [Ins.cs] using h0
      · simpa [Ins.cs, Nat.add_assoc] using h1
      · simpa [Ins.cs, Nat.add_assoc] using h2
      · simpa [Ins.cs, Nat.add_assoc] using h3

/-- The seven bytes of an instruction. -/
def insN (i : Ins) : List Int := [i.o % 256, i.a % 256, i.c % 256, byN i.b 0, byN i.b 1, byN i.b 2, byN i.b 3]
def layN (L : List Ins) : List Int := L.flatMap insN
def layS (L : List Ins) : ByteArray := strOfNums (layN L)
theorem layN_len (L : List Ins) : (layN L).length = 7 * L.length := by
  induction L with
  | nil => rfl
  | cons i L ih => simp only [layN, List.flatMap_cons, List.length_append, List.length_cons] at *; rw [ih]; simp [insN]; omega
theorem layN_snoc (L : List Ins) (j : Nat) (i : Ins) (h : L[j]? = some i) : layN (L.take (j + 1)) = layN (L.take j) ++ insN i := by
  have hlt := (List.getElem?_eq_some_iff.1 h).1
  have he := (List.getElem?_eq_some_iff.1 h).2
  rw [List.take_succ_eq_append_getElem hlt, he]
  simp [layN]
def layR (L : List Ins) : ByteArray := if L.all fit = true then layS L else ⟨#[]⟩
def layE (L : List Ins) : Int := if L.all fit = true then 0 else 1
theorem ret_si {s s' : ByteArray} {n n' : Int} (h : s = s') (h' : n = n') : Ending.returned (.tuple #[.string s, .int .i64 n]) = .returned (.tuple #[.string s', .int .i64 n']) := by rw [h, h']
theorem take_all {L : List Ins} {j : Nat} {i : Ins} (h : L[j]? = some i) (ha : ∀ x ∈ L.take j, fit x = true) (hi : fit i = true) : ∀ x ∈ L.take (j + 1), fit x = true := by
  have hlt := (List.getElem?_eq_some_iff.1 h).1
  have he := (List.getElem?_eq_some_iff.1 h).2
  rw [List.take_succ_eq_append_getElem hlt, he]
  intro x hx
  rcases List.mem_append.1 hx with hx | hx
  · exact ha x hx
  · simp at hx; subst hx; exact hi
theorem all_false {L : List Ins} {j : Nat} {i : Ins} (h : L[j]? = some i) (hi : fit i = false) : L.all fit = false := by
  rw [List.all_eq_false]
  exact ⟨i, List.mem_of_getElem? h, by simp [hi]⟩
theorem all_true {L : List Ins} {j : Nat} (hj : j = L.length) (ha : ∀ x ∈ L.take j, fit x = true) : L.all fit = true := by
  subst hj
  rw [List.take_length] at ha
  exact List.all_eq_true.2 ha

theorem bytes_one (L : List Int) : ∀ u ∈ L.map (Value.int .u8), u.oneCell' = true := by
  intro u hu
  obtain ⟨x, _, rfl⟩ := List.mem_map.1 hu
  rfl

theorem mk_bytes (w : World) (n : Nat) (hn : n ≤ 1000) : ∃ w1, (Instr.makeSlice 50 (.int .i64 0) (.int .i64 ((n : Int) * 7))).run Try.prog w = .ok (.slice (some ⟨w.heap.size, 0, none⟩) 0 (n * 7)) w1 ∧
    w1.ownsRow w.heap.size 5 1 (.slice (some ⟨w.heap.size, 0, none⟩) 0 (n * 7)) 0 [] ∧ Below w.heap.size w w1 := by
  obtain ⟨i0, hi, hz0, hz1, hz2⟩ := info_parts Try.info5
  obtain ⟨w1, h1, h2, h3⟩ := run_make_own (P := Try.prog) w w.heap.size 50 5 i0 (.int .u8 0) 1 Try.underlying50 hi hz0 hz1 .i64 .i64 (n * 7) (by rw [hz2]; omega) (by unfold maxLen; omega) (Nat.le_refl _)
  rw [show ((n * 7 : Nat) : Int) = (n : Int) * 7 from by simp] at h1
  exact ⟨w1, h1, h2, (Below.refl _ _).grown h3 (Nat.le_refl _) (fun k hk => by simp at hk)⟩
theorem str_bytes {w : World} {base g n cap : Nat} {M : List Int} (h : w.ownsRow base 5 1 (.slice (some ⟨g, 0, none⟩) n cap) n (M.map (Value.int .u8))) :
    (convert 50 9 (.slice (some ⟨g, 0, none⟩) n cap)).run Try.prog w = .ok (.string (strOfNums M)) w := by
  have hl : M.length = n := by have := h.1; simpa using this
  refine run_convert_bytes_arg w 50 5 Try.underlying50 Try.under8 g 0 n cap M hl (fun i hi => ?_) 9 (by kernel_rfl)
  have hc := h.cells (g := g) rfl i (.int .u8 (M.getD i 0)) (by simp [hl, hi])
  rwa [Go.WideShapes.add_plain] at hc

set_option maxRecDepth 100000 in
theorem lay_zero (a : Option Addr) (c : Nat) (w : World) : Calls Try.prog 44 #[.slice a 0 c] w fun e w' => e = .returned (.tuple #[.string (layS []), .int .i64 0]) ∧ Below w.heap.size w w' := by
  obtain ⟨w1, hmk, hown, hB⟩ := mk_bytes w 0 (by decide)
  have hmk' : (Instr.makeSlice 50 (.int .i64 0) (.int .i64 0)).run Try.prog w = .ok (.slice (some ⟨w.heap.size, 0, none⟩) 0 0) w1 := by simpa using hmk
  have hcv : (convert 50 9 (.slice (some ⟨w.heap.size, 0, none⟩) 0 0)).run Try.prog w1 = .ok (.string (layS [])) w1 := str_bytes (M := []) hown
  generalize layS [] = S at *
  have HB : Hid (Below w.heap.size w w1) := hB
  clear hmk hown hB
  go_enter Try.func44, Try.ntmps44
  go_wp2_with fail
  go_loop [4, 13] (fun v i => v = .slice (some ⟨w.heap.size, 0, none⟩) 0 0 ∧ i = .int .i64 0) (fun _ _ => 0)
  case atStart => exact ⟨rfl, rfl⟩
  case round =>
    obtain ⟨rfl, rfl⟩ := hrel
    go_wp2_with fail
    go_ret2
    exact ⟨rfl, HB.out⟩

set_option maxRecDepth 100000 in
set_option maxHeartbeats 2000000 in
theorem lay_core (L : List Ins) (b off c : Nat) (w : World) (hlen : L.length ≤ 1000) (hlt : b < w.heap.size) (h : ∀ j i, L[j]? = some i → InsAt w b (off + j * 4) i) :
    Calls Try.prog 44 #[.slice (some ⟨b, off, none⟩) L.length c] w fun e w' => e = .returned (.tuple #[.string (layR L), .int .i64 (layE L)]) ∧ Below w.heap.size w w' := by
  obtain ⟨i0, hi, hz0, hz1, hz2⟩ := info_parts Try.info5
  obtain ⟨w1, hmk, hown, hB⟩ := mk_bytes w L.length hlen
  have HS : Hid (∀ j i, L[j]? = some i → InsAt w b (off + j * 4) i) := h
  have HB1 : Hid (Below w.heap.size w w1) := hB
  have HO1 : Hid (w1.ownsRow w.heap.size 5 1 (.slice (some ⟨w.heap.size, 0, none⟩) 0 (L.length * 7)) 0 []) := hown
  clear h hB hown
  go_enter Try.func44, Try.ntmps44
  go_wp2_with fail
  clear hmk
  go_loopw [4, 13] (fun v k wr => ∃ j n g cap : Nat, j ≤ L.length ∧ n = 7 * j ∧ k = .int .i64 j ∧ v = .slice (some ⟨g, 0, none⟩) n cap ∧ wr.ownsRow w.heap.size 5 1 (.slice (some ⟨g, 0, none⟩) n cap) n ((layN (L.take j)).map (Value.int .u8)) ∧ (∀ x ∈ L.take j, fit x = true) ∧ Below w.heap.size w wr) (fun _ k _ => L.length - (intOf k).toNat)
  case atStart => exact ⟨0, 0, _, _, Nat.zero_le _, rfl, rfl, rfl, HO1.out, fun x hx => by simp at hx, HB1.out⟩
  case round =>
    obtain ⟨j, n, g, cap, hj, hn, rfl, rfl, hown, hall, hB⟩ := hrel
    clear HO1 HB1
    have HA : Hid (∀ x ∈ L.take j, fit x = true) := hall
    have HO : Hid (wr.ownsRow w.heap.size 5 1 (.slice (some ⟨g, 0, none⟩) n cap) n ((layN (L.take j)).map (Value.int .u8))) := hown
    have HB : Hid (Below w.heap.size w wr) := hB
    have HN : Hid (n = 7 * j) := hn
    clear hall hown hB hn
    by_cases hjl : j < L.length
    · obtain ⟨i, hi'⟩ : ∃ i, L[j]? = some i := ⟨_, List.getElem?_eq_getElem hjl⟩
      have HI : Hid (L[j]? = some i) := hi'
      have hia := (HS.out j i hi').below HB.out hlt
      obtain ⟨c0, c1, c2, c3⟩ := hia
      have hjI : (j : Int) < (L.length : Int) := by omega
      clear hi'
      have HBX : Hid ((wr.alloc (.cells #[.int .i64 i.o, .int .i64 i.a, .int .i64 i.b, .int .i64 i.c] 47)).rowIs wr.heap.size 47 4 (fun k => i.cs.getD k undef)) := by
        refine World.rowIs_alloc wr #[.int .i64 i.o, .int .i64 i.a, .int .i64 i.b, .int .i64 i.c] 47 (fun k => i.cs.getD k undef) (fun k hk => ?_)
        have : k = 0 ∨ k = 1 ∨ k = 2 ∨ k = 3 := by simp at hk; omega
        rcases this with rfl | rfl | rfl | rfl <;> rfl
      have hA : Below wr.heap.size wr (wr.alloc (.cells #[.int .i64 i.o, .int .i64 i.a, .int .i64 i.b, .int .i64 i.c] 47)) := (Below.refl _ _).alloc (Nat.le_refl _) _
      have HOX : Hid ((wr.alloc (.cells #[.int .i64 i.o, .int .i64 i.a, .int .i64 i.b, .int .i64 i.c] 47)).ownsRow w.heap.size 5 1 (.slice (some ⟨g, 0, none⟩) n cap) n ((layN (L.take j)).map (Value.int .u8))) := HO.out.alloc _
      have HBW : Hid (Below w.heap.size w (wr.alloc (.cells #[.int .i64 i.o, .int .i64 i.a, .int .i64 i.b, .int .i64 i.c] 47))) := HB.out.alloc HB.out.size _
      clear hA
      go_wp2_with fail
      refine (fits_any i _).mono ?_
      rintro e w2 ⟨rfl, hB2⟩
      have HB2 : Hid (Below w.heap.size w w2) := HBW.out.trans (hB2.mono HBW.out.size)
      have HX2 : Hid (w2.rowIs wr.heap.size 47 4 (fun k => i.cs.getD k undef)) := HBX.out.of_block (hB2.block _ HBX.out.lt)
      have HO2 : Hid (w2.ownsRow w.heap.size 5 1 (.slice (some ⟨g, 0, none⟩) n cap) n ((layN (L.take j)).map (Value.int .u8))) := (Ty.of_below (K := []) (B := 0) hB2).own HOX.out (by simp)
      clear hB2 HBX HOX HBW HB HO c0 c1 c2 c3
      generalize wr.heap.size = bx at *
      cases hf : fit i with
      | false =>
        have ha := all_false HI.out hf
        have hr : Hid ((⟨#[]⟩ : ByteArray) = layR L ∧ (1 : Int) = layE L) := by unfold Hid layR layE; rw [ha]; exact ⟨rfl, rfl⟩
        clear ha hf
        go_wp2_with fail
        go_ret2
        exact ⟨ret_si hr.out.1 hr.out.2, HB2.out⟩
      | true =>
        have HT := take_all HI.out HA.out hf
        have HT' : Hid (∀ x ∈ L.take (j + 1), fit x = true) := HT
        have c0 : w2.cell? ⟨bx, 0, none⟩ = some (.int .i64 i.o) := HX2.out.cell (i := 0) (by decide)
        have c1 : w2.cell? ⟨bx, 1, none⟩ = some (.int .i64 i.a) := HX2.out.cell (i := 1) (by decide)
        have c3 : w2.cell? ⟨bx, 3, none⟩ = some (.int .i64 i.c) := HX2.out.cell (i := 3) (by decide)
        have HH : Hid ((∀ j' u, ([i.o % 256, i.a % 256, i.c % 256].map (Value.int .u8))[j']? = some u → (w2.alloc (.cells #[.int .u8 (i.o % 256), .int .u8 (i.a % 256), .int .u8 (i.c % 256)] 5)).cell? ((⟨w2.heap.size, 0, none⟩ : Addr).add j') = some u) ∧ n + 3 ≤ maxLen ∧ (n + 3) * 1 ≤ 140737488355328 ∧ w.heap.size ≤ (w2.alloc (.cells #[.int .u8 (i.o % 256), .int .u8 (i.a % 256), .int .u8 (i.c % 256)] 5)).heap.size) := by
          have hn := HN.out
          refine ⟨fun j' u hu => ?_, by unfold maxLen; omega, by omega, by have := HB2.out.size; simp; omega⟩
          rw [Go.WideShapes.add_plain, Nat.zero_add]
          refine cell_new w2 _ _ ?_
          rw [← hu]
          simp
        clear HT hf HA
        go_wp2_with (at_builtin; refine wpList_append_lies _ rfl _ _ 50 rfl w.heap.size 5 i0 (.int .u8 0) 1 1 Try.underlying50 hi hz0 hz1 hz2 rfl (by decide) _ _ _ rfl (HO2.out.alloc _) ⟨w2.heap.size, 0, none⟩ 3 3 ([i.o % 256, i.a % 256, i.c % 256].map (Value.int .u8)) rfl rfl HH.out.1 (bytes_one _) (by decide) HH.out.2.1 HH.out.2.2.1 HH.out.2.2.2 (w2.heap.size + 1) (by simp) ?_)
        · intro g2 cap2 w3 ho hg hat hlt3
          have t := Ty.of_grown (HO2.out.alloc (.cells #[.int .u8 (i.o % 256), .int .u8 (i.a % 256), .int .u8 (i.c % 256)] 5)) hg (Nat.le_refl _)
          have HX3 : Hid (w3.rowIs bx 47 4 (fun k => i.cs.getD k undef)) := t.row (HX2.out.alloc _) (by decide)
          have HB3 : Hid (Below w.heap.size w w3) := (HB2.out.alloc HB2.out.size _).grown hg (by have := HB2.out.size; simp; omega) (fun k hk => ((HO2.out.alloc (.cells #[.int .u8 (i.o % 256), .int .u8 (i.a % 256), .int .u8 (i.c % 256)] 5)).lt k hk).1)
          have HO3 : Hid (w3.ownsRow w.heap.size 5 1 (.slice (some ⟨g2, 0, none⟩) (n + 3) cap2) (n + 3) ((layN (L.take j)).map (Value.int .u8) ++ [i.o % 256, i.a % 256, i.c % 256].map (Value.int .u8))) := ho
          have c2 : w3.cell? ⟨bx, 2, none⟩ = some (.int .i64 i.b) := HX3.out.cell (i := 2) (by decide)
          clear t ho hg hat hlt3 HX2 HO2 HB2 HH c0 c1 c3 HX3
          go_wp2_with fail
          refine (bytes_any _ _).mono ?_
          rintro e w4 ⟨rfl, hr4, hB4⟩
          have HO4 : Hid (w4.ownsRow w.heap.size 5 1 (.slice (some ⟨g2, 0, none⟩) (n + 3) cap2) (n + 3) ((layN (L.take j)).map (Value.int .u8) ++ [i.o % 256, i.a % 256, i.c % 256].map (Value.int .u8))) := (Ty.of_below (K := []) (B := 0) hB4).own HO3.out (by simp)
          have HB4 : Hid (Below w.heap.size w w4) := HB3.out.trans (hB4.mono HB3.out.size)
          have HH : Hid ((∀ j' u, ([byN i.b 0, byN i.b 1, byN i.b 2, byN i.b 3].map (Value.int .u8))[j']? = some u → w4.cell? ((⟨w3.heap.size, 0, none⟩ : Addr).add j') = some u) ∧ n + 3 + 4 ≤ maxLen ∧ (n + 3 + 4) * 1 ≤ 140737488355328 ∧ w.heap.size ≤ w4.heap.size) := by
            have hn := HN.out
            refine ⟨fun j' u hu => ?_, by unfold maxLen; omega, by omega, HB4.out.size⟩
            rw [Go.WideShapes.add_plain, Nat.zero_add]
            have hj' := (List.getElem?_eq_some_iff.1 hu).1
            have : j' = 0 ∨ j' = 1 ∨ j' = 2 ∨ j' = 3 := by simp at hj'; omega
            rcases this with rfl | rfl | rfl | rfl <;> (simp at hu; subst hu; exact hr4.cell (by decide))
          clear hr4 hB4 HO3 HB3 c2
          go_wp2_with (at_builtin; refine wpList_append_lies _ rfl _ _ 50 rfl w.heap.size 5 i0 (.int .u8 0) 1 1 Try.underlying50 hi hz0 hz1 hz2 rfl (by decide) _ _ _ rfl HO4.out ⟨w3.heap.size, 0, none⟩ 4 4 ([byN i.b 0, byN i.b 1, byN i.b 2, byN i.b 3].map (Value.int .u8)) rfl rfl HH.out.1 (bytes_one _) (by decide) HH.out.2.1 HH.out.2.2.1 HH.out.2.2.2 w4.heap.size rfl ?_)
          · intro g5 cap5 w5 ho hg hat hlt5
            have HO5 : Hid (w5.ownsRow w.heap.size 5 1 (.slice (some ⟨g5, 0, none⟩) (n + 3 + 4) cap5) (n + 3 + 4) ((layN (L.take (j + 1))).map (Value.int .u8))) := by
              unfold Hid
              rw [layN_snoc L j i HI.out]
              simp only [List.map_append, insN]
              simpa using ho
            have HB5 : Hid (Below w.heap.size w w5) := HB4.out.grown hg HB4.out.size (fun k hk => (HO4.out.lt k hk).1)
            clear ho hg hat hlt5 HO4 HB4 HH
            go_wp2_with fail
            go_roundw
            case rel => exact ⟨j + 1, n + 3 + 4, g5, cap5, by omega, by have := HN.out; omega, by go_num, rfl, HO5.out, HT'.out, HB5.out⟩
            case measure => simp [intOf]; omega
    · have e : j = L.length := by omega
      have ha := all_true e HA.out
      subst e
      rw [List.take_length] at HO
      have hcv := str_bytes HO.out
      have hr : Hid (layS L = layR L ∧ (0 : Int) = layE L) := by unfold Hid layR layE; rw [ha]; exact ⟨rfl, rfl⟩
      clear ha
      go_wp2_with fail
      go_ret2
      exact ⟨ret_si hr.out.1 hr.out.2, HB.out⟩

theorem lay_any (L : List Ins) (v : Value) (w : World) (hlen : L.length ≤ 1000) (h : SrcI w v L) :
    Calls Try.prog 44 #[v] w fun e w' => e = .returned (.tuple #[.string (layR L), .int .i64 (layE L)]) ∧ Below w.heap.size w w' := by
  by_cases h0 : L = []
  · subst h0
    obtain ⟨a, c, rfl⟩ := h.len
    exact lay_zero a c w
  · rcases h with ⟨h, _⟩ | ⟨b, off, c, rfl, h2, h3⟩
    · exact absurd h h0
    · exact lay_core L b off c w hlen h2 h3

end Go.Proofs.Ytkgicalkcbagaaa

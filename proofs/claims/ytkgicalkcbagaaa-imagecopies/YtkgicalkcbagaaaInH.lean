/- The walk of instr's Read. -/
import Derived.Test.YtkgicalkcbagaaaInG
namespace Go.Proofs.Ytkgicalkcbagaaa
open Go.RowKit

/-- The first k instructions whose bytes stand in s. -/
def rdL (s : ByteArray) : Nat → List Ins
  | 0 => []
  | k + 1 => rdL s k ++ [insOf s (7 * k)]
theorem rdL_len (s : ByteArray) : ∀ k, (rdL s k).length = k
  | 0 => rfl
  | k + 1 => by simp [rdL, rdL_len s k]
def rdOk (s : ByteArray) : Bool := decide (s.size % 7 = 0) && (rdL s (s.size / 7)).all fit
def readR (s : ByteArray) : List Ins := if rdOk s = true then rdL s (s.size / 7) else []
def readE (s : ByteArray) : Int := if rdOk s = true then 0 else 2
theorem rdL_mem {s : ByteArray} {j : Nat} : ∀ {n : Nat}, j < n → insOf s (7 * j) ∈ rdL s n
  | 0, h => absurd h (by omega)
  | n + 1, h => by
    show insOf s (7 * j) ∈ rdL s n ++ [insOf s (7 * n)]
    by_cases e : j = n
    · subst e; simp
    · exact List.mem_append_left _ (rdL_mem (by omega))
theorem rd_bad {s : ByteArray} {n j : Nat} (hs : s.size = 7 * n) (hj : j < n) (h : fit (insOf s (7 * j)) = false) : rdOk s = false := by
  have e : s.size / 7 = n := by omega
  unfold rdOk
  rw [e]
  have : (rdL s n).all fit = false := by
    rw [List.all_eq_false]
    exact ⟨_, rdL_mem hj, by simp [h]⟩
  rw [this, Bool.and_false]
theorem rd_good {s : ByteArray} {n : Nat} (hs : s.size = 7 * n) (h : ∀ x ∈ rdL s n, fit x = true) : rdOk s = true := by
  have e : s.size / 7 = n := by omega
  have e2 : s.size % 7 = 0 := by omega
  unfold rdOk
  rw [e, e2, List.all_eq_true.2 h]
  rfl

theorem read_odd (s : ByteArray) (w : World) (h : s.size % 7 ≠ 0) : Calls Try.prog 47 #[.string s] w fun e w' => e = .returned (.tuple #[.slice none 0 0, .int .i64 2]) ∧ w' = w := by
  have hm : ¬ (s.size : Int) % 7 = 0 := by omega
  go_enter Try.func47, Try.ntmps47
  go_wp2_with fail
  go_ret2
  exact ⟨rfl, rfl⟩

theorem readOne_ins {s : ByteArray} {a n : Nat} {i : Ins} (hs : s.size = n) (h : a + 7 ≤ n) (hi : Hid (insOf s a = i)) (w : World) :
    Calls Try.prog 50 #[.string (s.extract a (a + 7))] w fun e w' => e = .returned (.agg #[.int .i64 i.o, .int .i64 i.a, .int .i64 i.b, .int .i64 i.c]) ∧ Below w.heap.size w w' := by
  have h7 : (s.extract a (a + 7)).size = 7 := by simp [ByteArray.size_extract]; omega
  have := readOne_any (s.extract a (a + 7)) h7 w
  rw [insOf_extract s a (by omega), hi.out] at this
  exact this

set_option maxRecDepth 100000 in
set_option maxHeartbeats 2000000 in
theorem read_core (s : ByteArray) (n : Nat) (w : World) (hs : s.size = 7 * n) (hn : n ≤ 1000) :
    Calls Try.prog 47 #[.string s] w fun e w' => ∃ v, e = .returned (.tuple #[v, .int .i64 (readE s)]) ∧ w'.ownsRow w.heap.size 47 4 v (readR s).length (flI (readR s)) ∧ Below w.heap.size w w' := by
  obtain ⟨i0, hi, hz0, hz1, hz2⟩ := info_parts Try.info47
  have hm : (s.size : Int) % 7 = 0 := by omega
  have hszB : s.size ≤ 7000 := by omega
  have HS : Hid (s.size = 7 * n) := hs
  clear hs
  go_enter Try.func47, Try.ntmps47
  go_wp2_with fail
  clear hm
  go_loopw [4, 5] (fun v k wr => ∃ j a : Nat, j ≤ n ∧ a = 7 * j ∧ k = .int .i64 a ∧ wr.ownsRow w.heap.size 47 4 v j (flI (rdL s j)) ∧ (∀ x ∈ rdL s j, fit x = true) ∧ Below w.heap.size w wr) (fun _ k _ => 7 * n - (intOf k).toNat)
  case atStart => exact ⟨0, 0, Nat.zero_le _, rfl, rfl, World.ownsRow_nil _ _ _ _, fun x hx => by simp [rdL] at hx, Below.refl _ _⟩
  case round =>
    obtain ⟨j, a, hj, ha, rfl, hown, hall, hB⟩ := hrel
    obtain ⟨va, vc, rfl⟩ : ∃ va vc, u4 = .slice va j vc := by
      rcases hown.2 with ⟨rfl, rfl⟩ | ⟨g, cap, cur, rfl, _⟩
      · exact ⟨none, 0, rfl⟩
      · exact ⟨_, _, rfl⟩
    have HA : Hid (∀ x ∈ rdL s j, fit x = true) := hall
    have HO : Hid (wr.ownsRow w.heap.size 47 4 (.slice va j vc) j (flI (rdL s j))) := hown
    have HB : Hid (Below w.heap.size w wr) := hB
    have HN : Hid (a = 7 * j) := ha
    clear hall hown hB ha
    by_cases hjl : j < n
    · have haB : (a : Int) + 7 ≤ (s.size : Int) := by have := HS.out; have := HN.out; omega
      have haI : (a : Int) < (s.size : Int) := by have := HS.out; have := HN.out; omega
      have haN : a + 7 ≤ s.size := by have := HS.out; have := HN.out; omega
      obtain ⟨i, hi'⟩ : ∃ i, Hid (insOf s a = i) := ⟨_, rfl⟩
      have eS : s.extract ((a : Int)).toNat ((a : Int) + 7).toNat = s.extract a (a + 7) := by congr 1
      go_wp2_with fail
      refine (readOne_ins rfl haN hi' _).mono ?_
      rintro e w2 ⟨rfl, hB2⟩
      have HB2 : Hid (Below w.heap.size w w2) := HB.out.trans (hB2.mono HB.out.size)
      have HO2 : Hid (w2.ownsRow w.heap.size 47 4 (.slice va j vc) j (flI (rdL s j))) := (Ty.of_below (K := []) (B := 0) hB2).own HO.out (by simp)
      clear hB2 HO HB eS
      have HX : Hid ((w2.alloc (.cells #[.int .i64 i.o, .int .i64 i.a, .int .i64 i.b, .int .i64 i.c] 47)).rowIs w2.heap.size 47 4 (fun k => i.cs.getD k undef)) := by
        refine World.rowIs_alloc w2 #[.int .i64 i.o, .int .i64 i.a, .int .i64 i.b, .int .i64 i.c] 47 (fun k => i.cs.getD k undef) (fun k hk => ?_)
        have : k = 0 ∨ k = 1 ∨ k = 2 ∨ k = 3 := by simp at hk; omega
        rcases this with rfl | rfl | rfl | rfl <;> rfl
      have HB3 : Hid (Below w.heap.size w (w2.alloc (.cells #[.int .i64 i.o, .int .i64 i.a, .int .i64 i.b, .int .i64 i.c] 47))) := HB2.out.alloc HB2.out.size _
      have HO3 : Hid ((w2.alloc (.cells #[.int .i64 i.o, .int .i64 i.a, .int .i64 i.b, .int .i64 i.c] 47)).ownsRow w.heap.size 47 4 (.slice va j vc) j (flI (rdL s j))) := HO2.out.alloc _
      clear HB2 HO2
      go_wp2_with fail
      refine (fits_any i _).mono ?_
      rintro e w4 ⟨rfl, hB4⟩
      have HB4 : Hid (Below w.heap.size w w4) := HB3.out.trans (hB4.mono HB3.out.size)
      have HX4 : Hid (w4.rowIs w2.heap.size 47 4 (fun k => i.cs.getD k undef)) := HX.out.of_block (hB4.block _ HX.out.lt)
      have HO4 : Hid (w4.ownsRow w.heap.size 47 4 (.slice va j vc) j (flI (rdL s j))) := (Ty.of_below (K := []) (B := 0) hB4).own HO3.out (by simp)
      clear hB4 HX HO3 HB3
      generalize w2.heap.size = bx at *
      cases hf : fit i with
      | false =>
        have hbad := rd_bad HS.out hjl (by rw [← HN.out, hi'.out]; exact hf)
        have hr : Hid (readR s = [] ∧ (2 : Int) = readE s) := by unfold Hid readR readE; rw [hbad]; exact ⟨rfl, rfl⟩
        clear hbad hf
        go_wp2_with fail
        go_ret2
        refine ⟨.slice none 0 0, by rw [← hr.out.2]; rfl, ?_, HB4.out⟩
        rw [hr.out.1]
        exact World.ownsRow_nil _ _ _ _
      | true =>
        have HA' : Hid (∀ x ∈ rdL s (j + 1), fit x = true) := by
          intro x hx
          rcases List.mem_append.1 (show x ∈ rdL s j ++ [insOf s (7 * j)] from hx) with hx | hx
          · exact HA.out x hx
          · simp at hx; subst hx
            rw [← HN.out, hi'.out]; exact hf
        have HE : Hid (flI (rdL s (j + 1)) = flI (rdL s j) ++ i.cs) := by
          show flI (rdL s j ++ [insOf s (7 * j)]) = _
          rw [flI_app, ← HN.out, hi'.out]
          simp [flI]
        have c0 : w4.cell? ⟨bx, 0, none⟩ = some (.int .i64 i.o) := HX4.out.cell (i := 0) (by decide)
        have c1 : w4.cell? ⟨bx, 1, none⟩ = some (.int .i64 i.a) := HX4.out.cell (i := 1) (by decide)
        have c2 : w4.cell? ⟨bx, 2, none⟩ = some (.int .i64 i.b) := HX4.out.cell (i := 2) (by decide)
        have c3 : w4.cell? ⟨bx, 3, none⟩ = some (.int .i64 i.c) := HX4.out.cell (i := 3) (by decide)
        have HH : Hid ((∀ j' u, i.cs[j']? = some u → (w4.alloc (.cells #[.int .i64 i.o, .int .i64 i.a, .int .i64 i.b, .int .i64 i.c] 47)).cell? ((⟨w4.heap.size, 0, none⟩ : Addr).add j') = some u) ∧ (∀ u ∈ i.cs, u.oneCell' = true) ∧ j + 1 ≤ maxLen ∧ (j + 1) * 32 ≤ 140737488355328 ∧ w.heap.size ≤ (w4.alloc (.cells #[.int .i64 i.o, .int .i64 i.a, .int .i64 i.b, .int .i64 i.c] 47)).heap.size) := by
          refine ⟨fun j' u hu => ?_, fun u hu => ?_, by unfold maxLen; omega, by omega, by have := HB4.out.size; simp; omega⟩
          · rw [Go.WideShapes.add_plain, Nat.zero_add]
            refine cell_new w4 _ _ ?_
            rw [← hu]
            simp [Ins.cs]
          · simp [Ins.cs] at hu
            rcases hu with rfl | rfl | rfl | rfl <;> rfl
        clear hf HA HX4
        go_wp2_with (at_builtin; refine wpList_append_own _ rfl _ _ 43 rfl w.heap.size 47 i0 (.agg #[.int .i64 0, .int .i64 0, .int .i64 0, .int .i64 0]) 4 32 Try.underlying43 hi hz0 hz1 hz2 rfl (by decide) _ _ _ rfl (HO4.out.alloc _) ⟨w4.heap.size, 0, none⟩ 1 1 i.cs rfl rfl HH.out.1 HH.out.2.1 HH.out.2.2.1 HH.out.2.2.2.1 HH.out.2.2.2.2 ?_)
        · intro v5 w5 ho hg _
          have HO5 : Hid (w5.ownsRow w.heap.size 47 4 v5 (j + 1) (flI (rdL s (j + 1)))) := by unfold Hid; rw [HE.out]; exact ho
          have HB5 : Hid (Below w.heap.size w w5) := (HB4.out.alloc HB4.out.size _).grown hg (by have := HB4.out.size; simp; omega) (fun k hk => ((HO4.out.alloc (.cells #[.int .i64 i.o, .int .i64 i.a, .int .i64 i.b, .int .i64 i.c] 47)).lt k hk).1)
          clear ho hg HO4 HB4 HH c0 c1 c2 c3
          go_wp2_with fail
          go_roundw
          case rel => exact ⟨j + 1, a + 7, by omega, by have := HN.out; omega, by go_num, HO5.out, HA'.out, HB5.out⟩
          case measure => simp [intOf]; have := HS.out; omega
    · have e : j = n := by omega
      subst e
      have hgood := rd_good HS.out HA.out
      have hr : Hid (readR s = rdL s j ∧ (0 : Int) = readE s) := by
        unfold Hid readR readE
        rw [hgood, if_pos rfl, if_pos rfl, show s.size / 7 = j from by have := HS.out; omega]
        exact ⟨rfl, rfl⟩
      have haI : ¬ (a : Int) < (s.size : Int) := by have := HS.out; have := HN.out; omega
      clear hgood
      go_wp2_with fail
      go_ret2
      refine ⟨_, by rw [← hr.out.2]; rfl, ?_, HB.out⟩
      rw [hr.out.1, rdL_len]
      exact HO.out

theorem readI_any (s : ByteArray) (w : World) (hs : s.size ≤ 7000) :
    Calls Try.prog 47 #[.string s] w fun e w' => ∃ v, e = .returned (.tuple #[v, .int .i64 (readE s)]) ∧ w'.ownsRow w.heap.size 47 4 v (readR s).length (flI (readR s)) ∧ Below w.heap.size w w' := by
  by_cases h : s.size % 7 = 0
  · exact read_core s (s.size / 7) w (by omega) (by omega)
  · refine (read_odd s w h).mono ?_
    rintro e w' ⟨rfl, rfl⟩
    have hb : rdOk s = false := by unfold rdOk; rw [decide_eq_false h]; rfl
    refine ⟨.slice none 0 0, by unfold readE; rw [hb]; rfl, ?_, Below.refl _ _⟩
    unfold readR
    rw [hb]
    exact World.ownsRow_nil _ _ _ _

end Go.Proofs.Ytkgicalkcbagaaa

/- ArenaPlays: the walk of the model's slot. -/
import Derived.Test.YtjpeppflldmffaaDoorApA
namespace Go.Proofs.YtjpeppflldmffaaDoor
open Go.RowKit

theorem results_tmp4 {fn : Func} {t u v x : Tmp} (h : fn.results = #[.tmp t, .tmp u, .tmp v, .tmp x]) (tmps : Array Value) (P : Program) (w : World) :
    (results fn tmps).run P w = .ok (.tuple #[tmps.getD t undef, tmps.getD u undef, tmps.getD v undef, tmps.getD x undef]) w := by
  simp [results, h]

section
variable (ad : Int) (w : World) {B m c u v n : Nat} {Q : Nat → Option PSt} {V : Nat → Int} {ub : Nat → Nat} (h : MdAt w B m c u v n Q V ub)
include h
omit h in
set_option maxHeartbeats 400000 in
theorem ms_neg (pl : Int) (h1 : wrap64 (ad - 1048576) = pl) (h2 : pl < 0) :
    Calls Tryd.prog 11 #[.pointer (some ⟨m, 0, none⟩), .int .i64 ad] w fun e w' => e = .returned (.tuple #[.int .i64 0, .int .i64 0, .int .i64 0, .bool false]) ∧ Below w.heap.size w w' := by
  go_enter Tryd.func11, Tryd.ntmps11
  go_wp2_with fail
  (try simp only [Exit.inBlock, Exit.then])
  refine bodyPost_ret (results_tmp4 rfl _ _ _) rfl ?_
  exact ⟨rfl, Below.refl _ _⟩
set_option maxHeartbeats 400000 in
theorem ms_far (pl : Int) (h1 : wrap64 (ad - 1048576) = pl) (h0 : 0 ≤ pl) (h2 : 32 * (n : Int) ≤ pl) :
    Calls Tryd.prog 11 #[.pointer (some ⟨m, 0, none⟩), .int .i64 ad] w fun e w' => e = .returned (.tuple #[.int .i64 0, .int .i64 0, .int .i64 0, .bool false]) ∧ Below w.heap.size w w' := by
  have hc := h.c2
  have hn := h.n64
  clear h
  obtain ⟨N, hN⟩ : ∃ N, N = 32 * n := ⟨_, rfl⟩
  rw [← hN] at hc
  have h3 : (N : Int) ≤ pl := by omega
  have hN2 : N ≤ 2048 := by omega
  clear h2 hN
  go_enter Tryd.func11, Tryd.ntmps11
  go_wp2_with fail
  (try simp only [Exit.inBlock, Exit.then])
  refine bodyPost_ret (results_tmp4 rfl _ _ _) rfl ?_
  exact ⟨rfl, Below.refl _ _⟩
set_option maxHeartbeats 400000 in
theorem ms_none (x k : Nat) (h1 : wrap64 (ad - 1048576) = (x : Int)) (h2 : x < 32 * n) (hk : x / 32 = k) (hp : Q k = none) :
    Calls Tryd.prog 11 #[.pointer (some ⟨m, 0, none⟩), .int .i64 ad] w fun e w' => e = .returned (.tuple #[.int .i64 0, .int .i64 0, .int .i64 0, .bool false]) ∧ Below w.heap.size w w' := by
  have hc := h.c2
  have hc0 := h.c0
  have hn := h.n64
  have hkn : k < n := by omega
  have hcl : w.cell? ⟨c, k, none⟩ = some (.int .i64 (clsO (Q k))) := h.cl.cell hkn
  rw [hp] at hcl
  change w.cell? ⟨c, k, none⟩ = some (.int .i64 (-1)) at hcl
  clear h
  obtain ⟨N, hN⟩ : ∃ N, N = 32 * n := ⟨_, rfl⟩
  rw [← hN] at hc h2
  have hN2 : N ≤ 2048 := by omega
  have h2I : (x : Int) < (N : Int) := by omega
  have hd : (x : Int) / 32 = (k : Int) := by omega
  have hd2 : (x : Int).tdiv 32 = (k : Int) := by rw [Int.tdiv_eq_ediv_of_nonneg (by omega)]; exact hd
  clear hN hk
  go_enter Tryd.func11, Tryd.ntmps11
  go_wp2_with fail
  (try simp only [Exit.inBlock, Exit.then])
  refine bodyPost_ret (results_tmp4 rfl _ _ _) rfl ?_
  exact ⟨rfl, Below.refl _ _⟩
end

theorem ret_q3 {k s : Value} {a b : Int} {d : Value} (h : a = b) : Ending.returned (.tuple #[k, s, .int .i64 a, d]) = .returned (.tuple #[k, s, .int .i64 b, d]) := by rw [h]

/-- What the walk of slot wants of memory and numbers, where the page has a class. -/
structure MsN (ad : Int) (w : World) (m c u v n x k y s z pn ubk : Nat) (cc : Int) : Prop where
  c2 : w.cell? ⟨m, 2, none⟩ = some (.slice (some ⟨v, 0, none⟩) (32 * n) (32 * n))
  c0 : w.cell? ⟨m, 0, none⟩ = some (.slice (some ⟨c, 0, none⟩) n n)
  c1 : w.cell? ⟨m, 1, none⟩ = some (.slice (some ⟨u, 0, none⟩) n n)
  cl : w.cell? ⟨c, k, none⟩ = some (.int .i64 cc)
  us : w.cell? ⟨u, k, none⟩ = some (.slice (some ⟨ubk, 0, none⟩) pn pn)
  lm : m < w.heap.size
  lu : u < w.heap.size
  lb : ubk < w.heap.size
  cc0 : 0 ≤ cc
  hw : wrap64 (ad - 1048576) = (x : Int)
  hx : x < 32 * n
  hn : n ≤ 64
  hk : x / 32 = k
  hy : x % 32 = y
  hs : y / z = s
  hz : szN cc = (z : Int)
  z1 : 1 ≤ z
  z16 : z ≤ 16
  pn32 : pn ≤ 32

set_option maxHeartbeats 1000000 in
theorem ms_over {ad : Int} {w : World} {m c u v n x k y s z pn ubk : Nat} {cc : Int} (h : MsN ad w m c u v n x k y s z pn ubk cc) (hsn : pn ≤ s) :
    Calls Tryd.prog 11 #[.pointer (some ⟨m, 0, none⟩), .int .i64 ad] w fun e w' => e = .returned (.tuple #[.int .i64 0, .int .i64 0, .int .i64 0, .bool false]) ∧ Below w.heap.size w w' := by
  have H : Hid (MsN ad w m c u v n x k y s z pn ubk cc) := h
  obtain ⟨hc2, hc0, hc1, hcl, hus, _, _, _, hcc, h1, h2, hn, hk, hy, hs, _, hz1, hz16, hp32⟩ := h
  obtain ⟨N, hN⟩ : ∃ N, N = 32 * n := ⟨_, rfl⟩
  rw [← hN] at hc2 h2
  have hkn : k < n := by omega
  have hN2 : N ≤ 2048 := by omega
  have h2I : (x : Int) < (N : Int) := by omega
  have hd : (x : Int) / 32 = (k : Int) := by omega
  have hm : (x : Int) % 32 = (y : Int) := by omega
  have hq : (y : Int) / (z : Int) = (s : Int) := by rw [← hs]; simp
  have hs32 : s ≤ 32 := by have := Nat.div_le_self y z; omega
  have hzne : ¬ ((z : Int) = 0) := by omega
  clear hN hk hy hs
  go_enter Tryd.func11, Tryd.ntmps11
  go_wp2_with fail
  refine (refSize_any' H.out.hz _).mono ?_
  rintro e w1 ⟨rfl, hB⟩
  have HB : Hid (Below w.heap.size w w1) := hB
  have hc1' : w1.cell? ⟨m, 1, none⟩ = some (.slice (some ⟨u, 0, none⟩) n n) := (hB.cell (p := ⟨m, 1, none⟩) H.out.lm).trans hc1
  have hus' : w1.cell? ⟨u, k, none⟩ = some (.slice (some ⟨ubk, 0, none⟩) pn pn) := (hB.cell (p := ⟨u, k, none⟩) H.out.lu).trans hus
  clear hB hc1 hus hc2 hc0 hcl
  have hsI : (pn : Int) ≤ (s : Int) := by omega
  go_wp2_with fail
  (try simp only [Exit.inBlock, Exit.then])
  refine bodyPost_ret (results_tmp4 rfl _ _ _) rfl ?_
  exact ⟨rfl, HB.out⟩
set_option maxHeartbeats 1000000 in
theorem ms_free {ad : Int} {w : World} {m c u v n x k y s z pn ubk : Nat} {cc : Int} (h : MsN ad w m c u v n x k y s z pn ubk cc) (hsn : s < pn) (hU : w.cell? ⟨ubk, s, none⟩ = some (.bool false)) :
    Calls Tryd.prog 11 #[.pointer (some ⟨m, 0, none⟩), .int .i64 ad] w fun e w' => e = .returned (.tuple #[.int .i64 0, .int .i64 0, .int .i64 0, .bool false]) ∧ Below w.heap.size w w' := by
  have HU : Hid (w.cell? ⟨ubk, s, none⟩ = some (.bool false)) := hU
  clear hU
  have H : Hid (MsN ad w m c u v n x k y s z pn ubk cc) := h
  obtain ⟨hc2, hc0, hc1, hcl, hus, _, _, _, hcc, h1, h2, hn, hk, hy, hs, _, hz1, hz16, hp32⟩ := h
  obtain ⟨N, hN⟩ : ∃ N, N = 32 * n := ⟨_, rfl⟩
  rw [← hN] at hc2 h2
  have hkn : k < n := by omega
  have hN2 : N ≤ 2048 := by omega
  have h2I : (x : Int) < (N : Int) := by omega
  have hd : (x : Int) / 32 = (k : Int) := by omega
  have hm : (x : Int) % 32 = (y : Int) := by omega
  have hq : (y : Int) / (z : Int) = (s : Int) := by rw [← hs]; simp
  have hs32 : s ≤ 32 := by have := Nat.div_le_self y z; omega
  have hzne : ¬ ((z : Int) = 0) := by omega
  clear hN hk hy hs
  go_enter Tryd.func11, Tryd.ntmps11
  go_wp2_with fail
  refine (refSize_any' H.out.hz _).mono ?_
  rintro e w1 ⟨rfl, hB⟩
  have HB : Hid (Below w.heap.size w w1) := hB
  have hc1' : w1.cell? ⟨m, 1, none⟩ = some (.slice (some ⟨u, 0, none⟩) n n) := (hB.cell (p := ⟨m, 1, none⟩) H.out.lm).trans hc1
  have hus' : w1.cell? ⟨u, k, none⟩ = some (.slice (some ⟨ubk, 0, none⟩) pn pn) := (hB.cell (p := ⟨u, k, none⟩) H.out.lu).trans hus
  clear hB hc1 hus hc2 hc0 hcl
  have hU : w1.cell? ⟨ubk, s, none⟩ = some (.bool false) := (HB.out.cell (p := ⟨ubk, s, none⟩) H.out.lb).trans HU.out
  have hsI : (s : Int) < (pn : Int) := by omega
  go_wp2_with fail
  (try simp only [Exit.inBlock, Exit.then])
  refine bodyPost_ret (results_tmp4 rfl _ _ _) rfl ?_
  exact ⟨rfl, HB.out⟩
set_option maxHeartbeats 1000000 in
theorem ms_used {ad : Int} {w : World} {m c u v n x k y s z pn ubk : Nat} {cc : Int} (t : Nat) (h : MsN ad w m c u v n x k y s z pn ubk cc) (hsn : s < pn) (hU : w.cell? ⟨ubk, s, none⟩ = some (.bool true)) (ht : s * z = t) (ht2 : t ≤ 1024) :
    Calls Tryd.prog 11 #[.pointer (some ⟨m, 0, none⟩), .int .i64 ad] w fun e w' => e = .returned (.tuple #[.int .i64 k, .int .i64 s, .int .i64 (1048576 + 32 * k + t : Nat), .bool true]) ∧ Below w.heap.size w w' := by
  have HU : Hid (w.cell? ⟨ubk, s, none⟩ = some (.bool true)) := hU
  have hI : (s : Int) * (z : Int) = (t : Int) := by rw [← ht]; simp
  clear hU ht
  have H : Hid (MsN ad w m c u v n x k y s z pn ubk cc) := h
  obtain ⟨hc2, hc0, hc1, hcl, hus, _, _, _, hcc, h1, h2, hn, hk, hy, hs, _, hz1, hz16, hp32⟩ := h
  obtain ⟨N, hN⟩ : ∃ N, N = 32 * n := ⟨_, rfl⟩
  rw [← hN] at hc2 h2
  have hkn : k < n := by omega
  have hN2 : N ≤ 2048 := by omega
  have h2I : (x : Int) < (N : Int) := by omega
  have hd : (x : Int) / 32 = (k : Int) := by omega
  have hm : (x : Int) % 32 = (y : Int) := by omega
  have hq : (y : Int) / (z : Int) = (s : Int) := by rw [← hs]; simp
  have hs32 : s ≤ 32 := by have := Nat.div_le_self y z; omega
  have hzne : ¬ ((z : Int) = 0) := by omega
  clear hN hk hy hs
  go_enter Tryd.func11, Tryd.ntmps11
  go_wp2_with fail
  refine (refSize_any' H.out.hz _).mono ?_
  rintro e w1 ⟨rfl, hB⟩
  have HB : Hid (Below w.heap.size w w1) := hB
  have hc1' : w1.cell? ⟨m, 1, none⟩ = some (.slice (some ⟨u, 0, none⟩) n n) := (hB.cell (p := ⟨m, 1, none⟩) H.out.lm).trans hc1
  have hus' : w1.cell? ⟨u, k, none⟩ = some (.slice (some ⟨ubk, 0, none⟩) pn pn) := (hB.cell (p := ⟨u, k, none⟩) H.out.lu).trans hus
  clear hB hc1 hus hc2 hc0 hcl
  have hU : w1.cell? ⟨ubk, s, none⟩ = some (.bool true) := (HB.out.cell (p := ⟨ubk, s, none⟩) H.out.lb).trans HU.out
  have hsI : (s : Int) < (pn : Int) := by omega
  go_wp2_with fail
  (try simp only [Exit.inBlock, Exit.then])
  refine bodyPost_ret (results_tmp4 rfl _ _ _) rfl ?_
  exact ⟨ret_q3 (by omega), HB.out⟩

section
variable (ad : Int) (w : World) {B m c u v n : Nat} {Q : Nat → Option PSt} {V : Nat → Int} {ub : Nat → Nat} (h : MdAt w B m c u v n Q V ub)
include h
theorem ms_nums (x k y s : Nat) {p : PSt} (h1 : wrap64 (ad - 1048576) = (x : Int)) (h2 : x < 32 * n) (hk : x / 32 = k) (hy : x % 32 = y) (hp : Q k = some p) (hs : y / p.sz = s) : MsN ad w m c u v n x k y s p.sz p.n (ub k) p.c := by
  have hkn : k < n := by omega
  have hnum := h.num hp
  have hcl : w.cell? ⟨c, k, none⟩ = some (.int .i64 (clsO (Q k))) := h.cl.cell hkn
  have hus : w.cell? ⟨u, k, none⟩ = some (usO (Q k) (ub k)) := h.us.cell hkn
  rw [hp] at hcl hus
  exact ⟨h.c2, h.c0, h.c1, hcl, hus, h.hd.lt, h.us.lt, (h.ur k p hp).lt, (h.ok k p hp).1, h1, h2, h.n64, hk, hy, hs, hnum.hs, hnum.s1, hnum.s16, hnum.n32⟩

variable (hb : I64 ad)
include hb
theorem ms_in {k s y : Nat} {p : PSt} (hi : InS Q ad k s y p) :
    Calls Tryd.prog 11 #[.pointer (some ⟨m, 0, none⟩), .int .i64 ad] w fun e w' => e = .returned (.tuple #[.int .i64 k, .int .i64 s, .int .i64 (adr k s p.sz : Nat), .bool true]) ∧ Below w.heap.size w w' := by
  have hn := h.num hi.hp
  have hk := h.klt hi.hp
  have h1 := slot_le hn.m hi.hs
  have hy := hi.hy
  have he := hi.he
  unfold adr at he
  have e1 : wrap64 (ad - 1048576) = ((32 * k + (s * p.sz + y) : Nat) : Int) := by rw [w64_id (by omega)]; omega
  have hN := ms_nums ad w h _ k (s * p.sz + y) s e1 (by omega) (by omega) (by omega) hi.hp (div_slot hy)
  have hU : w.cell? ⟨ub k, s, none⟩ = some (.bool (p.U s)) := (h.ur k p hi.hp).cell hi.hs
  rw [hi.hu] at hU
  refine (ms_used (s * p.sz) hN hi.hs hU rfl (by omega)).mono ?_
  rintro e w' ⟨he, hB⟩
  exact ⟨he, hB⟩
theorem ms_out (ho : OutS Q ad) :
    Calls Tryd.prog 11 #[.pointer (some ⟨m, 0, none⟩), .int .i64 ad] w fun e w' => e = .returned (.tuple #[.int .i64 0, .int .i64 0, .int .i64 0, .bool false]) ∧ Below w.heap.size w w' := by
  obtain ⟨pl, hpl⟩ : ∃ pl, wrap64 (ad - 1048576) = pl := ⟨_, rfl⟩
  have hn := h.n64
  by_cases h0 : pl < 0
  · exact ms_neg ad w pl hpl h0
  · by_cases h2 : 32 * (n : Int) ≤ pl
    · exact ms_far ad w h pl hpl (by omega) h2
    · obtain ⟨x, rfl⟩ := Int.eq_ofNat_of_zero_le (a := pl) (by omega)
      have had : ad = 1048576 + (x : Int) := by
        obtain ⟨b1, b2⟩ := hb
        unfold wrap64 at hpl
        omega
      cases hp : Q (x / 32) with
      | none => exact ms_none ad w h x _ hpl (by omega) rfl hp
      | some p =>
        have hnum := h.num hp
        have hN := ms_nums ad w h x _ _ _ hpl (by omega) rfl rfl hp rfl
        rcases Nat.lt_or_ge (x % 32 / p.sz) p.n with g1 | g1
        · have hU : w.cell? ⟨ub (x / 32), x % 32 / p.sz, none⟩ = some (.bool (p.U (x % 32 / p.sz))) := (h.ur _ p hp).cell g1
          cases g2 : p.U (x % 32 / p.sz)
          · rw [g2] at hU
            exact ms_free hN g1 hU
          · refine absurd (⟨hp, g1, g2, Nat.mod_lt _ (by have := hnum.s1; omega), ?_⟩ : InS Q ad (x / 32) (x % 32 / p.sz) (x % 32 % p.sz) p) (ho _ _ _ p)
            have h3 := Nat.div_add_mod (x % 32) p.sz
            rw [Nat.mul_comm] at h3
            unfold adr
            rw [had]
            generalize x % 32 / p.sz * p.sz = a at *
            omega
        · exact ms_over hN g1
end

end Go.Proofs.YtjpeppflldmffaaDoor

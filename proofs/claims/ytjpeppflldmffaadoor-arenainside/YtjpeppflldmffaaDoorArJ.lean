/- The walk of the law ArenaInside. -/
import Derived.Test.YtjpeppflldmffaaDoorArI
import Derived.Test.YtjpeppflldmffaaDoorKpD
namespace Go.Proofs.YtjpeppflldmffaaDoor
open Go.RowKit

set_option maxRecDepth 100000 in
set_option maxHeartbeats 1000000 in
theorem inside_none (c n : Int) (w : World) (hT : Tab w) (h : c < 0 ∨ 7 < c) :
    Calls Tryd.prog 4 #[.int .i64 c, .int .i64 n] w fun e w' => e = .returned (.bool true) ∧ Below w.heap.size w w' := by
  have HT : Hid (Tab w) := hT
  have HC : Hid (szN c = 0) := none_sz h
  clear hT h
  go_enter Tryd.func4, Tryd.ntmps4
  go_wp2_with fail
  refine (refSize_any' HC.out _).mono ?_
  rintro e w1 ⟨rfl, hB1⟩
  go_wp2_with fail
  refine (alive_any _ (HT.out.bel hB1)).mono ?_
  rintro e w2 ⟨rfl, hB2⟩
  go_wp2_with fail
  go_ret
  exact ⟨rfl, hB1.trans (hB2.mono hB1.size)⟩
set_option maxRecDepth 100000 in
set_option maxHeartbeats 1000000 in
theorem inside_far (c n : Int) (w : World) (hT : Tab w) (h0 : 0 ≤ c) (h7 : c ≤ 7) (h : n < 1 ∨ 40 < n) :
    Calls Tryd.prog 4 #[.int .i64 c, .int .i64 n] w fun e w' => e = .returned (.bool true) ∧ Below w.heap.size w w' := by
  have HT : Hid (Tab w) := hT
  obtain ⟨s, hs⟩ : ∃ s, s = szN c := ⟨_, rfl⟩
  have HC : Hid (szN c = s) := hs.symm
  have hs0 : (s == 0) = false := by rw [beq_eq_false_iff_ne, hs]; exact (sz_sl h0 h7).1
  clear hT hs
  by_cases h1 : n < 1
  · go_enter Tryd.func4, Tryd.ntmps4
    go_wp2_with fail
    refine (refSize_any' HC.out _).mono ?_
    rintro e w1 ⟨rfl, hB1⟩
    go_wp2_with fail
    refine (alive_any _ (HT.out.bel hB1)).mono ?_
    rintro e w2 ⟨rfl, hB2⟩
    go_wp2_with fail
    go_ret
    exact ⟨rfl, hB1.trans (hB2.mono hB1.size)⟩
  · have h2 : 40 < n := by omega
    go_enter Tryd.func4, Tryd.ntmps4
    go_wp2_with fail
    refine (refSize_any' HC.out _).mono ?_
    rintro e w1 ⟨rfl, hB1⟩
    go_wp2_with fail
    refine (alive_any _ (HT.out.bel hB1)).mono ?_
    rintro e w2 ⟨rfl, hB2⟩
    go_wp2_with fail
    go_ret
    exact ⟨rfl, hB1.trans (hB2.mono hB1.size)⟩

/-- One page, the first one, of class c, whose first k slots are used. -/
def OneP (P : Nat → Option PSt) (b : Nat) (c : Int) (k : Nat) : Prop := P 0 = some ⟨b, c, firsts k, ff⟩ ∧ ∀ j, 0 < j → P j = none
theorem oneP_next {P : Nat → Option PSt} {b : Nat} {c : Int} {k : Nat} (h : OneP P b c k) : OneP (upP P 0 (some ⟨b, c, up (firsts k) k true, ff⟩)) b c (k + 1) :=
  ⟨by rw [upP_same, firsts_up], fun j hj => by rw [upP_other P _ (by omega)]; exact h.2 j hj⟩
theorem ArAt.low {w w' : World} {B B' ba bp bw n : Nat} {P : Nat → Option PSt} {W : Nat → Int} (h : ArAt w B ba bp bw n P W) (hb : Below B' w w') (h1 : ba < B') (h2 : bp < B') (h3 : bw < B') (h4 : ∀ k p, P k = some p → p.blk < B') : ArAt w' B ba bp bw n P W :=
  ⟨h.hd.of_block (hb.block _ h1), h.pr.of_block (hb.block _ h2), h.wo.of_block (hb.block _ h3), fun k p e => (h.pg k p e).row ((h.pg k p e).hd.of_block (hb.block _ (h4 k p e))), h.ap, h.out, h.n64, h.b0, h.b1, h.b2, h.b3⟩
structure Ins6 (w wr : World) (ba bp bw b : Nat) (c : Int) (k : Nat) : Prop where
  ex : ∃ P W, AS w wr ba bp bw 3 P W ∧ OneP P b c k
theorem one_in {P : Nat → Option PSt} {b : Nat} {c : Int} {k v z : Nat} (h : OneP P b c k) (hz : PSt.sz ⟨b, c, firsts k, ff⟩ = z) (hk : k ≤ PSt.n ⟨b, c, firsts k, ff⟩) (h1 : 1 ≤ z) (hv : v < k * z) :
    InS P (1048576 + (v : Int)) 0 (v / z) (v % z) ⟨b, c, firsts k, ff⟩ := by
  obtain ⟨g1, g2, g3⟩ := word_slot h1 hv
  refine ⟨h.1, by omega, by simp [firsts, g1], by rw [hz]; exact g2, ?_⟩
  rw [hz]
  unfold adr
  generalize v / z * z = a at *
  omega
theorem one_out {P : Nat → Option PSt} {b : Nat} {c : Int} {k v z : Nat} (h : OneP P b c k) (hz : PSt.sz ⟨b, c, firsts k, ff⟩ = z) (hv : k * z ≤ v) : OutS P (1048576 + (v : Int)) := by
  intro j s y p hi
  have hp := hi.hp
  by_cases e : j = 0
  · subst e
    rw [h.1] at hp
    cases hp
    have hu := hi.hu
    have he := hi.he
    have hy := hi.hy
    simp [firsts] at hu
    rw [hz] at he hy
    unfold adr at he
    have : (s + 1) * z ≤ k * z := Nat.mul_le_mul_right z (by omega)
    rw [Nat.add_mul, Nat.one_mul] at this
    omega
  · rw [h.2 j (by omega)] at hp; cases hp
theorem adr_in {v z : Nat} (h1 : 1 ≤ z) : ∃ a : Nat, adr 0 (v / z) z = 1048576 + a ∧ a ≤ v ∧ v < a + z := by
  have h2 := Nat.div_add_mod v z
  have h3 := Nat.mod_lt v (show 0 < z by omega)
  refine ⟨v / z * z, by unfold adr; omega, ?_, ?_⟩
  · rw [Nat.mul_comm]; omega
  · rw [Nat.mul_comm]; omega

set_option maxRecDepth 100000 in
set_option maxHeartbeats 4000000 in
theorem inside_main (c : Int) (n : Nat) (w : World) (hT : Tab w) (h0 : 0 ≤ c) (h7 : c ≤ 7) (h1 : 1 ≤ n) (h2 : n ≤ 40) :
    Calls Tryd.prog 4 #[.int .i64 c, .int .i64 n] w fun e w' => e = .returned (.bool true) ∧ Below w.heap.size w w' := by
  have HT : Hid (Tab w) := hT
  obtain ⟨i0, hi, hz0, hz1, hz2⟩ := info_parts Tryd.info3
  obtain ⟨s, m, hs, hm, g1, g2, g3, g4, g5, g6⟩ := sz_num h0 h7
  have HC : Hid (szN c = (s : Int)) := hs
  have HSM : Hid (∀ b U, PSt.sz ⟨b, c, U, ff⟩ = s ∧ PSt.n ⟨b, c, U, ff⟩ = m) := fun b U => ⟨by show (szN c).toNat = s; omega, by show (slN c).toNat = m; omega⟩
  have hs0 : ((s : Int) == 0) = false := by rw [beq_eq_false_iff_ne]; omega
  have HR : Hid ((0 ≤ c ∧ c ≤ 7) ∧ m * s ≤ 32) := ⟨⟨h0, h7⟩, g5⟩
  have hq : 32 / (s : Int) = (m : Int) := by rw [← g6]; simp
  have HQ : Hid (32 / (s : Int) = (m : Int)) := hq
  clear hT hs hm h0 h7 g5 g6 hq
  go_enter Tryd.func4, Tryd.ntmps4
  go_wp2_with fail
  refine (refSize_any' HC.out _).mono ?_
  rintro e w1 ⟨rfl, hB1⟩
  have HB1 : Hid (Below w.heap.size w w1) := hB1
  clear hB1
  go_wp2_with fail
  refine (alive_any _ (HT.out.bel HB1.out)).mono ?_
  rintro e w3 ⟨rfl, hB3⟩
  have HB3 : Hid (Below w.heap.size w w3) := HB1.out.trans (hB3.mono HB1.out.size)
  clear hB3 HB1
  go_wp2_with fail
  refine (anew_any _ 3 _ (by decide)).mono ?_
  rintro e w4 ⟨ba, bp, bw, rfl, ha, hB⟩
  have H4 : Hid (AS w w4 ba bp bw 3 (fun _ => none) (fun _ => 0)) := ⟨⟨ha.hd, ha.pr, ha.wo, ha.pg, ha.ap, ha.out, ha.n64, Nat.le_trans HB3.out.size ha.b0, Nat.le_trans HB3.out.size ha.b1, Nat.le_trans HB3.out.size ha.b2, fun k p e => Nat.le_trans HB3.out.size (ha.b3 k p e)⟩, HB3.out.trans (hB.mono HB3.out.size), HT.out⟩
  clear ha hB HB3 HT
  go_wp2_with fail
  refine (grow_some c _ H4.out.ar HR.out.1.1 HR.out.1.2 (k := 0) (by decide) rfl (fun i hi => by omega) H4.out.lo.size).mono ?_
  rintro e w5 ⟨rfl, b, hb, ha, hg⟩
  have H5 : Hid (Ins6 w w5 ba bp bw b c 0) := ⟨⟨_, _, H4.out.but hg H4.out.ar.b1 ha, by rw [upP_same, firsts_zero], fun j hj => by rw [upP_other _ _ (by omega)]⟩⟩
  have HLT : Hid (w.heap.size ≤ w5.heap.size ∧ ba < w5.heap.size ∧ bp < w5.heap.size ∧ bw < w5.heap.size ∧ b < w5.heap.size) := ⟨Nat.le_trans H4.out.lo.size hg.size, ha.hd.lt, ha.pr.lt, ha.wo.lt, (ha.pg 0 _ (upP_same _ _ _)).lt⟩
  clear ha hg hb H4
  go_wp2_with fail
  go_loopw [7, 8] (fun l i wr => ∃ j k : Nat, j ≤ n ∧ k ≤ m ∧ k ≤ j ∧ (k = j ∨ k = m) ∧ w5.heap.size ≤ wr.heap.size ∧ i = .int .i64 j ∧ (∃ xs, wr.ownsRow w5.heap.size 3 1 l k xs) ∧ Ins6 w wr ba bp bw b c k) (fun _ i _ => n - (intOf i).toNat)
  case atStart => exact ⟨0, 0, by omega, by omega, by omega, Or.inl rfl, Nat.le_refl _, rfl, ⟨_, World.ownsRow_nil _ _ _ _⟩, H5.out⟩
  case round =>
    obtain ⟨j, k, hj, hk, hkj, hjk, hw5, rfl, ⟨xs, how⟩, hst⟩ := hrel
    have HW5 : Hid (w5.heap.size ≤ wr.heap.size) := hw5
    clear hw5
    obtain ⟨P, W, has, hone⟩ := hst.ex
    have HA : Hid (AS w wr ba bp bw 3 P W ∧ OneP P b c k) := ⟨has, hone⟩
    have HOw : Hid (wr.ownsRow w5.heap.size 3 1 u7 k xs) := how
    have HJK : Hid (k = j ∨ k = m) := hjk
    clear has hone how hst H5 hjk
    obtain ⟨al, cl', rfl⟩ := own_len HOw.out
    by_cases hlt : j < n
    · by_cases hkm : k < m
      · as_aux_lemma =>
        go_wp2_with fail
        refine (atake_some c _ HA.out.1.ar (k := 0) (z := k) (p := ⟨b, c, firsts k, ff⟩) (fun k hk => by omega) ⟨HA.out.2.1, rfl, by rw [(HSM.out b _).2]; exact hkm, by simp [firsts], fun y hy => by simp [firsts, hy]⟩ HA.out.1.tb).mono ?_
        rintro e w6 ⟨rfl, ha, w6', gg1, gg2⟩
        have H6 : Hid (Ins6 w w6 ba bp bw b c (k + 1)) := ⟨⟨_, _, HA.out.1.but2 gg1 (HA.out.1.ar.b3 0 _ HA.out.2.1) gg2 HA.out.1.ar.b2 ha, oneP_next HA.out.2⟩⟩
        have HO6 : Hid (w6.ownsRow w5.heap.size 3 1 (.slice al k cl') k xs) := by
          have f1 : Fix 0 [b] [] wr w6' := Fix.of_but gg1 (by simp)
          have f2 : Fix 0 [bw] [] w6' w6 := Fix.of_but gg2 (by simp)
          have hl := HLT.out
          exact f2.own (f1.own HOw.out (fun x hx => by simp at hx; omega) (by simp)) (fun x hx => by simp at hx; omega) (by simp)
        have HSZ : Hid (w5.heap.size ≤ w6.heap.size) := by
          have g3 := gg1.size
          have g4 := gg2.size
          have := HW5.out
          show w5.heap.size ≤ w6.heap.size
          omega
        generalize adr 0 k (PSt.sz ⟨b, c, firsts k, ff⟩) = a0 at *
        clear ha gg1 gg2 HA HOw
        have HH8 : Hid (k + 1 ≤ maxLen ∧ (k + 1) * 8 ≤ 140737488355328 ∧ ∀ o, w5.heap.size ≤ (w6.alloc o).heap.size) := ⟨by unfold maxLen; omega, by omega, fun o => by have := HSZ.out; simp; omega⟩
        go_wp2_with (at_builtin; refine wpList_append_own _ rfl _ _ 27 rfl w5.heap.size 3 i0 (.int .i64 0) 1 8 Tryd.underlying27 hi hz0 hz1 hz2 rfl (by decide) _ _ _ rfl (HO6.out.alloc _) ⟨w6.heap.size, 0, none⟩ 1 1 [.int .i64 (a0 : Int)] rfl rfl (new_one w6 _ _) (one_of rfl) HH8.out.1 HH8.out.2.1 (HH8.out.2.2 _) ?_)
        intro v' w8 hown' hgrow _
        have H8 : Hid (Ins6 w w8 ba bp bw b c (k + 1)) := by
          obtain ⟨P6, W6, h6, o6⟩ := H6.out.ex
          have hl := HLT.out
          have hsz := HSZ.out
          have lo5 : Below w5.heap.size w6 w8 := ((Below.refl _ _).alloc hsz _).grown hgrow (HH8.out.2.2 _) (fun q hq => (HO6.out.lt q hq).1)
          exact ⟨⟨P6, W6, ⟨h6.ar.low lo5 hl.2.1 hl.2.2.1 hl.2.2.2.1 (fun j p e => by
            by_cases ej : j = 0
            · subst ej; rw [o6.1] at e; cases e; exact hl.2.2.2.2
            · rw [o6.2 j (by omega)] at e; cases e), h6.lo.trans (lo5.mono hl.1), h6.t0⟩, o6⟩⟩
        have HO8 : Hid (∃ xs, w8.ownsRow w5.heap.size 3 1 v' (k + 1) xs) := ⟨_, hown'⟩
        have HSZ8 : Hid (w5.heap.size ≤ w8.heap.size) := Nat.le_trans (HH8.out.2.2 _) hgrow.size
        clear hown' hgrow H6 HO6
        go_wp2_with fail
        go_roundw
        case rel => exact ⟨j + 1, k + 1, by omega, by omega, by omega, by have := HJK.out; omega, HSZ8.out, by go_num, HO8.out, H8.out⟩
        case measure => simp [intOf]; omega
      · as_aux_lemma =>
        have HNF : Hid (NoFit P c 3) := fun j hj p hp hc x hx => by
          by_cases e : j = 0
          · subst e
            rw [HA.out.2.1] at hp
            cases hp
            rw [(HSM.out b _).2] at hx
            simp [firsts]; omega
          · rw [HA.out.2.2 j (by omega)] at hp; cases hp
        go_wp2_with fail
        refine (atake_none c _ HA.out.1.ar HNF.out).mono ?_
        rintro e w6 ⟨rfl, q, rfl⟩
        go_wp2_with fail
        go_roundw
        case rel => exact ⟨j + 1, k, by omega, by omega, by omega, by omega, HW5.out, by go_num, ⟨xs, HOw.out⟩, ⟨⟨P, W, HA.out.1.drewN q, HA.out.2⟩⟩⟩
        case measure => simp [intOf]; omega
    · as_aux_lemma =>
      have e : j = n := by omega
      subst e
      obtain ⟨mm, hmm⟩ : ∃ mm, mm = k * s := ⟨_, rfl⟩
      have hks : mm ≤ 32 := by
        have h1 : k * s ≤ m * s := Nat.mul_le_mul_right s hk
        have := HR.out.2
        omega
      have HM : Hid (k * s = mm) := hmm.symm
      have HKL : Hid (min (j : Int) (m : Int) = (k : Int)) := by
        have := HJK.out
        show min (j : Int) (m : Int) = (k : Int)
        omega
      have HKN : Hid (k ≤ PSt.n ⟨b, c, firsts k, ff⟩) := by show k ≤ _; rw [(HSM.out b _).2]; exact hk
      clear hmm HJK HOw
      go_wp2_with fail
      go_loopw [11, 12] (fun t i wr => ∃ v q : Nat, v ≤ 96 ∧ i = .int .i64 v ∧ t = .int .i64 (min v mm : Nat) ∧ AS w wr ba bp bw 3 P W) (fun _ i _ => 96 - (intOf i).toNat)
      case atStart => exact ⟨0, 0, by omega, rfl, by simp, HA.out.1⟩
      case round =>
        obtain ⟨v, q, hv, rfl, rfl, has⟩ := hrel
        have HB : Hid (AS w wr ba bp bw 3 P W) := has
        clear has
        by_cases hv2 : v < 96
        · by_cases hin : v < mm
          · as_aux_lemma =>
            have hmin : min v mm = v := by omega
            have hmin2 : min (v + 1) mm = v + 1 := by omega
            have HMN : Hid (min (v + 1) mm = v + 1) := hmin2
            rw [hmin]
            have HI : Hid (InS P (1048576 + (v : Int)) 0 (v / s) (v % s) ⟨b, c, firsts k, ff⟩) := one_in HA.out.2 (HSM.out b _).1 HKN.out g1 (by rw [HM.out]; exact hin)
            obtain ⟨a, ha1, ha2, ha3⟩ := adr_in (v := v) g1
            have HAD : Hid (adr 0 (v / s) (PSt.sz ⟨b, c, firsts k, ff⟩) = 1048576 + a) := by show _ = _; rw [(HSM.out b _).1]; exact ha1
            have hge : ¬ ((1048576 : Int) + (v : Int) < 1048576 + (a : Int)) := by omega
            clear hmin hmin2 ha1
            go_wp2_with fail
            refine (find_in _ _ HB.out.ar ⟨by omega, by omega⟩ HI.out).mono ?_
            rintro e w6 ⟨rfl, q6, rfl⟩
            rw [HAD.out]
            go_wp2_with fail
            go_roundw
            case rel => exact ⟨v + 1, 0, by omega, by go_num, by rw [HMN.out]; go_num, HB.out.drewN q6⟩
            case measure => simp [intOf]; omega
          · as_aux_lemma =>
            have hmin : min v mm = mm := by omega
            have hmin2 : min (v + 1) mm = mm := by omega
            have HMN : Hid (min (v + 1) mm = mm) := hmin2
            rw [hmin]
            have HI : Hid (OutS P (1048576 + (v : Int))) := one_out HA.out.2 (HSM.out b _).1 (by rw [HM.out]; omega)
            clear hmin hmin2
            go_wp2_with fail
            refine (find_out _ _ HB.out.ar ⟨by omega, by omega⟩ HI.out).mono ?_
            rintro e w6 ⟨rfl, q6, rfl⟩
            go_wp2_with fail
            go_roundw
            case rel => exact ⟨v + 1, 0, by omega, by go_num, by rw [HMN.out], HB.out.drewN q6⟩
            case measure => simp [intOf]; omega
        · have hmin : min v mm = mm := by omega
          rw [hmin]
          have hq := HQ.out
          have hkl := HKL.out
          clear hmin HKL
          by_cases hjm : j ≤ m
          · as_aux_lemma =>
            have e : k = j := by omega
            subst e
            have hml : (k : Int) * (s : Int) = (mm : Int) := by rw [← HM.out]; simp
            have hjI : (k : Int) ≤ (m : Int) := by omega
            have hjI2 : ¬ ((m : Int) < (k : Int)) := by omega
            clear hkl
            go_wp2_with fail
            go_ret
            exact ⟨by simp, HB.out.lo⟩
          · as_aux_lemma =>
            have e : k = m := by omega
            subst e
            have hml : (k : Int) * (s : Int) = (mm : Int) := by rw [← HM.out]; simp
            have hjI : (k : Int) < (j : Int) := by omega
            have hjI2 : ¬ ((j : Int) ≤ (k : Int)) := by omega
            clear hkl
            go_wp2_with fail
            go_ret
            exact ⟨by simp, HB.out.lo⟩

theorem inside_any (c n : Int) (w : World) (hT : Tab w) :
    Calls Tryd.prog 4 #[.int .i64 c, .int .i64 n] w fun e w' => e = .returned (.bool true) ∧ Below w.heap.size w w' := by
  by_cases h2 : c < 0 ∨ 7 < c
  · exact inside_none c n w hT h2
  · by_cases h1 : n < 1 ∨ 40 < n
    · exact inside_far c n w hT (by omega) (by omega) h1
    · obtain ⟨m, rfl⟩ := Int.eq_ofNat_of_zero_le (a := n) (by omega)
      exact inside_main c m w hT (by omega) (by omega) (by omega) (by omega)

end Go.Proofs.YtjpeppflldmffaaDoor

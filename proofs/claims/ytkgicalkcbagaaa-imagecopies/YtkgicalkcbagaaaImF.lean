/- The walks of image's reader, two more: list, code. -/
import Derived.Test.YtkgicalkcbagaaaImE
namespace Go.Proofs.Ytkgicalkcbagaaa
open Go.RowKit

theorem rL_eq (t : List Int) : rL t = (rN t).bind fun q => rT q.1.toNat q.2 := by
  cases t <;> rfl
theorem rCount_eq {α : Type} (r : List Int → Option (α × List Int)) (t : List Int) : rCount r t = (rN t).bind fun q => rMany r q.1.toNat q.2 := by
  cases t <;> rfl
/-- Behind a count: what follows. -/
theorem bind_count {α : Type} {S S1 S2 : Option (List Int)} {n : Nat} {y : α} {g : Nat → List Int → Option (α × List Int)} {f : List Int → Option (α × List Int)} (hf : ∀ t, f t = (rN t).bind fun q => g q.1.toNat q.2) (h1 : S.bind rN = S1.map fun t => ((n : Int), t)) (h2 : S1.bind (g n) = S2.map fun t => (y, t)) : S.bind f = S2.map fun t => (y, t) := by
  rw [← h2]
  cases S with
  | none => cases S1 with
    | none => rfl
    | some t => cases h1
  | some t =>
    have h1' : rN t = S1.map fun t => ((n : Int), t) := h1
    show f t = _
    rw [hf, h1']
    cases S1 with
    | none => rfl
    | some u => show g ((n : Int)).toNat u = _; rw [Int.toNat_natCast]; rfl

set_option maxHeartbeats 2000000 in
theorem rlist_any {w : World} {B x : Nat} {S : Option (List Int)} (h : Rd w B x S) :
    Calls Try.prog 20 #[.pointer (some ⟨x, 0, none⟩)] w fun e w' => ∃ v L S', e = .returned v ∧ Rd w' B x S' ∧ S.bind rL = S'.map (fun t => (L, t)) ∧ w'.ownsRow w.heap.size 3 1 v L.length (L.map (Value.int .i64)) ∧ L.length ≤ 255 ∧ Tr B w w' := by
  obtain ⟨i0, hi, hz0, hz1, hz2⟩ := info_parts Try.info3
  have HR : Hid (Rd w B x S) := h
  clear h
  go_enter Try.func20, Try.ntmps20
  go_wp2_with fail
  refine (rnumber_any HR.out).mono ?_
  rintro e w1 ⟨n, S1, rfl, h1, h2, h3, _, h4⟩
  have HR1 : Hid (Rd w1 B x S1) := h1
  have HN : Hid (S.bind rN = S1.map (fun t => ((n : Int), t))) := h2
  have HT1 : Hid (Tr B w w1) := h4
  clear h1 h2 h4 HR
  go_wp2_with fail
  refine (take_any n HR1.out).mono ?_
  rintro e w2 ⟨b, S2, rfl, h1, h2, _, h5, h6, h4⟩
  have HR2 : Hid (Rd w2 B x S2) := h1
  have HS : Hid (S.bind rL = S2.map (fun t => (b, t))) := bind_count (g := rT) rL_eq HN.out h2
  have HT2 : Hid (Tr B w w2) := HT1.out.trans h4
  have HBt : Hid (Byt b) := h5
  clear h1 h2 h4 h5 HR1 HN HT1
  have hbl : b.length ≤ 255 := by omega
  obtain ⟨cp, w3, hcv, hcp, hC, hA⟩ := conv_str (strOfNums b) b.length (strOfNums_size b) w2
  have HC : Hid (∀ j, j < b.length → w3.cell? ⟨w2.heap.size, j, none⟩ = some (.int .u8 (b.getD j 0))) := fun j hj => by
    rw [← nums_at HBt.out hj]; exact hC j hj
  have HR3 : Hid (Rd w3 B x S2) := HR2.out.below hA
  have HT3 : Hid (Tr B w w3) := HT2.out.trans (tr_of hA)
  have hbl2 : b.length ≤ cp := hcp
  have hlo : w.heap.size ≤ w3.heap.size := HT3.out.size
  obtain ⟨m, hm⟩ : ∃ m, b.length = m := ⟨_, rfl⟩
  have hlr : Hid (w2.heap.size < w3.heap.size ∨ m = 0) := by
    by_cases h0 : m = 0
    · exact Or.inr h0
    · exact Or.inl (cell_lt (hC 0 (by omega))).1
  rw [hm] at hcv hbl hbl2
  clear hC hA hcp HR2 HT2 h3 h6
  generalize w2.heap.size = g at *
  generalize hcvs : strOfNums b = s at *
  go_wp2_with fail
  clear hcv
  go_loopw [3, 5, 12] (fun v _ k wr => ∃ j : Nat, j ≤ m ∧ k = .int .i64 j ∧ wr.ownsRow w3.heap.size 3 1 v j ((b.take j).map (Value.int .i64)) ∧ Below w3.heap.size w3 wr) (fun _ _ k _ => m - (intOf k).toNat)
  case atStart => exact ⟨0, Nat.zero_le _, rfl, World.ownsRow_nil _ _ _ _, Below.refl _ _⟩
  case round =>
    obtain ⟨j, hj, rfl, hown, hB⟩ := hrel
    obtain ⟨va, vc, rfl⟩ := own_len hown
    have HO : Hid (wr.ownsRow w3.heap.size 3 1 (.slice va j vc) j ((b.take j).map (Value.int .i64))) := hown
    have HB : Hid (Below w3.heap.size w3 wr) := hB
    clear hown hB
    by_cases hlt : j < m
    · have hgl : g < w3.heap.size := by
        rcases hlr.out with h | h
        · exact h
        · omega
      have hc : wr.cell? ⟨g, j, none⟩ = some (.int .u8 (b.getD j 0)) := (HB.out.cell (p := ⟨g, j, none⟩) hgl).trans (HC.out j (by omega))
      have HK : Hid ((b.take (j + 1)).map (Value.int .i64) = (b.take j).map (Value.int .i64) ++ [.int .i64 (b.getD j 0)]) := by
        unfold Hid
        rw [take_snocD b j (by omega), List.map_append]
        rfl
      have hwr : IntKind.i64.wrap (b.getD j 0) = b.getD j 0 := by
        have := HBt.out (b.getD j 0) (List.mem_of_getElem? (i := j) (by simp [hm, hlt]))
        rw [IntKind.wrap_i64]
        omega
      generalize b.getD j 0 = y at *
      have hltI : (j : Int) < (m : Int) := by omega
      have HH : Hid ((∀ j' u, ([Value.int .i64 y])[j']? = some u → (wr.alloc (.cells #[.int .i64 y] 3)).cell? ((⟨wr.heap.size, 0, none⟩ : Addr).add j') = some u) ∧ (∀ u ∈ [Value.int .i64 y], u.oneCell' = true) ∧ j + 1 ≤ maxLen ∧ (j + 1) * 8 ≤ 140737488355328 ∧ w3.heap.size ≤ (wr.alloc (.cells #[.int .i64 y] 3)).heap.size) := by
        refine ⟨fun j' u hu => ?_, fun u hu => by simp at hu; subst hu; rfl, by unfold maxLen; omega, by omega, by have := HB.out.size; simp; omega⟩
        rw [Go.WideShapes.add_plain, Nat.zero_add]
        exact cell_new wr _ _ (by rw [← hu]; simp)
      go_wp2_with (at_builtin; refine wpList_append_own _ rfl _ _ 22 rfl w3.heap.size 3 i0 (.int .i64 0) 1 8 Try.underlying22 hi hz0 hz1 hz2 rfl (by decide) _ _ _ rfl (HO.out.alloc _) ⟨wr.heap.size, 0, none⟩ 1 1 [.int .i64 y] rfl rfl HH.out.1 HH.out.2.1 HH.out.2.2.1 HH.out.2.2.2.1 HH.out.2.2.2.2 ?_)
      · intro v5 w5 ho hg _
        obtain ⟨a5, c5, rfl⟩ := own_len ho
        have HO5 : Hid (w5.ownsRow w3.heap.size 3 1 (.slice a5 (j + 1) c5) (j + 1) ((b.take (j + 1)).map (Value.int .i64))) := by unfold Hid; rw [HK.out]; simpa [List.map_take] using ho
        have HB5 : Hid (Below w3.heap.size w3 w5) := (HB.out.alloc HB.out.size _).grown hg (by have := HB.out.size; simp; omega) (fun k hk => ((HO.out.alloc (.cells #[.int .i64 y] 3)).lt k hk).1)
        clear ho hg HO HB HH HK hc
        go_wp2_with fail
        go_roundw
        case rel => exact ⟨j + 1, by omega, by go_num, HO5.out, HB5.out⟩
        case measure => simp [intOf]; omega
    · have e : j = m := by omega
      subst e
      have HE : Hid (∃ v' L S', Ending.returned (Value.slice va j vc) = .returned v' ∧ Rd wr B x S' ∧ S.bind rL = S'.map (fun t => (L, t)) ∧ wr.ownsRow w.heap.size 3 1 v' L.length (L.map (Value.int .i64)) ∧ L.length ≤ 255 ∧ Tr B w wr) := by
        have ho := HO.out
        rw [List.take_of_length_le (by omega)] at ho
        exact ⟨_, b, S2, rfl, HR3.out.below HB.out, HS.out, by rw [hm]; exact own_base ho hlo, by omega, HT3.out.trans (tr_of HB.out)⟩
      go_wp2_with fail
      go_ret
      exact HE.out

/-! ### Instructions out of bytes -/
theorem rMany_range : ∀ (n : Nat) (t : List Int), rMany rI n t = if 7 * n ≤ t.length ∧ ((List.range n).all fun j => fit (insOfL (t.drop (7 * j)))) = true then some ((List.range n).map fun j => insOfL (t.drop (7 * j)), t.drop (7 * n)) else none
  | 0, t => by simp [rMany]
  | n + 1, t => by
    show (rI t).bind _ = _
    have ih := rMany_range n (t.drop 7)
    rw [List.range_succ_eq_map]
    simp only [List.all_cons, List.map_cons, List.all_map, List.map_map, Nat.mul_zero, List.drop_zero]
    have e : ∀ j, (t.drop 7).drop (7 * j) = t.drop (7 * (j + 1)) := fun j => by rw [List.drop_drop]; congr 1; omega
    simp only [e, List.length_drop] at ih
    by_cases h7 : 7 ≤ t.length ∧ fit (insOfL t) = true
    · have e1 : rI t = some (insOfL t, t.drop 7) := if_pos h7
      rw [e1]
      show (rMany rI n (t.drop 7)).bind _ = _
      rw [ih, h7.2, Bool.true_and]
      by_cases hc : 7 * n ≤ t.length - 7 ∧ ((List.range n).all fun j => fit (insOfL (t.drop (7 * (j + 1))))) = true
      · rw [if_pos hc, if_pos ⟨by omega, hc.2⟩]
        rfl
      · rw [if_neg hc, if_neg (fun h => hc ⟨by omega, h.2⟩)]
        rfl
    · have e1 : rI t = none := if_neg h7
      rw [e1, if_neg]
      · rfl
      · rintro ⟨h1, h2⟩
        simp only [Bool.and_eq_true] at h2
        exact h7 ⟨by omega, h2.1⟩
theorem rdL_range (s : ByteArray) : ∀ n, rdL s n = (List.range n).map fun j => insOf s (7 * j)
  | 0 => rfl
  | n + 1 => by
    show rdL s n ++ [insOf s (7 * n)] = _
    rw [rdL_range s n, List.range_succ, List.map_append]
    rfl
theorem insOf_nums {t : List Int} (hb : Byt t) {n j : Nat} (hn : 7 * n ≤ t.length) (hj : j < n) : insOf (strOfNums (t.take (7 * n))) (7 * j) = insOfL (t.drop (7 * j)) := by
  have g : ∀ k, k < 7 → gb (strOfNums (t.take (7 * n))) (7 * j + k) = (t.drop (7 * j)).getD k 0 := fun k hk => by
    rw [nums_at (fun x hx => hb x (List.mem_of_mem_take hx)) (by rw [List.length_take]; omega)]
    simp only [List.getD_eq_getElem?_getD, List.getElem?_drop, List.getElem?_take]
    rw [if_pos (by omega)]
  unfold insOf insOfL rdN
  have g0 := g 0 (by omega)
  rw [Nat.add_zero] at g0
  rw [g0, g 1 (by omega), g 2 (by omega)]
  simp only [Nat.add_assoc, Nat.reduceAdd]
  rw [g 3 (by omega), g 4 (by omega), g 5 (by omega), g 6 (by omega)]
theorem rMany_ins {t : List Int} (hb : Byt t) (n : Nat) : rMany rI n t = (rT (7 * n) t).bind fun q => if rdOk (strOfNums q.1) = true then some (readR (strOfNums q.1), q.2) else none := by
  rw [rMany_range]
  unfold rT
  by_cases hn : 7 * n ≤ t.length
  · rw [if_pos hn]
    show _ = if rdOk (strOfNums (t.take (7 * n))) = true then some (readR (strOfNums (t.take (7 * n))), t.drop (7 * n)) else none
    have hsz : (strOfNums (t.take (7 * n))).size = 7 * n := by rw [strOfNums_size, List.length_take]; omega
    have hm : (List.range n).map (fun j => insOf (strOfNums (t.take (7 * n))) (7 * j)) = (List.range n).map fun j => insOfL (t.drop (7 * j)) :=
      List.map_congr_left fun j hj => insOf_nums hb hn (List.mem_range.1 hj)
    have hL : rdL (strOfNums (t.take (7 * n))) n = (List.range n).map fun j => insOfL (t.drop (7 * j)) := by rw [rdL_range, hm]
    have e7 : 7 * n / 7 = n := by omega
    have hok : rdOk (strOfNums (t.take (7 * n))) = (List.range n).all fun j => fit (insOfL (t.drop (7 * j))) := by
      unfold rdOk
      rw [hsz, e7, hL, List.all_map, decide_eq_true (show 7 * n % 7 = 0 by omega), Bool.true_and]
      rfl
    have hR : rdOk (strOfNums (t.take (7 * n))) = true → readR (strOfNums (t.take (7 * n))) = (List.range n).map fun j => insOfL (t.drop (7 * j)) := fun h => by
      unfold readR
      rw [if_pos h, hsz, e7, hL]
    cases hc : rdOk (strOfNums (t.take (7 * n))) with
    | true => rw [if_pos ⟨hn, by rw [← hok, hc]⟩, if_pos rfl, hR hc]
    | false =>
      rw [if_neg (fun h => by rw [← hok, hc] at h; cases h.2), if_neg (by simp)]
  · rw [if_neg hn, if_neg (fun h => hn h.1)]
    rfl

set_option maxHeartbeats 2000000 in
theorem rcode_any {w : World} {B x : Nat} {S : Option (List Int)} (h : Rd w B x S) :
    Calls Try.prog 40 #[.pointer (some ⟨x, 0, none⟩)] w fun e w' => ∃ v L S', e = .returned v ∧ Rd w' B x S' ∧ S.bind (rCount rI) = S'.map (fun t => (L, t)) ∧ w'.ownsRow w.heap.size 47 4 v L.length (flI L) ∧ L.length ≤ 255 ∧ Tr B w w' := by
  have HR : Hid (Rd w B x S) := h
  clear h
  go_enter Try.func40, Try.ntmps40
  go_wp2_with fail
  refine (rnumber_any HR.out).mono ?_
  rintro e w1 ⟨n, S1, rfl, h1, h2, h3, _, h4⟩
  have HR1 : Hid (Rd w1 B x S1) := h1
  have HN : Hid (S.bind rN = S1.map (fun t => ((n : Int), t))) := h2
  have HT1 : Hid (Tr B w w1) := h4
  have hby1 : Hid (∀ t, S1 = some t → Byt t) := by
    intro t ht
    obtain ⟨t', bad, _, hs, hb, _⟩ := h1.hd
    rw [ht] at hs
    cases bad with
    | true => cases hs
    | false => cases hs; exact hb
  clear h1 h2 h4 HR
  have htk := take_any (7 * n) HR1.out
  rw [show ((7 * n : Nat) : Int) = (n : Int) * 7 from by omega] at htk
  have HTK : Hid (Calls Try.prog 39 #[.pointer (some ⟨x, 0, none⟩), .int .i64 ((n : Int) * 7)] w1 fun e w' => ∃ b S', e = .returned (.string (strOfNums b)) ∧ Rd w' B x S' ∧ S1.bind (rT (7 * n)) = S'.map (fun t => (b, t)) ∧ (S' = none → b = []) ∧ Byt b ∧ b.length ≤ 7 * n ∧ Tr B w1 w') := htk
  clear htk
  go_wp2_with fail
  refine HTK.out.mono ?_
  rintro e w2 ⟨b, S2, rfl, h1, h2, _, h5, h6, h4⟩
  have HR2 : Hid (Rd w2 B x S2) := h1
  have HT2 : Hid (Tr B w w2) := HT1.out.trans h4
  have HS : Hid (S1.bind (rT (7 * n)) = S2.map (fun t => (b, t))) := h2
  have HBl : Hid (b.length ≤ 7 * n) := h6
  have hlo : w.heap.size ≤ w2.heap.size := HT2.out.size
  clear h1 h2 h4 h5 h6 HTK HR1 HT1
  go_wp2_with fail
  refine (readI_any (strOfNums b) _ (by rw [strOfNums_size]; have := HBl.out; omega)).mono ?_
  rintro e w3 ⟨v, rfl, hown, hB⟩
  have HR3 : Hid (Rd w3 B x S2) := HR2.out.below hB
  have HT3 : Hid (Tr B w w3) := HT2.out.trans (tr_of hB)
  have HO : Hid (w3.ownsRow w.heap.size 47 4 v (readR (strOfNums b)).length (flI (readR (strOfNums b)))) := own_base hown hlo
  have HL : Hid ((readR (strOfNums b)).length ≤ 255) := by
    unfold Hid readR
    split
    · rw [rdL_len, strOfNums_size]; have := HBl.out; omega
    · simp
  have HM : Hid (S.bind (rCount rI) = S2.bind fun t => if rdOk (strOfNums b) = true then some (readR (strOfNums b), t) else none) := by
    have e1 : S1.bind (rMany rI n) = S2.bind fun t => if rdOk (strOfNums b) = true then some (readR (strOfNums b), t) else none := by
      cases S1 with
      | none => cases S2 with
        | none => rfl
        | some t => cases HS.out
      | some t =>
        have h8 : rT (7 * n) t = S2.map (fun t => (b, t)) := HS.out
        show rMany rI n t = _
        rw [rMany_ins (hby1.out t rfl), h8]
        cases S2 <;> rfl
    rw [← e1]
    cases S with
    | none => cases S1 with
      | none => rfl
      | some t => cases HN.out
    | some t =>
      have h8 : rN t = S1.map (fun t => ((n : Int), t)) := HN.out
      show rCount rI t = _
      rw [rCount_eq, h8]
      cases S1 with
      | none => rfl
      | some u => show rMany rI ((n : Int)).toNat u = _; rw [Int.toNat_natCast]; rfl
  obtain ⟨va, vc, rfl⟩ : ∃ va vc, v = .slice va (readR (strOfNums b)).length vc := by
    rcases hown.2 with ⟨h1, h2⟩ | ⟨g, cap, cur, h1, _⟩
    · exact ⟨none, 0, by rw [h1, h2]⟩
    · exact ⟨_, _, h1⟩
  clear hown hB HR2 HT2 HS HN hby1
  cases hok : rdOk (strOfNums b) with
  | true =>
    have hE : readE (strOfNums b) = 0 := by unfold readE; rw [hok]; rfl
    have HX : Hid (∃ v' L S', Ending.returned (Value.slice va (readR (strOfNums b)).length vc) = .returned v' ∧ Rd w3 B x S' ∧ S.bind (rCount rI) = S'.map (fun t => (L, t)) ∧ w3.ownsRow w.heap.size 47 4 v' L.length (flI L) ∧ L.length ≤ 255 ∧ Tr B w w3) := by
      refine ⟨_, readR (strOfNums b), S2, rfl, HR3.out, ?_, HO.out, HL.out, HT3.out⟩
      rw [HM.out, hok]
      cases S2 <;> rfl
    rw [hE]
    clear hE hok HR3 HT3 HO HL HM
    generalize (readR (strOfNums b)).length = k at *
    go_wp2_with fail
    go_ret
    exact HX.out
  | false =>
    have hE : readE (strOfNums b) = 2 := by unfold readE; rw [hok]; rfl
    obtain ⟨t, bad, hbox, hSS, hby, htl⟩ := HR3.out.hd
    have f1 := hbox.frozen 1
    have c1 : w3.cell? ⟨x, 1, none⟩ = some (.bool bad) := hbox.cell (i := 1) (by decide)
    have hlt := hbox.lt
    have hTB : Ty [60] B w3 (w3.setCell ⟨x, 1, none⟩ (.bool true)) := Ty.of_but ((But.refl _ _).setCell 1 _) hbox HR3.out.ge
    have HX : Hid (∃ v' L S', Ending.returned (Value.slice va (readR (strOfNums b)).length vc) = .returned v' ∧ Rd (w3.setCell ⟨x, 1, none⟩ (.bool true)) B x S' ∧ S.bind (rCount rI) = S'.map (fun t => (L, t)) ∧ (w3.setCell ⟨x, 1, none⟩ (.bool true)).ownsRow w.heap.size 47 4 v' L.length (flI L) ∧ L.length ≤ 255 ∧ Tr B w (w3.setCell ⟨x, 1, none⟩ (.bool true))) := by
      refine ⟨_, readR (strOfNums b), none, rfl, ⟨HR3.out.ge, t, true, rd_box t bad hbox t true _ 1 (fun i hi => ?_), rfl, hby, htl⟩, ?_, hTB.own HO.out (by decide), HL.out, HT3.out.trans hTB⟩
      · match i, hi with
        | 0, _ => rfl
        | 1, _ => rfl
      · rw [HM.out, hok]
        cases S2 <;> rfl
    rw [hE]
    clear hE hok HR3 HT3 HO HL HM hbox hSS hby htl hTB
    generalize (readR (strOfNums b)).length = k at *
    go_wp2_with fail
    go_ret
    exact HX.out

end Go.Proofs.Ytkgicalkcbagaaa

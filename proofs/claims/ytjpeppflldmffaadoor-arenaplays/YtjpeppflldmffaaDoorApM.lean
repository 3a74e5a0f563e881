/- ArenaPlays in parts: the model's list of used slots, and how many pages have no class. -/
import Derived.Test.YtjpeppflldmffaaDoorApE
namespace Go.Proofs.YtjpeppflldmffaaDoor
open Go.RowKit

noncomputable def code15 : Code := (Tryd.f3.body.bind (findBlock 15)).getD .skip

/-- A list of ints that lies from block B on. -/
def OwnL (w : World) (B : Nat) (l : Value) (L : List Int) : Prop := w.ownsRow B 3 1 l L.length (L.map (Value.int .i64))
/-- What the listing comes to. -/
def LsPost (w7 : World) (X : Arg) (I : Ids) (i ob : Nat) (P : Nat → Option PSt) : Exit → Act → World → Prop :=
  EndsN fun a' w' => Env X I i ob a' ∧ a'.tmps.toList[17]? = some (.bool true) ∧ a'.tmps.toList[37]? = some (.int .i64 ((cnt (noneB P) I.n : Nat) : Int)) ∧ ∃ al, a'.tmps.toList[36]? = some al ∧ OwnL w' w7.heap.size al (allL P I.n) ∧ Below w7.heap.size w7 w'

theorem els_no {U : Nat → Bool} {t : Nat} (h : U t = false) : els U (t + 1) = els U t := by
  show els U t ++ (if U t then [(t : Int)] else []) = _
  rw [h]; simp
theorem els_yes {U : Nat → Bool} {t : Nat} (h : U t = true) : els U (t + 1) = els U t ++ [(t : Int)] := by
  show els U t ++ (if U t then [(t : Int)] else []) = _
  rw [h]; simp
theorem OwnL.below {w w' : World} {B : Nat} {l : Value} {L : List Int} (h : OwnL w B l L) (hb : Below w.heap.size w w') : OwnL w' B l L := (Ty.of_below (K := []) (B := 0) hb).own h (by simp)

section
variable {w w7 : World} {X : Arg} {I : Ids} {i ob : Nat} {kd nn vv : Int} {nr : Bool} {P : Nat → Option PSt} {W : Nat → Int} (a : Act) (hE : Env X I i ob a)
include hE
set_option maxRecDepth 100000 in
set_option maxHeartbeats 8000000 in
theorem listing (h17 : a.tmps.toList[17]? = some (.bool true)) (h36 : a.tmps.toList[36]? = some (.slice none 0 0)) (h37 : a.tmps.toList[37]? = some (.int .i64 0)) (h38 : a.tmps.toList[38]? = some (.int .i64 0))
    (h : RP w w7 I P W P W ob kd nn vv nr) : code15.wp Tryd.prog (LsPost w7 X I i ob P) a w7 := by
  have H : Hid (RP w w7 I P W P W ob kd nn vv nr) := h
  obtain ⟨v, ha, hv⟩ := hE.open
  rw [hv 17 _ h17, hv 36 _ h36, hv 37 _ h37, hv 38 _ h38] at ha
  clear hv h17 h36 h37 h38 hE
  subst ha
  obtain ⟨ub, hmd⟩ := h.ro.md
  have HM : Hid (MdAt w7 w.heap.size I.m I.c I.u I.v I.n P W ub) := hmd
  have hn8 := h.ro.n8
  clear h hmd H
  have HL : Hid (∀ j, (allL P j).length ≤ 32 * j) := allL_len P (fun k p e => (HM.out.num e).n32)
  obtain ⟨i0, hi, hz0, hz1, hz2⟩ := info_parts Tryd.info3
  unfold LsPost
  conv => arg 2; whnf
  go_wp2_with fail
  go_loopw [36, 37, 38] (fun l f k wk => ∃ j : Nat, j ≤ I.n ∧ k = .int .i64 (j : Int) ∧ f = .int .i64 ((cnt (noneB P) j : Nat) : Int) ∧ OwnL wk w7.heap.size l (allL P j) ∧ Below w7.heap.size w7 wk) (fun _ _ k _ => I.n - (intOf k).toNat)
  case atStart => exact ⟨0, Nat.zero_le _, rfl, rfl, World.ownsRow_nil _ _ _ _, Below.refl _ _⟩
  case round =>
    obtain ⟨j, hj, rfl, rfl, hown, hB⟩ := hrel
    obtain ⟨l0, hl0⟩ : ∃ l0, l0 = u36 := ⟨_, rfl⟩
    subst hl0
    obtain ⟨w8, hw8⟩ : ∃ w8, w8 = wr := ⟨_, rfl⟩
    subst hw8
    have HO : Hid (OwnL w8 w7.heap.size l0 (allL P j)) := hown
    have HB : Hid (Below w7.heap.size w7 w8) := hB
    have HM8 : Hid (MdAt w8 w.heap.size I.m I.c I.u I.v I.n P W ub) := HM.out.fix (Fix.of_below (B := 0) (X := []) (K := []) hB) (by simp) (by simp) (by simp) (by simp) (by simp) (by simp) (by simp) (by simp) (by simp)
    have hcb : cnt (noneB P) j ≤ j := cnt_le _ _
    clear hown hB
    by_cases hlt : j < I.n
    · have hc0 := HM8.out.c0
      have hltI : (j : Int) < (I.n : Int) := by omega
      have hcl : w8.cell? ⟨I.c, j, none⟩ = some (.int .i64 (clsO (P j))) := HM8.out.cl.cell hlt
      cases hp : P j with
      | none => as_aux_lemma =>
        have HE : Hid (allL P (j + 1) = allL P j) := by show allL P j ++ pl1 j (P j) = _; rw [hp]; simp [pl1]
        have HC : Hid (cnt (noneB P) (j + 1) = cnt (noneB P) j + 1) := by show cnt (noneB P) (j + 1) = _; simp only [cnt, noneB, hp]; simp
        rw [hp] at hcl
        change w8.cell? ⟨I.c, j, none⟩ = some (.int .i64 (-1)) at hcl
        have hus : w8.cell? ⟨I.u, j, none⟩ = some (.slice none 0 0) := by
          have := HM8.out.us.cell hlt
          rw [hp] at this
          exact this
        have hc1 := HM8.out.c1
        clear hp
        generalize cnt (noneB P) j = cf at *
        go_wp2_with fail
        go_loopw [36, 39] (fun l s wk => l = l0 ∧ s = .int .i64 0 ∧ wk = w8) (fun _ _ _ => 0)
        case atStart => exact ⟨rfl, rfl, rfl⟩
        case round =>
          obtain ⟨rfl, rfl, hw9⟩ := hrel
          subst hw9
          go_wp2_with fail
          go_roundw
          case rel => exact ⟨j + 1, by omega, by go_num, by rw [HC.out]; go_num, by rw [HE.out]; exact HO.out, HB.out⟩
          case measure => simp [intOf]; omega
      | some p =>
        have HP : Hid (P j = some p) := hp
        have HE : Hid (allL P (j + 1) = allL P j ++ (els p.U p.n).map (adI j p.sz)) := by show allL P j ++ pl1 j (P j) = _; rw [hp]; rfl
        have HC : Hid (cnt (noneB P) (j + 1) = cnt (noneB P) j) := by show cnt (noneB P) (j + 1) = _; simp only [cnt, noneB, hp]; simp
        have hcc := (HM8.out.ok j p hp).1
        have hnum := HM8.out.num hp
        have HNum : Hid (PNum p p.sz p.n) := hnum
        have hn32 := hnum.n32
        have hz16 := hnum.s16
        rw [hp] at hcl
        change w8.cell? ⟨I.c, j, none⟩ = some (.int .i64 p.c) at hcl
        have hLj := HL.out j
        clear hp hnum
        generalize cnt (noneB P) j = cf at *
        go_wp2_with fail
        go_loopw [36, 39] (fun l s wk => ∃ t : Nat, t ≤ p.n ∧ s = .int .i64 (t : Int) ∧ OwnL wk w7.heap.size l (allL P j ++ (els p.U t).map (adI j p.sz)) ∧ Below w7.heap.size w7 wk) (fun _ s _ => p.n - (intOf s).toNat)
        case atStart => exact ⟨0, Nat.zero_le _, rfl, by simpa [els] using HO.out, HB.out⟩
        case round =>
          obtain ⟨t, ht, rfl, hown, hB⟩ := hrel
          have HO9 : Hid (OwnL wr w7.heap.size u36 (allL P j ++ (els p.U t).map (adI j p.sz))) := hown
          have HB9 : Hid (Below w7.heap.size w7 wr) := hB
          have HM9 : Hid (MdAt wr w.heap.size I.m I.c I.u I.v I.n P W ub) := HM.out.fix (Fix.of_below (B := 0) (X := []) (K := []) hB) (by simp) (by simp) (by simp) (by simp) (by simp) (by simp) (by simp) (by simp) (by simp)
          clear hown hB HM8 HO HB hc0 hcl
          have hc1 := HM9.out.c1
          have hus : wr.cell? ⟨I.u, j, none⟩ = some (.slice (some ⟨ub j, 0, none⟩) p.n p.n) := by
            have := HM9.out.us.cell hlt
            rw [HP.out] at this
            exact this
          by_cases hlt2 : t < p.n
          · have htI : (t : Int) < (p.n : Int) := by omega
            have hcx : wr.cell? ⟨ub j, t, none⟩ = some (.bool (p.U t)) := (HM9.out.ur j p HP.out).cell hlt2
            cases hU : p.U t
            · as_aux_lemma =>
              rw [hU] at hcx
              have HEl : Hid (els p.U (t + 1) = els p.U t) := els_no hU
              clear hU HNum
              generalize ub j = ubj at *
              go_wp2_with fail
              go_roundw
              case rel => exact ⟨t + 1, by omega, by go_num, by rw [HEl.out]; exact HO9.out, HB9.out⟩
              case measure => simp [intOf]; omega
            · as_aux_lemma =>
              rw [hU] at hcx
              have HEl : Hid (els p.U (t + 1) = els p.U t ++ [(t : Int)]) := els_yes hU
              have hc0 := HM9.out.c0
              have hcl : wr.cell? ⟨I.c, j, none⟩ = some (.int .i64 p.c) := by
                have := HM9.out.cl.cell hlt
                rw [HP.out] at this
                exact this
              have hm1 := slot_le HNum.out.m hlt2
              obtain ⟨y, hy⟩ : ∃ y, y = t * p.sz := ⟨_, rfl⟩
              have hI : (t : Int) * (p.sz : Int) = (y : Int) := by rw [hy]; simp
              rw [← hy] at hm1
              have hy32 : y ≤ 32 := by omega
              have hlen : (allL P j ++ (els p.U t).map (adI j p.sz)).length ≤ 2048 := by
                have := cnt_le p.U t
                simp [els_len]
                omega
              have HAd : Hid (adI j p.sz (t : Int) = 1048576 + (j : Int) * 32 + (y : Int)) := by show adI j p.sz (t : Int) = _; unfold adI; rw [hI]; omega
              clear hU hy hm1
              generalize ub j = ubj at *
              go_wp2_with fail
              refine (refSize_any' HNum.out.hs _).mono ?_
              rintro e w9 ⟨rfl, hB9⟩
              have HO10 : Hid (OwnL w9 w7.heap.size u36 (allL P j ++ (els p.U t).map (adI j p.sz))) := HO9.out.below hB9
              have HB10 : Hid (Below w7.heap.size w7 w9) := HB9.out.trans (hB9.mono HB9.out.size)
              clear hB9 HO9 HB9 HM9 hc0 hc1 hcl hus hcx
              unfold OwnL at HO10
              generalize HK : allL P j ++ (els p.U t).map (adI j p.sz) = K at *
              have hsz : w7.heap.size ≤ w9.heap.size := HB10.out.size
              have HSZ : Hid (K.length + 1 ≤ maxLen ∧ (K.length + 1) * 8 ≤ 140737488355328 ∧ ∀ o, w7.heap.size ≤ (w9.alloc o).heap.size) := ⟨by unfold maxLen; omega, by omega, fun o => by simp; omega⟩
              have HKK : Hid (allL P j ++ (els p.U t).map (adI j p.sz) = K) := HK
              clear HK hsz
              go_wp2_with (at_builtin; refine wpList_append_own _ rfl _ _ 27 rfl w7.heap.size 3 i0 (.int .i64 0) 1 8 Tryd.underlying27 hi hz0 hz1 hz2 rfl (by decide) _ _ _ rfl (HO10.out.alloc _) ⟨w9.heap.size, 0, none⟩ 1 1 [.int .i64 _] rfl rfl (new_one _ _ _) (one_of rfl) HSZ.out.1 HSZ.out.2.1 (HSZ.out.2.2 _) ?_)
              · intro v' w10 hown' hgrow _
                have HB11 : Hid (Below w7.heap.size w7 w10) := (HB10.out.alloc HB10.out.size _).grown hgrow (HSZ.out.2.2 _) (fun q hq => (HO10.out.lt q hq).1)
                have HO11 : Hid (OwnL w10 w7.heap.size v' (allL P j ++ (els p.U (t + 1)).map (adI j p.sz))) := by
                  show OwnL w10 w7.heap.size v' (allL P j ++ (els p.U (t + 1)).map (adI j p.sz))
                  rw [HEl.out, List.map_append, ← List.append_assoc, HKK.out]
                  show OwnL w10 w7.heap.size v' (K ++ [adI j p.sz (t : Int)])
                  rw [HAd.out]
                  unfold OwnL
                  rw [List.map_append, List.length_append]
                  exact hown'
                clear hown' hgrow HO10 HB10
                go_wp2_with fail
                go_roundw
                case rel => exact ⟨t + 1, by omega, by go_num, HO11.out, HB11.out⟩
                case measure => simp [intOf]; omega
          · as_aux_lemma =>
            have e : t = p.n := by omega
            have HO11 : Hid (OwnL wr w7.heap.size u36 (allL P (j + 1))) := by rw [HE.out, ← e]; exact HO9.out
            have hge : (p.n : Int) ≤ (t : Int) := by omega
            clear e HO9 HM9 hlt2
            generalize ub j = ubj at *
            go_wp2_with fail
            go_roundw
            case rel => exact ⟨j + 1, by omega, by go_num, by rw [HC.out], HO11.out, HB9.out⟩
            case measure => simp [intOf]; omega
    · as_aux_lemma =>
      have e : j = I.n := by omega
      have HO2 : Hid (OwnL w8 w7.heap.size l0 (allL P I.n)) := by rw [← e]; exact HO.out
      have HC : Hid (cnt (noneB P) j = cnt (noneB P) I.n) := congrArg (cnt (noneB P)) e
      have hge : (I.n : Int) ≤ (j : Int) := by omega
      clear e HO hlt
      generalize cnt (noneB P) j = cf at *
      go_wp2_with fail
      exact ⟨rfl, ⟨by kernel_rfl, rfl, rfl, rfl, rfl, rfl, rfl, rfl, rfl, rfl, rfl, rfl⟩, rfl, by rw [← HC.out]; rfl, _, rfl, HO2.out, HB.out⟩
end

end Go.Proofs.YtjpeppflldmffaaDoor

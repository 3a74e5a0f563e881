/- The walk of the law HeapSerials. -/
import Derived.Test.YtfkimmbnmcgjiaaDoorHpP
namespace Go.Proofs.YtfkimmbnmcgjiaaDoor
open Go.RowKit

section
variable {w wr w' : World} {B : Nat} {b : Hb} {n : Nat} {nf : List Int} {s s' : Hs}
theorem hs_alloc (h : HS w wr B b n nf s) (j : Nat) (bl : Bool) (hj : j < nf.length) {m : Nat} (hm : nf.getD j 0 = (m : Int)) (hser : s.ser < 2000000) :
    Calls Tryd.prog 9 #[.pointer (some ⟨b.bh, 0, none⟩), .int .i64 j, .bool bl] wr fun e w' =>
      (∃ k z p, NoFit s.P (ofN (nf.getD j 0)) k ∧ Fit s.P (ofN (nf.getD j 0)) k z p ∧ e = .returned (.tuple #[.int .i64 (adr k z p.sz : Nat), .int .i64 0]) ∧ HS w w' B b n nf (s.took j m bl k z p)) ∨
      (NoFit s.P (ofN (nf.getD j 0)) n ∧ e = .returned (.tuple #[.int .i64 0, .int .i64 5]) ∧ HS w w' B b n nf s) := by
  rcases fit_or s.P (ofN (nf.getD j 0)) n with h1 | ⟨k, z, p, hk, h1, h2⟩
  · refine (alloc_full h.hp j bl hj h1).mono fun e w' hh => ?_
    obtain ⟨he, q, rfl⟩ := hh
    exact Or.inr ⟨h1, he, h.drewN q⟩
  · refine (alloc_some h.hp j bl hj hm h1 h2 h.tb hser).mono fun e w' hh => ?_
    exact Or.inl ⟨k, z, p, h1, h2, hh.1, h.to hh.2.1 hh.2.2⟩
theorem first_free (P : Nat → Option PSt) : ∀ n, (∀ k, k < n → P k ≠ none) ∨ ∃ k, k < n ∧ P k = none ∧ ∀ j, j < k → P j ≠ none
  | 0 => Or.inl fun k hk => by omega
  | n + 1 => by
    rcases first_free P n with h | ⟨k, h1, h2, h3⟩
    · cases e : P n with
      | none => exact Or.inr ⟨n, by omega, e, h⟩
      | some p =>
        refine Or.inl fun k hk => ?_
        by_cases ek : k = n
        · rw [ek, e]; simp
        · exact h k (by omega)
    · exact Or.inr ⟨k, by omega, h2, h3⟩
theorem hs_fresh (h : HS w wr B b n nf s) {c : Int} (h0 : 0 ≤ c) (h7 : c ≤ 7) :
    Calls Tryd.prog 10 #[.pointer (some ⟨b.bh, 0, none⟩), .int .i64 c] wr fun e w' =>
      (∃ k pb, k < n ∧ s.P k = none ∧ e = .returned (.bool true) ∧ HS w w' B b n nf { s with P := upP s.P k (some ⟨pb, c, f0, f0⟩) }) ∨
      ((∀ k, k < n → s.P k ≠ none) ∧ e = .returned (.bool false) ∧ HS w w' B b n nf s) := by
  rcases first_free s.P n with h1 | ⟨k, h1, h2, h3⟩
  · refine (fresh_full h.hp h0 h7 h1).mono fun e w' hh => ?_
    exact Or.inr ⟨h1, hh.1, h.below hh.2⟩
  · refine (fresh_some h.hp h0 h7 h1 h2 h3 h.bs).mono fun e w' hh => ?_
    obtain ⟨he, pb, g1, g2⟩ := hh
    exact Or.inl ⟨k, pb, h1, h2, he, h.to g1 g2⟩
theorem swept_ser (s : Hs) (k : Nat) (p : PSt) : (s.swept k p).ser = s.ser ∧ (s.swept k p).giv = s.giv := by
  unfold Hs.swept
  by_cases e : cnt (swS s k p.n p.U) p.n = 0
  · rw [if_pos e]; exact ⟨rfl, rfl⟩
  · rw [if_neg e]; exact ⟨rfl, rfl⟩
theorem hs_sweep (h : HS w wr B b n nf s) (k : Nat) :
    Calls Tryd.prog 13 #[.pointer (some ⟨b.bh, 0, none⟩), .int .i64 k] wr fun e w' => ∃ (x : Int) (s' : Hs), e = .returned (.int .i64 x) ∧ HS w w' B b n nf s' ∧ s'.ser = s.ser ∧ s'.giv = s.giv := by
  cases e : s.P k with
  | none =>
    refine (sweep_none h.hp (k := (k : Int)) (by rw [atI_nat]; exact e)).mono fun e w' hh => ?_
    exact ⟨0, s, hh.1, h.below hh.2, rfl, rfl⟩
  | some p =>
    refine (sweep_core h.hp e).mono fun e w' hh => ?_
    exact ⟨_, _, hh.1, h.to hh.2.1 hh.2.2, (swept_ser s k p).1, (swept_ser s k p).2⟩
theorem took_ins {c : Int} {k z : Nat} {p : PSt} (j m : Nat) (bl : Bool) (hi : Fit s.P c k z p) (hs : 0 < p.sz) : InS (s.took j m bl k z p).P ((adr k z p.sz : Nat) : Int) k z 0 ⟨p.blk, p.c, up p.U z true, p.M⟩ :=
  ⟨took_P s j m bl k z p, hi.hz, by simp [up], hs, rfl⟩
/-- What is known of an object that was allocated. -/
theorem took_facts {se k z : Nat} {p : PSt} {c : Int} {w6 : World} (h0 : HS w wr B b n nf s) (hi : Fit s.P c k z p) (h : HS w w6 B b n nf (s.took 0 3 false k z p)) (h1 : s.ser = se) (h2 : s.giv = 3 * se) :
    ∃ (s7 : Hs) (ad : Int), Hid (((adr k z p.sz : Nat) : Int) = ad ∧ InS s7.P ad k z 0 ⟨p.blk, p.c, up p.U z true, p.M⟩ ∧ s7.O k z = some ⟨0, (se : Int) + 1, 0⟩ ∧ s7.ser = se + 1 ∧ s7.giv = 3 * (se + 1)) ∧ Hid (1048576 ≤ ad ∧ ad < 1048576 + 2048) ∧ Hid (HS w w6 B b n nf s7) := by
  have hz := (h0.hp.ar.num hi.hp).s1
  have hin := took_ins 0 3 false hi (by omega)
  refine ⟨_, _, ⟨rfl, hin, ?_, ?_, ?_⟩, ins_small h.hp hin, h⟩
  · rw [took_O, h1]; rfl
  · show s.ser + 1 = _; rw [h1]
  · show s.giv + 3 = _; rw [h2]; omega
end

def hL3 : List Int := [1, 1, 1]
theorem fit_hL3 : FitA [hL3] := by intro L hL n hn; simp at hL; subst hL; simp [hL3] at hn; subst hn; decide
theorem chk_hL3 : chkN [hL3] = 0 := by decide +kernel
theorem sh_hL3 (w : World) : ShV ((w.alloc (.cells #[.int .i64 1, .int .i64 1, .int .i64 1] 3)).alloc (.cells #[.slice (some ⟨w.heap.size, 0, none⟩) 3 3] 35)) (.slice (some ⟨w.heap.size + 1, 0, none⟩) 1 1) [hL3] := by
  refine Or.inr ⟨w.heap.size + 1, 0, 1, rfl, by simp, fun j hj => ⟨some ⟨w.heap.size, 0, none⟩, 3, ?_⟩⟩
  match j, hj with
  | 0, _ =>
    refine ⟨by simp [hL3], SrcAt.alloc (Or.inr ⟨w.heap.size, 0, 3, rfl, by simp, fun j hj => ?_⟩) _⟩
    match j, hj with
    | 0, _ => simp [hL3]
    | 1, _ => simp [hL3]
    | 2, _ => simp [hL3]

set_option maxRecDepth 100000 in
set_option maxHeartbeats 1000000 in
theorem serials_few (n : Int) (a : Option Addr) (l c : Nat) (w : World) (hT : Tab w) (h : n < 1 ∨ 100 < n ∨ 60 < l) :
    Calls Tryd.prog 4 #[.int .i64 n, .slice a l c] w fun e w' => e = .returned (.bool true) ∧ Below w.heap.size w w' := by
  have HT : Hid (Tab w) := hT
  clear hT
  by_cases h1 : n < 1
  · go_enter Tryd.func4, Tryd.ntmps4
    go_wp2_with fail
    refine (halive_any _ HT.out).mono ?_
    rintro e w1 ⟨rfl, hB1⟩
    go_wp2_with fail
    go_ret
    exact ⟨rfl, hB1⟩
  · by_cases h2 : 100 < n
    · go_enter Tryd.func4, Tryd.ntmps4
      go_wp2_with fail
      refine (halive_any _ HT.out).mono ?_
      rintro e w1 ⟨rfl, hB1⟩
      go_wp2_with fail
      go_ret
      exact ⟨rfl, hB1⟩
    · have h3 : 60 < (l : Int) := by omega
      go_enter Tryd.func4, Tryd.ntmps4
      go_wp2_with fail
      refine (halive_any _ HT.out).mono ?_
      rintro e w1 ⟨rfl, hB1⟩
      go_wp2_with fail
      go_ret
      exact ⟨rfl, hB1⟩

set_option maxRecDepth 100000 in
set_option maxHeartbeats 8000000 in
theorem serials_main (n : Nat) (D : List Int) (a : Option Addr) (c : Nat) (w : World) (hT : Tab w) (h1 : 1 ≤ n) (h2 : n ≤ 100) (hl : D.length ≤ 60) (hD : SrcAt w (.slice a D.length c) D) :
    Calls Tryd.prog 4 #[.int .i64 n, .slice a D.length c] w fun e w' => e = .returned (.bool true) ∧ Below w.heap.size w w' := by
  have HT : Hid (Tab w) := hT
  have HD : Hid (SrcAt w (.slice a D.length c) D) := hD
  clear hT hD
  go_enter Tryd.func4, Tryd.ntmps4
  go_wp2_with fail
  refine (halive_any _ HT.out).mono ?_
  rintro e w1 ⟨rfl, hB1⟩
  go_wp2_with fail
  refine (hnew_any 2 2 [hL3] _ _ (by decide) fit_hL3 chk_hL3 (sh_hL3 w1)).mono ?_
  rintro e w2 ⟨b, rfl, hp, hB⟩
  have hs1 := hB1.size
  obtain ⟨B, H1⟩ : ∃ B, Hid (HS w w2 B b 2 [3] Hs.none) := ⟨_, hp, ((hB1.alloc hB1.size _).alloc (by simp; omega) _).trans (hB.mono (by simp; omega)), by simp; omega, hB.size, HT.out⟩
  clear hp hB HT hB1 hs1
  go_wp2_with fail
  go_loopw [7, 8] (fun sv iv wr => ∃ (i se : Nat) (s : Hs), i ≤ n ∧ iv = .int .i64 i ∧ sv = .int .i64 se ∧ se ≤ i ∧ Hid (HS w wr B b 2 [3] s ∧ s.ser = se ∧ s.giv = 3 * se)) (fun _ iv _ => n - (intOf iv).toNat)
  case atStart => exact ⟨0, 0, Hs.none, Nat.zero_le _, rfl, rfl, Nat.le_refl _, H1.out, rfl, rfl⟩
  case round =>
    obtain ⟨i, se, s, hi, rfl, rfl, hse, HR⟩ := hrel
    by_cases hlt : i < n
    · go_wp2_with fail
      refine (hs_alloc HR.out.1 0 false (by decide) (m := 3) rfl (by rw [HR.out.2.1]; omega)).mono ?_
      rintro e w6 (⟨k, z, p, hn, hf, rfl, hh⟩ | ⟨hn, rfl, hh⟩)
      · as_aux_lemma =>
        obtain ⟨s7, ad, F7, hF7, H7⟩ := took_facts HR.out.1 hf hh HR.out.2.1 HR.out.2.2
        have had := hF7.out
        rw [show ((adr k z p.sz : Nat) : Int) = ad from F7.out.1]
        clear hf hh hn
        go_wp2_with fail
        refine (object_yes H7.out.hp (ad := ad) (by constructor <;> omega) F7.out.2.1 F7.out.2.2.1 (j := 0) (m := 3) rfl (by decide) rfl).mono ?_
        rintro e w8 ⟨g, rfl, hg, hr, hB⟩
        have H8 : Hid (HS w (w8.alloc (.cells #[.int .i64 ad, .int .i64 0, .int .i64 ((se : Int) + 1), .slice (some ⟨g, 0, none⟩) 3 3, .bool false] 44)) B b 2 [3] s7) := (H7.out.below hB).below ((Below.refl _ _).alloc (Nat.le_refl _) _)
        have G8 : Hid (s7.ser = se + 1 ∧ s7.giv = 3 * (se + 1)) := F7.out.2.2.2
        clear hg hr hB H7
        unfold objV
        rw [show (!decide ((⟨0, (se : Int) + 1, 0⟩ : Ob).co = 0)) = false from rfl]
        go_upto_region 18 with (fail)
        generalize w8.alloc (.cells #[.int .i64 ad, .int .i64 0, .int .i64 ((se : Int) + 1), .slice (some ⟨g, 0, none⟩) 3 3, .bool false] 44) = w9 at *
        by_cases hDl : (i : Int) < (D.length : Int)
        · rcases HD.out with ⟨e, _⟩ | ⟨gl, off, cc, e, hgl, hcl0⟩
          · exfalso
            rw [e] at hDl
            simp at hDl
            omega
          cases e
          obtain ⟨d, hd⟩ : ∃ d, D.getD i 0 = d := ⟨_, rfl⟩
          have hcl : w9.cell? ⟨gl, off + i, none⟩ = some (.int .i64 d) := by
            rw [← hd]
            exact (H8.out.lo.cell (p := ⟨gl, off + i, none⟩) hgl).trans (hcl0 i (by omega))
          clear hcl0 hd
          obtain ⟨r, m, hr1, hr2, hr3, hr4, hr5, hr6, hr7⟩ := rem_twice d 2 (by omega) (by omega)
          by_cases h3 : d.tmod 3 = 0
          · go_wp2_with fail
            refine (hs_sweep H8.out m).mono ?_
            rintro e w20 ⟨x, s20, rfl, hh, hs1, hs2⟩
            have H20 : Hid (HS w w20 B b 2 [3] s20 ∧ s20.ser = se + 1 ∧ s20.giv = 3 * (se + 1)) := ⟨hh, by rw [hs1]; exact G8.out.1, by rw [hs2]; exact G8.out.2⟩
            clear hh hs1 hs2
            go_wp2_with fail
            go_roundw
            case rel => exact ⟨i + 1, se + 1, s20, by omega, by go_num, by go_num, by omega, H20⟩
            case measure => simp [intOf]; omega
          · go_wp2_with fail
            go_roundw
            case rel => exact ⟨i + 1, se + 1, _, by omega, by go_num, by go_num, by omega, H8.out, G8.out⟩
            case measure => simp [intOf]; omega
        · go_wp2_with fail
          go_roundw
          case rel => exact ⟨i + 1, se + 1, _, by omega, by go_num, by go_num, by omega, H8.out, G8.out⟩
          case measure => simp [intOf]; omega
      · have H6 : Hid (HS w w6 B b 2 [3] s ∧ s.ser = se ∧ s.giv = 3 * se) := ⟨hh, HR.out.2⟩
        clear hn hh HR
        go_wp2_with fail
        refine (hs_fresh H6.out.1 (c := 2) (by decide) (by decide)).mono ?_
        rintro e w7 (⟨kf, pb, hkf, hpf, rfl, hh⟩ | ⟨hn, rfl, hh⟩)
        · obtain ⟨s1, HR⟩ : ∃ s1, Hid (HS w w7 B b 2 [3] s1 ∧ s1.ser = se ∧ s1.giv = 3 * se) := ⟨_, hh, H6.out.2⟩
          clear hkf hpf hh H6
          go_wp2_with fail
          refine (hs_alloc HR.out.1 0 false (by decide) (m := 3) rfl (by rw [HR.out.2.1]; omega)).mono ?_
          rintro e w6 (⟨k, z, p, hn, hf, rfl, hh⟩ | ⟨hn, rfl, hh⟩)
          · as_aux_lemma =>
            obtain ⟨s7, ad, F7, hF7, H7⟩ := took_facts HR.out.1 hf hh HR.out.2.1 HR.out.2.2
            have had := hF7.out
            rw [show ((adr k z p.sz : Nat) : Int) = ad from F7.out.1]
            clear hf hh hn
            go_wp2_with fail
            refine (object_yes H7.out.hp (ad := ad) (by constructor <;> omega) F7.out.2.1 F7.out.2.2.1 (j := 0) (m := 3) rfl (by decide) rfl).mono ?_
            rintro e w8 ⟨g, rfl, hg, hr, hB⟩
            have H8 : Hid (HS w (w8.alloc (.cells #[.int .i64 ad, .int .i64 0, .int .i64 ((se : Int) + 1), .slice (some ⟨g, 0, none⟩) 3 3, .bool false] 44)) B b 2 [3] s7) := (H7.out.below hB).below ((Below.refl _ _).alloc (Nat.le_refl _) _)
            have G8 : Hid (s7.ser = se + 1 ∧ s7.giv = 3 * (se + 1)) := F7.out.2.2.2
            clear hg hr hB H7
            unfold objV
            rw [show (!decide ((⟨0, (se : Int) + 1, 0⟩ : Ob).co = 0)) = false from rfl]
            go_upto_region 18 with (fail)
            generalize w8.alloc (.cells #[.int .i64 ad, .int .i64 0, .int .i64 ((se : Int) + 1), .slice (some ⟨g, 0, none⟩) 3 3, .bool false] 44) = w9 at *
            by_cases hDl : (i : Int) < (D.length : Int)
            · rcases HD.out with ⟨e, _⟩ | ⟨gl, off, cc, e, hgl, hcl0⟩
              · exfalso
                rw [e] at hDl
                simp at hDl
                omega
              cases e
              obtain ⟨d, hd⟩ : ∃ d, D.getD i 0 = d := ⟨_, rfl⟩
              have hcl : w9.cell? ⟨gl, off + i, none⟩ = some (.int .i64 d) := by
                rw [← hd]
                exact (H8.out.lo.cell (p := ⟨gl, off + i, none⟩) hgl).trans (hcl0 i (by omega))
              clear hcl0 hd
              obtain ⟨r, m, hr1, hr2, hr3, hr4, hr5, hr6, hr7⟩ := rem_twice d 2 (by omega) (by omega)
              by_cases h3 : d.tmod 3 = 0
              · go_wp2_with fail
                refine (hs_sweep H8.out m).mono ?_
                rintro e w20 ⟨x, s20, rfl, hh, hs1, hs2⟩
                have H20 : Hid (HS w w20 B b 2 [3] s20 ∧ s20.ser = se + 1 ∧ s20.giv = 3 * (se + 1)) := ⟨hh, by rw [hs1]; exact G8.out.1, by rw [hs2]; exact G8.out.2⟩
                clear hh hs1 hs2
                go_wp2_with fail
                go_roundw
                case rel => exact ⟨i + 1, se + 1, s20, by omega, by go_num, by go_num, by omega, H20⟩
                case measure => simp [intOf]; omega
              · go_wp2_with fail
                go_roundw
                case rel => exact ⟨i + 1, se + 1, _, by omega, by go_num, by go_num, by omega, H8.out, G8.out⟩
                case measure => simp [intOf]; omega
            · go_wp2_with fail
              go_roundw
              case rel => exact ⟨i + 1, se + 1, _, by omega, by go_num, by go_num, by omega, H8.out, G8.out⟩
              case measure => simp [intOf]; omega
          · as_aux_lemma =>
            have H8 : Hid (HS w w6 B b 2 [3] s1) := hh
            have G8 : Hid (s1.ser = se ∧ s1.giv = 3 * se) := HR.out.2
            clear hn hh HR
            go_upto_region 18 with (fail)
            by_cases hDl : (i : Int) < (D.length : Int)
            · rcases HD.out with ⟨e, _⟩ | ⟨gl, off, cc, e, hgl, hcl0⟩
              · exfalso
                rw [e] at hDl
                simp at hDl
                omega
              cases e
              obtain ⟨d, hd⟩ : ∃ d, D.getD i 0 = d := ⟨_, rfl⟩
              have hcl : w6.cell? ⟨gl, off + i, none⟩ = some (.int .i64 d) := by
                rw [← hd]
                exact (H8.out.lo.cell (p := ⟨gl, off + i, none⟩) hgl).trans (hcl0 i (by omega))
              clear hcl0 hd
              obtain ⟨r, m, hr1, hr2, hr3, hr4, hr5, hr6, hr7⟩ := rem_twice d 2 (by omega) (by omega)
              by_cases h3 : d.tmod 3 = 0
              · go_wp2_with fail
                refine (hs_sweep H8.out m).mono ?_
                rintro e w20 ⟨x, s20, rfl, hh, hs1, hs2⟩
                have H20 : Hid (HS w w20 B b 2 [3] s20 ∧ s20.ser = se ∧ s20.giv = 3 * (se)) := ⟨hh, by rw [hs1]; exact G8.out.1, by rw [hs2]; exact G8.out.2⟩
                clear hh hs1 hs2
                go_wp2_with fail
                go_roundw
                case rel => exact ⟨i + 1, se, s20, by omega, by go_num, by go_num, by omega, H20⟩
                case measure => simp [intOf]; omega
              · go_wp2_with fail
                go_roundw
                case rel => exact ⟨i + 1, se, _, by omega, by go_num, by go_num, by omega, H8.out, G8.out⟩
                case measure => simp [intOf]; omega
            · go_wp2_with fail
              go_roundw
              case rel => exact ⟨i + 1, se, _, by omega, by go_num, by go_num, by omega, H8.out, G8.out⟩
              case measure => simp [intOf]; omega
        · as_aux_lemma =>
          have H8 : Hid (HS w w7 B b 2 [3] s) := hh
          have G8 : Hid (s.ser = se ∧ s.giv = 3 * se) := H6.out.2
          clear hn hh H6
          go_upto_region 18 with (fail)
          by_cases hDl : (i : Int) < (D.length : Int)
          · rcases HD.out with ⟨e, _⟩ | ⟨gl, off, cc, e, hgl, hcl0⟩
            · exfalso
              rw [e] at hDl
              simp at hDl
              omega
            cases e
            obtain ⟨d, hd⟩ : ∃ d, D.getD i 0 = d := ⟨_, rfl⟩
            have hcl : w7.cell? ⟨gl, off + i, none⟩ = some (.int .i64 d) := by
              rw [← hd]
              exact (H8.out.lo.cell (p := ⟨gl, off + i, none⟩) hgl).trans (hcl0 i (by omega))
            clear hcl0 hd
            obtain ⟨r, m, hr1, hr2, hr3, hr4, hr5, hr6, hr7⟩ := rem_twice d 2 (by omega) (by omega)
            by_cases h3 : d.tmod 3 = 0
            · go_wp2_with fail
              refine (hs_sweep H8.out m).mono ?_
              rintro e w20 ⟨x, s20, rfl, hh, hs1, hs2⟩
              have H20 : Hid (HS w w20 B b 2 [3] s20 ∧ s20.ser = se ∧ s20.giv = 3 * (se)) := ⟨hh, by rw [hs1]; exact G8.out.1, by rw [hs2]; exact G8.out.2⟩
              clear hh hs1 hs2
              go_wp2_with fail
              go_roundw
              case rel => exact ⟨i + 1, se, s20, by omega, by go_num, by go_num, by omega, H20⟩
              case measure => simp [intOf]; omega
            · go_wp2_with fail
              go_roundw
              case rel => exact ⟨i + 1, se, _, by omega, by go_num, by go_num, by omega, H8.out, G8.out⟩
              case measure => simp [intOf]; omega
          · go_wp2_with fail
            go_roundw
            case rel => exact ⟨i + 1, se, _, by omega, by go_num, by go_num, by omega, H8.out, G8.out⟩
            case measure => simp [intOf]; omega
    · as_aux_lemma =>
      have hg : (s.giv : Int) = 3 * (se : Int) := by rw [HR.out.2.2]; omega
      go_wp2_with fail
      refine (given_any HR.out.1.hp).mono ?_
      rintro e w13 ⟨rfl, rfl⟩
      go_wp2_with fail
      go_ret
      exact ⟨by simp, HR.out.1.lo⟩
theorem serials_any (n : Int) (D : List Int) (a : Option Addr) (c : Nat) (w : World) (hT : Tab w) (hD : SrcAt w (.slice a D.length c) D) :
    Calls Tryd.prog 4 #[.int .i64 n, .slice a D.length c] w fun e w' => e = .returned (.bool true) ∧ Below w.heap.size w w' := by
  by_cases h : n < 1 ∨ 100 < n ∨ 60 < D.length
  · exact serials_few n a D.length c w hT h
  · obtain ⟨m, rfl⟩ := Int.eq_ofNat_of_zero_le (a := n) (by omega)
    exact serials_main m D a c w hT (by omega) (by omega) (by omega) hD

end Go.Proofs.YtfkimmbnmcgjiaaDoor

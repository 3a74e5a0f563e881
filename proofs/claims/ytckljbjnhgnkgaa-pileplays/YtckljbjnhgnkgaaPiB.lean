/- The walk of a Pile's Put. -/
import Derived.Test.YtckljbjnhgnkgaaPiA
namespace Go.Proofs.Ytckljbjnhgnkgaa
open Go.RowKit

theorem Try.info2 : (Try.prog.info? 2).map (fun i => (i.zero, i.size, i.bytes)) = some (some (.int .i64 0), 1, 8) := by kernel_rfl
theorem new_at (w : World) (v : Value) (t : TypeId) : ∀ j u, [v][j]? = some u → (w.alloc (.cells #[v] t)).cell? ((⟨w.heap.size, 0, none⟩ : Addr).add j) = some u := by
  intro j u hj
  match j, hj with
  | 0, hj => simp at hj; subst hj; simp [Addr.add]
theorem all_one {v : Value} (h : v.oneCell' = true) : ∀ u ∈ [v], u.oneCell' = true := by
  intro u hu; simp at hu; subst hu; exact h

/-- One more is on top: behind the append, and behind the store of the new slice. -/
theorem PiAt.put {wa w3 : World} {B b g cap : Nat} {v : Value} {R : Nat} {L : List Int} {l : Bool} {x : Int} (h : PiAt wa B b v R L l) (hl : L.length + 1 ≤ R)
    (ho : w3.ownsRow B 2 1 (.slice (some ⟨g, 0, none⟩) (L.length + 1) cap) (L.length + 1) (L.map (Value.int .i64) ++ [.int .i64 x])) (hg : wa.grownBy w3 v.ownBlock) (hat : (∃ n0, v = .slice (some ⟨g, 0, none⟩) n0 cap) ∨ wa.heap.size ≤ g) :
    PiAt (w3.setCell ⟨b, 0, none⟩ (.slice (some ⟨g, 0, none⟩) (L.length + 1) cap)) B b (.slice (some ⟨g, 0, none⟩) (L.length + 1) cap) R (L ++ [x]) l ∧
      Pf b v.ownBlock wa (w3.setCell ⟨b, 0, none⟩ (.slice (some ⟨g, 0, none⟩) (L.length + 1) cap)) ∧ (v.ownBlock = some g ∨ wa.heap.size ≤ g) ∧ w3.frozen? ⟨b, 0, none⟩ = false ∧ w3.cell? ⟨b, 0, none⟩ = some v := by
  have hr : w3.rowIs b 39 3 (piC v R l) := h.hd.of_block (hg.block _ h.lt (fun e => h.ne e.symm))
  refine ⟨h.set0 (L' := L ++ [x]) hr (by simpa using ho) (by simpa using hl), (Pf.of_grown hg).trans (o' := v.ownBlock) (Pf.of_but ((But.refl _ _).setCell 0 _)) (Or.inl rfl), ?_, hr.frozen 0, hr.cell (i := 0) (by decide)⟩
  rcases hat with ⟨n0, rfl⟩ | hat
  · exact Or.inl rfl
  · exact Or.inr hat

/-- What Put leaves. -/
structure PutAt (w w' : World) (B b : Nat) (v v' : Value) (R : Nat) (L : List Int) (l : Bool) : Prop where
  at_ : PiAt w' B b v' R L l
  fr : Pf b v.ownBlock w w'
  own : v'.ownBlock = v.ownBlock ∨ ∀ k, v'.ownBlock = some k → w.heap.size ≤ k

theorem PutAt.next {w wr w9 : World} {B b : Nat} {v vr v9 : Value} {R g : Nat} {L L9 : List Int} {l l9 : Bool} (h : PutAt w wr B b v vr R L l) (h9 : PiAt w9 B b v9 R L9 l9) (f9 : Pf b vr.ownBlock wr w9) (e : v9.ownBlock = some g) (hat : vr.ownBlock = some g ∨ wr.heap.size ≤ g) : PutAt w w9 B b v v9 R L9 l9 := by
  refine ⟨h9, h.fr.trans f9 ?_, ?_⟩
  · rcases h.own with h1 | h1
    · exact Or.inl h1
    · exact Or.inr h1
  · rcases hat with h1 | h1
    · rw [e, ← h1]; exact h.own
    · right
      intro k hk
      rw [e] at hk
      cases hk
      exact Nat.le_trans h.fr.size h1

theorem put_nil (w : World) (x : Value) :
    Calls Try.prog 9 #[.pointer none, x] w fun e w' => e = .returned (.int .i64 0) ∧ w' = w := by
  go_enter Try.func9, Try.ntmps9
  go_wp2_with fail
  refine (ready_nil _).mono ?_
  rintro e w' ⟨rfl, rfl⟩
  go_wp2_with fail
  go_ret
  exact ⟨rfl, rfl⟩


theorem Pf.drewN' {b : Nat} {o : Option Nat} (a : World) (q : Nat) : Pf b o a (a.drewN q) := (Pf.refl _ _ _).drewN q
theorem PutAt.lost {w wr : World} {B b : Nat} {v vr : Value} {R : Nat} {L : List Int} {l : Bool} (h : PutAt w wr B b v vr R L l) : PutAt w (wr.setCell ⟨b, 2, none⟩ (.bool true)) B b v vr R L true :=
  ⟨h.at_.set2 true, h.fr.trans (o' := v.ownBlock) (Pf.of_but ((But.refl _ _).setCell 2 _)) (Or.inl rfl), h.own⟩
theorem PutAt.one {w wr w3 : World} {B b g cap : Nat} {v vr : Value} {R : Nat} {L : List Int} {l : Bool} {x : Int} (h : PutAt w wr B b v vr R L l) (o : Obj) (hl : L.length + 1 ≤ R)
    (ho : w3.ownsRow B 2 1 (.slice (some ⟨g, 0, none⟩) (L.length + 1) cap) (L.length + 1) (L.map (Value.int .i64) ++ [.int .i64 x])) (hg : (wr.alloc o).grownBy w3 vr.ownBlock) (hat : (∃ n0, vr = .slice (some ⟨g, 0, none⟩) n0 cap) ∨ (wr.alloc o).heap.size ≤ g) :
    PutAt w (w3.setCell ⟨b, 0, none⟩ (.slice (some ⟨g, 0, none⟩) (L.length + 1) cap)) B b v (.slice (some ⟨g, 0, none⟩) (L.length + 1) cap) R (L ++ [x]) l ∧ w3.frozen? ⟨b, 0, none⟩ = false ∧ w3.cell? ⟨b, 0, none⟩ = some vr := by
  obtain ⟨h1, h2, h3, h4⟩ := (h.at_.alloc o).put hl ho hg hat
  refine ⟨h.next h1 ((Pf.of_below (o := vr.ownBlock) ((Below.refl _ _).alloc (Nat.le_refl _) o)).trans h2 (Or.inl rfl)) rfl ?_, h4⟩
  rcases h3 with h3 | h3
  · exact Or.inl h3
  · right; rw [World.size_alloc] at h3; exact Nat.le_of_succ_le h3

set_option maxRecDepth 100000 in
set_option maxHeartbeats 4000000 in
theorem put_core (w : World) {B b : Nat} {v : Value} {R : Nat} {L : List Int} {l : Bool} {bs off c K m : Nat} {M : List Int} (h : PiAt w B b v R L l) (hB : B ≤ w.heap.size)
    (hx : ∀ w', Pf b v.ownBlock w w' → ∀ j, j < M.length → w'.cell? ⟨bs, off + j, none⟩ = some (.int .i64 (M.getD j 0))) (hm : M.length = m) (hc : m ≤ c) (hcm : c ≤ maxLen) (hK : min m (R - L.length) = K) :
    Calls Try.prog 9 #[.pointer (some ⟨b, 0, none⟩), .slice (some ⟨bs, off, none⟩) m c] w fun e w' => e = .returned (.int .i64 (K : Int)) ∧
      ∃ v', PutAt w w' B b v v' R (L ++ M.take K) (l || decide (K < m)) := by
  obtain ⟨i0, hi, hz0, hz1, hz2⟩ := info_parts Try.info2
  obtain ⟨a0, c0, rfl⟩ := h.len
  have HX : Hid (∀ w', Pf b (Value.slice a0 L.length c0).ownBlock w w' → ∀ j, j < M.length → w'.cell? ⟨bs, off + j, none⟩ = some (.int .i64 (M.getD j 0))) := hx
  clear hx
  have HR2 : Hid (R ≤ 1000 ∧ L.length ≤ R ∧ B ≤ b ∧ B ≤ w.heap.size) := ⟨h.r2, h.le, h.bB, hB⟩
  have hr2 := h.r2
  have hle := h.le
  unfold maxLen at hcm
  have HM : Hid (M.length = m) := hm
  clear hm
  obtain ⟨D, hD⟩ : ∃ D : Nat, R = L.length + D := ⟨R - L.length, by omega⟩
  have HD : Hid (R = L.length + D) := hD
  have hsub : IntKind.i64.wrap ((R : Int) - (L.length : Int)) = (D : Int) := by rw [IntKind.wrap_i64]; omega
  have hK2 : K = D ∧ K < m ∨ K = m ∧ m ≤ D := by omega
  have hc0' := h.c0
  have hc1' := h.c1
  have H : Hid (PiAt w B b (.slice a0 L.length c0) R L l) := h
  have HS : Hid (∀ q, PutAt w (w.drewN q) B b (.slice a0 L.length c0) (.slice a0 L.length c0) R (L ++ M.take 0) l) := fun q => ⟨by simpa using h.drewN q, (Pf.refl _ _ _).drewN q, Or.inl rfl⟩
  have hDm : D ≤ 1000 := by omega
  clear h hK hB hr2 hle hD
  go_enter Try.func9, Try.ntmps9
  go_wp2_with fail
  refine (ready_any _ H.out).mono ?_
  rintro e wz ⟨rfl, hwz⟩
  subst wz
  rcases hK2 with ⟨rfl, hlt⟩ | ⟨rfl, hge⟩
  all_goals
    go_wp2_with fail
    go_quiet (fail)
    go_wp2_with fail
    rename_i nq _ _
    have HS1 : Hid (PutAt w (w.drewN nq) B b (.slice a0 L.length c0) (.slice a0 L.length c0) R (L ++ M.take 0) l) := HS.out nq
    clear HS hc0' hc1' hsub H
    generalize w.drewN nq = w0 at *
    go_loopw [30] (fun i wr => ∃ j : Nat, j ≤ K ∧ i = .int .i64 j ∧ ∃ vr, Hid (PutAt w wr B b (.slice a0 L.length c0) vr R (L ++ M.take j) l)) (fun i _ => K - (intOf i).toNat)
    case atStart => exact ⟨0, Nat.zero_le _, rfl, _, HS1⟩
    case round =>
      obtain ⟨j, hj, rfl, vr, HR⟩ := hrel
      by_cases hjK : j < K
      · have hln : (L ++ M.take j).length = L.length + j := by have := HM.out; simp; omega
        obtain ⟨ai, ci, hv⟩ := HR.out.at_.len
        rw [hln] at hv
        subst hv
        have hs := HX.out wr HR.out.fr j (by have := HM.out; omega)
        have HT : Hid (L ++ M.take (j + 1) = (L ++ M.take j) ++ [M.getD j 0]) := by
          show _ = _
          rw [take_snocD M j (by have := HM.out; omega), List.append_assoc]
        generalize M.getD j 0 = x at *
        generalize L ++ M.take j = L2 at *
        have hcv := HR.out.at_.c0
        have HO : Hid (wr.ownsRow B 2 1 (.slice ai (L.length + j) ci) (L.length + j) (L2.map (Value.int .i64))) := by
          have := HR.out.at_.ow
          rw [hln] at this
          exact this
        have HH : Hid (L.length + j + 1 ≤ maxLen ∧ (L.length + j + 1) * 8 ≤ 140737488355328 ∧ B ≤ (wr.alloc (.cells #[.int .i64 x] 2)).heap.size) := ⟨by unfold maxLen; have := HR2.out; have := HD.out; omega, by have := HR2.out; have := HD.out; omega, by
          have h1 := HR.out.fr.size
          have h2 := HR2.out.2.2.2
          rw [World.size_alloc]; omega⟩
        go_wp2_with (at_builtin; refine wpList_append_keep _ rfl _ _ 37 rfl B 2 i0 (.int .i64 0) 8 Try.underlying37 hi hz0 hz1 hz2 rfl _ _ _ rfl (HO.out.alloc _) ⟨wr.heap.size, 0, none⟩ 1 1 [.int .i64 x] rfl rfl (new_at wr _ _) (all_one rfl) (by decide) HH.out.1 HH.out.2.1 HH.out.2.2 ?_)
        intro g cap w3 ho3 hold hgrow hat
        have hN := HR.out.one (x := x) (g := g) (cap := cap) (w3 := w3) (.cells #[.int .i64 x] 2) (by rw [hln]; have := HR2.out; have := HD.out; omega) (by rw [hln]; exact ho3) hgrow (by
          rcases hat with ⟨rfl, rfl⟩ | hat
          · exact Or.inl ⟨_, rfl⟩
          · right; rw [World.size_alloc]; exact hat)
        rw [hln] at hN
        have hfz := hN.2.1
        have hc3 := hN.2.2
        have HN : Hid (PutAt w (w3.setCell ⟨b, 0, none⟩ (.slice (some ⟨g, 0, none⟩) (L.length + j + 1) cap)) B b (.slice a0 L.length c0) (.slice (some ⟨g, 0, none⟩) (L.length + j + 1) cap) R (L ++ M.take (j + 1)) l) := by
          rw [HT.out]
          exact hN.1
        have hb3 : b < w3.heap.size := by
          have := HR.out.at_.lt
          have h2 := hgrow.size
          rw [World.size_alloc] at h2
          omega
        clear hN ho3 hold hgrow hat
        go_wp2_with fail
        go_roundw
        case rel => exact ⟨j + 1, by omega, by go_num, _, HN⟩
        case measure => simp [intOf]; omega
      · have e : j = K := by omega
        subst e
        have hc2 := HR.out.at_.c2
        have hf2 := HR.out.at_.fz 2
        have hb2 := HR.out.at_.lt
        go_wp2_with fail
        go_ret
        refine ⟨rfl, vr, ?_⟩
        first
          | (rw [decide_eq_true hlt, Bool.or_true]; exact HR.out.lost)
          | (rw [decide_eq_false (Nat.lt_irrefl _), Bool.or_false]; exact HR.out)

end Go.Proofs.Ytckljbjnhgnkgaa

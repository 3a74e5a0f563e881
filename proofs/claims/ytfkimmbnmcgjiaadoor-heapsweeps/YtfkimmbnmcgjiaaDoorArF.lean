/- The walk of Take. -/
import Derived.Test.YtfkimmbnmcgjiaaDoorArD
import Derived.Test.YtfkimmbnmcgjiaaDoorKpD
namespace Go.Proofs.YtfkimmbnmcgjiaaDoor
open Go.RowKit

/-- No page below j is of class c and has a slot that is not used. -/
def NoFit (P : Nat → Option PSt) (c : Int) (j : Nat) : Prop := ∀ k, k < j → ∀ p, P k = some p → p.c = c → ∀ x, x < p.n → p.U x = true
structure Fit (P : Nat → Option PSt) (c : Int) (k z : Nat) (p : PSt) : Prop where
  hp : P k = some p
  hc : p.c = c
  hz : z < p.n
  hu : p.U z = false
  hl : ∀ y, y < z → p.U y = true
theorem fit_or (P : Nat → Option PSt) (c : Int) : ∀ j, NoFit P c j ∨ ∃ k z p, k < j ∧ NoFit P c k ∧ Fit P c k z p
  | 0 => Or.inl fun k hk => by omega
  | j + 1 => by
    rcases fit_or P c j with h | ⟨k, z, p, h1, h2, h3⟩
    · cases hp : P j with
      | none =>
        refine Or.inl fun k hk p hq => ?_
        by_cases e : k = j
        · subst e; rw [hp] at hq; cases hq
        · exact h k (by omega) p hq
      | some p =>
        by_cases hc : p.c = c
        · rcases least_or p.n p.U with hl | ⟨z, g1, g2, g3⟩
          · refine Or.inl fun k hk q hq hcq => ?_
            by_cases e : k = j
            · subst e; rw [hp] at hq; cases hq; exact hl
            · exact h k (by omega) q hq hcq
          · exact Or.inr ⟨j, z, p, by omega, h, hp, hc, g1, g2, g3⟩
        · refine Or.inl fun k hk q hq hcq => ?_
          by_cases e : k = j
          · subst e; rw [hp] at hq; cases hq; exact absurd hcq hc
          · exact h k (by omega) q hq hcq
    · exact Or.inr ⟨k, z, p, by omega, h2, h3⟩

theorem step_clear {P : Program} {ops : Array Oper} {o : Oper} {a : Act} {w : World} {K : Act → World → Prop} {Q : Exit → Act → World → Prop} {E : Prop} (hg : o.guard = none) (x : Operand) (t : TypeId)
    (ho : o.op = Op.call { callee := Callee.builtin .clear, args := #[x], argTypes := #[t] }) (u : Value) (hx : a.eval x = u) (w' : World) (hrun : ∀ ty, (Builtin.clear_ #[t] ty #[u]).run P w = .ok (.tuple #[]) w')
    (hK : K (a.put o.dst (.tuple #[])) w') : if Region.wanted o (yielded ops a.tmps) = true then Oper.wp P o a w K Q else E := by
  have hw : Region.wanted o (yielded ops a.tmps) = true := by simp [Region.wanted, hg]
  rw [if_pos hw]
  unfold Oper.wp
  simp [execOp, ho, resolve, invoke, builtin, hx, hrun, Result.andThen]
  exact hK
theorem run_size (c : Int) (w : World) : (callFunc 44 #[.int .i64 c]).run Tryd.prog w = .ok (.enter 44 #[.int .i64 c]) w := by
  simp [go_sem]

set_option maxHeartbeats 400000 in
theorem atake_nil (c : Int) (w : World) :
    Calls Tryd.prog 24 #[.pointer none, .int .i64 c] w fun e w' => e = .returned (.tuple #[.int .i64 0, .bool false]) ∧ w' = w := by
  go_enter Tryd.func24, Tryd.ntmps24
  go_wp2
  go_ret2
  exact ⟨rfl, rfl⟩

section
variable (c : Int) (w : World) {B ba bp bw n : Nat} {P : Nat → Option PSt} {W : Nat → Int} (h : ArAt w B ba bp bw n P W)
include h
set_option maxHeartbeats 1000000 in
theorem atake_none (hf : NoFit P c n) :
    Calls Tryd.prog 24 #[.pointer (some ⟨ba, 0, none⟩), .int .i64 c] w fun e w' => e = .returned (.tuple #[.int .i64 0, .bool false]) ∧ ∃ q, w' = w.drewN q := by
  have HF : Hid (NoFit P c n) := hf
  have H : Hid (ArAt w B ba bp bw n P W) := h
  have hN := h.n64
  have h0 := h.c0
  clear hf h
  go_enter Tryd.func24, Tryd.ntmps24
  go_wp2_with fail
  go_loopw [19] (fun i wr => (∃ q, wr = w.drewN q) ∧ ∃ j : Nat, j ≤ n ∧ i = .int .i64 j) (fun i _ => n - (intOf i).toNat)
  case atStart => exact ⟨⟨0, rfl⟩, 0, Nat.zero_le _, rfl⟩
  case round =>
    obtain ⟨hq, j, hj, rfl⟩ := hrel
    have H1 : Hid (ArAt wr B ba bp bw n P W) := by obtain ⟨q, rfl⟩ := hq; exact H.out.drewN q
    have HQ : Hid (∃ q, wr = w.drewN q) := hq
    clear hq
    by_cases hlt : j < n
    · have h1 := H1.out.cp hlt
      cases hp : P j with
      | none =>
        rw [hp] at h1
        change wr.cell? ⟨bp, j, none⟩ = some (.pointer none) at h1
        by_cases hc : c = -1
        · subst hc
          go_wp2_with fail
          refine (class_nil _).mono ?_
          rintro e w' ⟨rfl, rfl⟩
          go_wp2_with fail
          refine (take_nil _).mono ?_
          rintro e w' ⟨rfl, rfl⟩
          go_wp2_with fail
          go_roundw
          case rel => exact ⟨HQ.out, j + 1, by omega, by go_num⟩
          case measure => simp [intOf]; omega
        · have hne : ((-1 : Int) != c) = true := by rw [bne_iff_ne]; omega
          go_wp2_with fail
          refine (class_nil _).mono ?_
          rintro e w' ⟨rfl, rfl⟩
          go_wp2_with fail
          go_roundw
          case rel => exact ⟨HQ.out, j + 1, by omega, by go_num⟩
          case measure => simp [intOf]; omega
      | some p =>
        have HP : Hid (P j = some p) := hp
        rw [hp] at h1
        change wr.cell? ⟨bp, j, none⟩ = some (.pointer (some ⟨p.blk, 0, none⟩)) at h1
        clear hp
        by_cases hc : p.c = c
        · have hne : (p.c != c) = false := by simp [hc]
          have HC : Hid (p.c = c) := hc
          clear hc
          go_wp2_with fail
          refine (class_any _ (H1.out.pg j p HP.out)).mono ?_
          rintro e w' ⟨rfl, rfl⟩
          go_wp2_with fail
          refine (take_none _ (H1.out.pg j p HP.out) (HF.out j hlt p HP.out HC.out)).mono ?_
          rintro e w' ⟨rfl, q, rfl⟩
          go_wp2_with fail
          go_roundw
          case rel => exact ⟨drewN_more HQ.out _, j + 1, by omega, by go_num⟩
          case measure => simp [intOf]; omega
        · have hne : (p.c != c) = true := by rw [bne_iff_ne]; exact hc
          clear hc
          go_wp2_with fail
          refine (class_any _ (H1.out.pg j p HP.out)).mono ?_
          rintro e w' ⟨rfl, rfl⟩
          go_wp2_with fail
          go_roundw
          case rel => exact ⟨HQ.out, j + 1, by omega, by go_num⟩
          case measure => simp [intOf]; omega
    · have e : j = n := by omega
      subst e
      go_wp2_with fail
      go_ret2
      exact ⟨rfl, HQ.out⟩

set_option maxRecDepth 100000 in
set_option maxHeartbeats 2000000 in
theorem atake_some {k z : Nat} {p : PSt} (hf : NoFit P c k) (hi : Fit P c k z p) (hT : Tab w) :
    Calls Tryd.prog 24 #[.pointer (some ⟨ba, 0, none⟩), .int .i64 c] w fun e w' => e = .returned (.tuple #[.int .i64 (adr k z p.sz : Nat), .bool true]) ∧
      ArAt w' B ba bp bw n (upP P k (some ⟨p.blk, p.c, up p.U z true, p.M⟩)) (clrF W (32 * k + z * p.sz) p.sz) ∧ ∃ w2, But p.blk w w2 ∧ But bw w2 w' := by
  have HF : Hid (NoFit P c k) := hf
  have HI : Hid (Fit P c k z p) := hi
  have H : Hid (ArAt w B ba bp bw n P W) := h
  have HT : Hid (Tab w) := hT
  have hN := h.n64
  have h0 := h.c0
  have hk := h.klt hi.hp
  clear hf h hi hT
  go_enter Tryd.func24, Tryd.ntmps24
  go_wp2_with fail
  go_loopw [19] (fun i wr => (∃ q, wr = w.drewN q) ∧ ∃ j : Nat, j ≤ k ∧ i = .int .i64 j) (fun i _ => n - (intOf i).toNat)
  case atStart => exact ⟨⟨0, rfl⟩, 0, Nat.zero_le _, rfl⟩
  case round =>
    obtain ⟨hq, j, hj, rfl⟩ := hrel
    have H1 : Hid (ArAt wr B ba bp bw n P W) := by obtain ⟨q, rfl⟩ := hq; exact H.out.drewN q
    have HT1 : Hid (Tab wr) := by obtain ⟨q, rfl⟩ := hq; exact HT.out.drewN q
    have HQ : Hid (∃ q, wr = w.drewN q) := hq
    clear hq
    have hlt : j < n := by omega
    have h1 := H1.out.cp hlt
    by_cases hjk : j < k
    · cases hp : P j with
      | none => as_aux_lemma =>
        rw [hp] at h1
        change wr.cell? ⟨bp, j, none⟩ = some (.pointer none) at h1
        by_cases hc : c = -1
        · subst hc
          go_wp2_with fail
          refine (class_nil _).mono ?_
          rintro e w' ⟨rfl, rfl⟩
          go_wp2_with fail
          refine (take_nil _).mono ?_
          rintro e w' ⟨rfl, rfl⟩
          go_wp2_with fail
          go_roundw
          case rel => exact ⟨HQ.out, j + 1, by omega, by go_num⟩
          case measure => simp [intOf]; omega
        · have hne : ((-1 : Int) != c) = true := by rw [bne_iff_ne]; omega
          go_wp2_with fail
          refine (class_nil _).mono ?_
          rintro e w' ⟨rfl, rfl⟩
          go_wp2_with fail
          go_roundw
          case rel => exact ⟨HQ.out, j + 1, by omega, by go_num⟩
          case measure => simp [intOf]; omega
      | some p' => as_aux_lemma =>
        have HP : Hid (P j = some p') := hp
        rw [hp] at h1
        change wr.cell? ⟨bp, j, none⟩ = some (.pointer (some ⟨p'.blk, 0, none⟩)) at h1
        clear hp
        by_cases hc : p'.c = c
        · have hne : (p'.c != c) = false := by simp [hc]
          have HC : Hid (p'.c = c) := hc
          clear hc
          go_wp2_with fail
          refine (class_any _ (H1.out.pg j p' HP.out)).mono ?_
          rintro e w' ⟨rfl, rfl⟩
          go_wp2_with fail
          refine (take_none _ (H1.out.pg j p' HP.out) (HF.out j hjk p' HP.out HC.out)).mono ?_
          rintro e w' ⟨rfl, q, rfl⟩
          go_wp2_with fail
          go_roundw
          case rel => exact ⟨drewN_more HQ.out _, j + 1, by omega, by go_num⟩
          case measure => simp [intOf]; omega
        · have hne : (p'.c != c) = true := by rw [bne_iff_ne]; exact hc
          clear hc
          go_wp2_with fail
          refine (class_any _ (H1.out.pg j p' HP.out)).mono ?_
          rintro e w' ⟨rfl, rfl⟩
          go_wp2_with fail
          go_roundw
          case rel => exact ⟨HQ.out, j + 1, by omega, by go_num⟩
          case measure => simp [intOf]; omega
    · have e : j = k := by omega
      subst e
      rw [HI.out.hp] at h1
      change wr.cell? ⟨bp, j, none⟩ = some (.pointer (some ⟨p.blk, 0, none⟩)) at h1
      have hne : (p.c != c) = false := by simp [HI.out.hc]
      go_wp2_with fail
      refine (class_any _ (H1.out.pg j p HI.out.hp)).mono ?_
      rintro e w' ⟨rfl, rfl⟩
      go_wp2_with fail
      refine (take_some _ z (H1.out.pg j p HI.out.hp) HT1.out HI.out.hz HI.out.hu HI.out.hl).mono ?_
      rintro e w2 ⟨rfl, hq, hg⟩
      have H2 : Hid (ArAt w2 B ba bp bw n (upP P j (some ⟨p.blk, p.c, up p.U z true, p.M⟩)) W) := H1.out.setP HI.out.hp hg hq
      have HG : Hid (But p.blk w w2) := by obtain ⟨q, rfl⟩ := HQ.out; exact ((But.refl _ _).drewN q).trans hg
      have HPj : Hid (upP P j (some ⟨p.blk, p.c, up p.U z true, p.M⟩) j = some ⟨p.blk, p.c, up p.U z true, p.M⟩) := upP_same _ _ _
      clear hq hg h1 h0 H1
      go_wp2_with fail
      refine (base_some j z _ H2.out HPj.out HI.out.hz).mono ?_
      rintro e w' ⟨rfl, rfl⟩
      have hn : PNum p p.sz p.n := H.out.num HI.out.hp
      have hsl := slot_le hn.m HI.out.hz
      have HSZ : Hid (szN c = ((p.sz : Nat) : Int)) := by rw [← HI.out.hc]; exact hn.hs
      have hs1 := hn.s1
      have hs16 := hn.s16
      obtain ⟨x, hx⟩ : ∃ x, x = 32 * j + z * p.sz := ⟨_, rfl⟩
      have hxn : x + p.sz ≤ 32 * n := by omega
      obtain ⟨a0, ha0⟩ : ∃ a0, a0 = adr j z p.sz := ⟨_, rfl⟩
      have ha : a0 = 1048576 + x := by rw [ha0]; unfold adr; omega
      have HA : Hid (adr j z (PSt.sz ⟨p.blk, p.c, up p.U z true, p.M⟩) = a0) := ha0.symm
      have HA2 : Hid (adr j z p.sz = a0) := ha0.symm
      have HX : Hid (32 * j + z * p.sz = x) := hx.symm
      have haI : (a0 : Int) - 1048576 = (x : Int) := by omega
      have hab : a0 ≤ 2000000 := by omega
      rw [HA.out]
      have h3 := H2.out.c1
      obtain ⟨m, hm⟩ : ∃ m, m = 32 * n := ⟨_, rfl⟩
      have hm2 : m ≤ 2048 := by omega
      have HW := H2.out.wo
      rw [← hm] at h3 hxn HW
      have HCL : Hid (∀ q ty, (Builtin.clear_ #[22] ty #[.slice (some ⟨bw, x, none⟩) p.sz (m - x)]).run Tryd.prog (w'.drewN q) = .ok (.tuple #[]) ((w'.drewN q).setCells bw x (List.replicate p.sz (.int .i64 0)))) := fun q ty => run_clear_ints ty (show (w'.drewN q).rowIs _ _ _ _ from HW) (by omega) hxn
      have HS2 : Hid (∀ q, ArAt ((w'.drewN q).setCells bw x (List.replicate p.sz (.int .i64 0))) B ba bp bw n (upP P j (some ⟨p.blk, p.c, up p.U z true, p.M⟩)) (clrF W x p.sz) ∧ But bw w' ((w'.drewN q).setCells bw x (List.replicate p.sz (.int .i64 0)))) := by
        intro q
        have g : But bw w' ((w'.drewN q).setCells bw x (List.replicate p.sz (.int .i64 0))) := But.zeros _ _ _ ((But.refl _ _).drewN q)
        have t := Ty.of_but (B := 0) g H2.out.wo (Nat.zero_le _)
        exact ⟨⟨t.row H2.out.hd (by decide), t.row H2.out.pr (by decide), row_zeros _ _ _ _ (show (w'.drewN q).rowIs _ _ _ _ from H2.out.wo), fun k p e => (H2.out.pg k p e).ty t (by decide), H2.out.ap, H2.out.out, H2.out.n64, H2.out.b0, H2.out.b1, H2.out.b2, H2.out.b3⟩, g⟩
      clear HW hn hsl hx ha hm HPj ha0
      generalize hps : p.sz = s at *
      have HPS : Hid (p.sz = s) := hps
      clear hps
      obtain ⟨e, he⟩ : ∃ e, e = x + s := ⟨_, rfl⟩
      have hwr : IntKind.i64.wrap ((x : Int) + (s : Int)) = (e : Int) := by rw [IntKind.wrap_i64]; omega
      have he1 : (e : Int) ≤ (m : Int) := by omega
      have he2 : x ≤ e := by omega
      have he3 : e - x = s := by omega
      have he4 : ¬ m = x := by omega
      clear he hxn
      go_upto_region 11 with (fail)
      go_region_law (first | (refine step_call1 (by rfl) _ 44 _ (by rfl) _ (by rfl) (fun v w'' => v = .int .i64 (s : Int) ∧ w'' = w'.drewN 1) ((size_any' HSZ.out _).mono (fun e w'' h => ⟨_, h.1, rfl, h.2⟩)) (run_size _ _) ?_; rintro v w'' ⟨rfl, rfl⟩) | (refine step_clear (by rfl) _ 22 (by rfl) _ (by rfl) _ (HCL.out 1) ?_))
      all_goals
        go_wp2
        go_ret2
        exact ⟨by rw [HPS.out, HA2.out]; rfl, by rw [HPS.out, HX.out]; exact (HS2.out 1).1, w', HG.out, (HS2.out 1).2⟩
end

end Go.Proofs.YtfkimmbnmcgjiaaDoor

/- The walk of image's Read. -/
import Derived.Test.YtkgicalkcbagaaaImH
namespace Go.Proofs.Ytkgicalkcbagaaa
open Go.RowKit

theorem many_step {α : Type} {r : List Int → Option (α × List Int)} {S1 Sj Sk : Option (List Int)} {n j : Nat} {l : List α} {y : α} (hj : j < n) (h : S1.bind (rMany r n) = Sj.bind fun t => (rMany r (n - j) t).map fun q => (l ++ q.1, q.2)) (hy : Sj.bind r = Sk.map fun t => (y, t)) :
    S1.bind (rMany r n) = Sk.bind fun t => (rMany r (n - (j + 1)) t).map fun q => ((l ++ [y]) ++ q.1, q.2) := by
  rw [h, show n - j = (n - (j + 1)) + 1 from by omega]
  generalize n - (j + 1) = m
  cases Sj with
  | none => cases Sk with
    | none => rfl
    | some t => cases hy
  | some t =>
    have hy' : r t = Sk.map fun t => (y, t) := hy
    show ((r t).bind fun q => (rMany r m q.2).bind fun z => some (q.1 :: z.1, z.2)).map _ = _
    rw [hy']
    cases Sk with
    | none => rfl
    | some u =>
      show ((rMany r m u).bind fun z => some (y :: z.1, z.2)).map (fun q => (l ++ q.1, q.2)) = (rMany r m u).map fun q => ((l ++ [y]) ++ q.1, q.2)
      cases rMany r m u with
      | none => rfl
      | some z => simp
theorem many_end {α : Type} {r : List Int → Option (α × List Int)} {S1 Sj : Option (List Int)} {n : Nat} {l : List α} (h : S1.bind (rMany r n) = Sj.bind fun t => (rMany r (n - n) t).map fun q => (l ++ q.1, q.2)) : S1.bind (rMany r n) = Sj.map fun t => (l, t) := by
  rw [h, Nat.sub_self]
  cases Sj with
  | none => rfl
  | some t => simp [rMany]
theorem many_start {α : Type} (r : List Int → Option (α × List Int)) (S1 : Option (List Int)) (n : Nat) : S1.bind (rMany r n) = S1.bind fun t => (rMany r (n - 0) t).map fun q => (([] : List α) ++ q.1, q.2) := by
  cases S1 with
  | none => rfl
  | some t => simp
theorem count_of {α : Type} {r : List Int → Option (α × List Int)} {S S1 S2 : Option (List Int)} {n : Nat} {l : List α} (h1 : S.bind rN = S1.map fun t => ((n : Int), t)) (h2 : S1.bind (rMany r n) = S2.map fun t => (l, t)) : S.bind (rCount r) = S2.map fun t => (l, t) :=
  bind_count (g := rMany r) (rCount_eq r) h1 h2
theorem rP_chain {S S1 S2 S3 : Option (List Int)} {g : List Int} {s : List (List Int)} {f : List Fn} (h1 : S.bind rL = S1.map fun t => (g, t)) (h2 : S1.bind (rCount rL) = S2.map fun t => (s, t)) (h3 : S2.bind (rCount rF) = S3.map fun t => (f, t)) : S.bind rP = S3.map fun t => ((⟨g, s, f⟩ : Pg), t) := by
  have e : S.bind rP = S.bind fun t => (rL t).bind fun q1 => (rCount rL q1.2).bind fun q2 => (rCount rF q2.2).bind fun q3 => some ((⟨q1.1, q2.1, q3.1⟩ : Pg), q3.2) := rfl
  rw [e, bind_step (fun a t => (rCount rL t).bind fun q2 => (rCount rF q2.2).bind fun q3 => some ((⟨a, q2.1, q3.1⟩ : Pg), q3.2)) h1,
    bind_step (fun s t => (rCount rF t).bind fun q3 => some ((⟨g, s, q3.1⟩ : Pg), q3.2)) h2,
    bind_step (fun f t => some ((⟨g, s, f⟩ : Pg), t)) h3]
  cases S3 <;> rfl

def noP : Pg := ⟨[], [], []⟩
/-- What bytes are a program, or none. -/
def rdPQ (t : List Int) : Pg := (rdP t).getD noP
def rdPE (t : List Int) : Int := if (rdP t).isSome = true then 0 else 2
theorem pgV_no (P : Nat → Prop) (w : World) : PgV P w (.slice none 0 0) (.slice none 0 0) (.slice none 0 0) noP := ⟨srcP_nil _ _, Or.inl ⟨rfl, _, _, rfl⟩, Or.inl ⟨rfl, _, _, rfl⟩⟩

/-- In the midst of Read: the result's box, the reader, the program. -/
structure RcAt (w wk : World) (B x : Nat) (vg vs vf : Value) (G : List Int) (Ss : List (List Int × Value)) (Fs : List FnV) (S : Option (List Int)) : Prop where
  low : Below B w wk
  res : wk.rowIs B 26 3 (pgC (.slice none 0 0) (.slice none 0 0) (.slice none 0 0))
  rd : Rd wk B (B + 1) S
  pq : PqAt wk B x vg vs vf G Ss Fs
  ne : B ≠ x
section
variable {w wk w2 : World} {B x : Nat} {vg vs vf : Value} {G : List Int} {Ss : List (List Int × Value)} {Fs : List FnV} {S S2 : Option (List Int)}
theorem RcAt.bw (h : RcAt w wk B x vg vs vf G Ss Fs S) : B ≤ wk.heap.size := Nat.le_of_lt h.res.lt
/-- Behind a call of the reader's. -/
theorem RcAt.call (h : RcAt w wk B x vg vs vf G Ss Fs S) (ht : Tr B wk w2) (hr : Rd w2 B (B + 1) S2) : RcAt w w2 B x vg vs vf G Ss Fs S2 :=
  ⟨h.low.trans (Ty.below ht h.bw), ht.row h.res (by decide), hr, h.pq.ty ht (by decide) (by decide) (by decide) (by decide) (by decide), h.ne⟩
theorem RcAt.below (h : RcAt w wk B x vg vs vf G Ss Fs S) (hb : Below wk.heap.size wk w2) : RcAt w w2 B x vg vs vf G Ss Fs S := h.call (tr_of hb) (h.rd.below hb)
theorem RcAt.drewN (h : RcAt w wk B x vg vs vf G Ss Fs S) (n : Nat) : RcAt w (wk.drewN n) B x vg vs vf G Ss Fs S := h.below (below_drewN (Below.refl _ _) n)
theorem RcAt.shape {w3 : World} {v v' : Value} {L : List Int} (h : RcAt w wk B x vg vs vf G Ss Fs S) (hv : OwnI wk B v L)
    (ho : w3.ownsRow B 42 1 v' (Ss.length + 1) (Ss.map Prod.snd ++ [v])) (hg : wk.grownBy w3 vs.ownBlock) :
    RcAt w (w3.setCell ⟨x, 1, none⟩ v') B x vg v' vf G (Ss ++ [(L, v)]) Fs S ∧ w3.rowIs x 26 3 (pgC vg vs vf) := by
  obtain ⟨h1, h2, h3, h4⟩ := h.pq.shape hv ho hg
  exact ⟨⟨h.low.trans (h2.below h.bw), h4 _ _ _ h.ne h.res, h.rd.ty h2 (by decide), h1, h.ne⟩, h3⟩
theorem RcAt.func {w3 : World} {v' : Value} {f : FnV} (h : RcAt w wk B x vg vs vf G Ss Fs S) (hv : FnO wk B f)
    (ho : w3.ownsRow B 45 5 v' (Fs.length + 1) (Fs.flatMap FnV.cs ++ f.cs)) (hg : wk.grownBy w3 vf.ownBlock) :
    RcAt w (w3.setCell ⟨x, 2, none⟩ v') B x vg vs v' G Ss (Fs ++ [f]) S ∧ w3.rowIs x 26 3 (pgC vg vs vf) := by
  obtain ⟨h1, h2, h3, h4⟩ := h.pq.func hv ho hg
  exact ⟨⟨h.low.trans (h2.below h.bw), h4 _ _ _ h.ne h.res, h.rd.ty h2 (by decide), h1, h.ne⟩, h3⟩
end

set_option maxRecDepth 100000 in
set_option maxHeartbeats 8000000 in
theorem readP_core (t : List Int) (s : ByteArray) (w : World) (hs : Hid (s = strOfNums t)) (hb : Byt t) (ht : t.length ≤ 100000) :
    Calls Try.prog 9 #[.string s] w fun e w' => ∃ vg vs vf, e = .returned (.tuple #[.agg #[vg, vs, vf], .int .i64 (rdPE t)]) ∧ PgV (fun b => w.heap.size ≤ b) w' vg vs vf (rdPQ t) ∧ Below w.heap.size w w' := by
  obtain ⟨i0, hi, hz0, hz1, hz2⟩ := info_parts Try.info42
  obtain ⟨i1, hj0, hy0, hy1, hy2⟩ := info_parts Try.info45
  obtain ⟨B, hBw⟩ : ∃ B, w.heap.size = B := ⟨_, rfl⟩
  obtain ⟨wa, hwa⟩ : ∃ wa, (w.alloc (.cells #[.slice none 0 0, .slice none 0 0, .slice none 0 0] 26)).alloc (.cells #[.string s, .bool false] 60) = wa := ⟨_, rfl⟩
  have hLow : Below B w wa := by
    rw [← hwa, ← hBw]
    exact ((Below.refl _ _).alloc (Nat.le_refl _) _).alloc (by simp) _
  have hRes : wa.rowIs B 26 3 (pgC (.slice none 0 0) (.slice none 0 0) (.slice none 0 0)) := by
    rw [← hwa, ← hBw]
    exact (World.rowIs_alloc w #[.slice none 0 0, .slice none 0 0, .slice none 0 0] 26 _ (fun k hk => by
      have : k = 0 ∨ k = 1 ∨ k = 2 := by simp at hk; omega
      rcases this with rfl | rfl | rfl <;> rfl)).alloc _
  have hRd : Rd wa B (B + 1) (some t) := by
    refine ⟨by omega, t, false, ?_, rfl, hb, ht⟩
    rw [← hwa, ← hBw]
    have := World.rowIs_alloc (w.alloc (.cells #[.slice none 0 0, .slice none 0 0, .slice none 0 0] 26)) #[.string s, .bool false] 60 (rdC (strOfNums t) false) (fun k hk => by
      have : k = 0 ∨ k = 1 := by simp at hk; omega
      rcases this with rfl | rfl
      · rw [hs.out]; rfl
      · rfl)
    simpa using this
  have HLow : Hid (Below B w wa) := hLow
  have HRes : Hid (wa.rowIs B 26 3 (pgC (.slice none 0 0) (.slice none 0 0) (.slice none 0 0))) := hRes
  have HRd : Hid (Rd wa B (B + 1) (some t)) := hRd
  clear hLow hRes hRd hb ht
  go_enter Try.func9, Try.ntmps9
  go_wp2_with fail
  refine (rlist_any HRd.out).mono ?_
  rintro e w1 ⟨vg, G, S1, rfl, h1, h2, h3, h4, h5⟩
  obtain ⟨ag, cg, rfl⟩ := own_len h3
  have HS1 : Hid (rL t = S1.map fun t => (G, t)) := h2
  have HRes1 : Hid (w1.rowIs B 26 3 (pgC (.slice none 0 0) (.slice none 0 0) (.slice none 0 0))) := h5.row HRes.out (by decide)
  have hBa : B ≤ wa.heap.size := HLow.out.size |> fun h => by omega
  have HLow1 : Hid (Below B w w1) := HLow.out.trans (Ty.below h5 hBa)
  have HG1 : Hid (OwnI w1 B (.slice ag G.length cg) G) := own_base h3 hBa
  have HRd1 : Hid (Rd w1 B (B + 1) S1) := h1
  clear h1 h2 h3 h4 h5 HRes HLow HRd
  obtain ⟨x, hx⟩ : ∃ x, w1.heap.size = x := ⟨_, rfl⟩
  obtain ⟨wp, hwp⟩ : ∃ wp, w1.alloc (.cells #[.slice ag G.length cg, .slice none 0 0, .slice none 0 0] 26) = wp := ⟨_, rfl⟩
  have hPa : Below w1.heap.size w1 wp := hwp ▸ (Below.refl _ _).alloc (Nat.le_refl _) _
  have HC : Hid (RcAt w wp B x (.slice ag G.length cg) (.slice none 0 0) (.slice none 0 0) G [] [] S1) := by
    have hBx : B < x := by rw [← hx]; exact HRes1.out.lt
    refine ⟨HLow1.out.trans (hPa.mono (by omega)), HRes1.out.of_block (hPa.block _ HRes1.out.lt), HRd1.out.below hPa, ⟨by omega, ?_, (Ty.of_below (K := []) (B := 0) hPa).own HG1.out (by simp), World.ownsRow_nil _ _ _ _, World.ownsRow_nil _ _ _ _, fun q hq => by simp at hq, fun q hq => by simp at hq⟩, by omega⟩
    rw [← hwp, ← hx]
    exact World.rowIs_alloc w1 #[.slice ag G.length cg, .slice none 0 0, .slice none 0 0] 26 _ (fun k hk => by
      have : k = 0 ∨ k = 1 ∨ k = 2 := by simp at hk; omega
      rcases this with rfl | rfl | rfl <;> rfl)
  clear HRes1 HLow1 HG1 HRd1 hPa
  subst hwp
  go_wp2_with fail
  refine (rnumber_any HC.out.rd).mono ?_
  rintro e w2 ⟨n, S2, rfl, h1, h2, h3, _, h5⟩
  have HC2 : Hid (RcAt w w2 B x (.slice ag G.length cg) (.slice none 0 0) (.slice none 0 0) G [] [] S2) := HC.out.call h5 h1
  have HN : Hid (S1.bind rN = S2.map fun t => ((n : Int), t)) := h2
  clear h1 h2 h5 HC
  go_wp2_with fail
  go_loopw [14] (fun k wr => ∃ j : Nat, j ≤ n ∧ k = .int .i64 j ∧ Hid (∃ vs Ss S, RcAt w wr B x (.slice ag G.length cg) vs (.slice none 0 0) G Ss [] S ∧ Ss.length = j ∧ S2.bind (rMany rL n) = S.bind fun t => (rMany rL (n - j) t).map fun q => (Ss.map Prod.fst ++ q.1, q.2))) (fun k _ => n - (intOf k).toNat)
  case atStart => exact ⟨0, Nat.zero_le _, rfl, _, [], S2, HC2.out, rfl, many_start rL S2 n⟩
  case round =>
    obtain ⟨j, hj, rfl, HR⟩ := hrel
    clear HC2
    by_cases hlt : j < n
    · obtain ⟨vs, Ss, S, hC, hSs, hM⟩ := HR.out
      obtain ⟨_, _, az, cs, _, _, _, rfl, _⟩ := hC.pq.lens
      have HC : Hid (RcAt w wr B x (.slice ag G.length cg) (.slice az Ss.length cs) (.slice none 0 0) G Ss [] S) := hC
      have HM : Hid (S2.bind (rMany rL n) = S.bind fun t => (rMany rL (n - j) t).map fun q => (Ss.map Prod.fst ++ q.1, q.2)) := hM
      have HSs : Hid (Ss.length = j) := hSs
      have hc1 : wr.cell? ⟨x, 1, none⟩ = some (.slice az Ss.length cs) := hC.pq.c.2.1
      have hf1 : wr.frozen? ⟨x, 1, none⟩ = false := hC.pq.box.frozen 1
      have hxl := hC.pq.box.lt
      have hltI : (j : Int) < (n : Int) := by omega
      clear hC hM hSs HR
      go_upto_region 5 with (fail)
      go_region_law (first
        | (refine step_call1 (by rfl) _ 20 _ (by rfl) _ (by rfl) _ (rlist_call (by exact HC.out.rd.drewN _)) (run_rlist _ _) ?_; rintro v2 w2 ⟨L, S3, g1, g2, g3, g4, g5⟩; obtain ⟨a2, c2, rfl⟩ := own_len g3; have HC2 : Hid (RcAt w w2 B x (.slice ag G.length cg) (.slice az Ss.length cs) (.slice none 0 0) G Ss [] S3) := (HC.out.drewN 1).call g5 g1; have hc2 : w2.cell? ⟨x, 1, none⟩ = some (.slice az Ss.length cs) := HC2.out.pq.c.2.1; have hf2 : w2.frozen? ⟨x, 1, none⟩ = false := HC2.out.pq.box.frozen 1; have hxl2 := HC2.out.pq.box.lt; have HO2 : Hid (OwnI w2 B (.slice a2 L.length c2) L) := own_base g3 HC.out.bw; have HM2 : Hid (S2.bind (rMany rL n) = S3.bind fun t => (rMany rL (n - (j + 1)) t).map fun q => ((Ss.map Prod.fst ++ [L]) ++ q.1, q.2)) := many_step hlt HM.out g2; clear g1 g2 g3 g4 g5)
        | (refine step_append_lies _ (by rfl) _ _ 23 (by rfl) B 42 i0 (.agg #[.slice none 0 0]) 1 24 Try.underlying23 hi hz0 hz1 hz2 rfl (by decide) _ _ _ (by rfl) (HC2.out.pq.sh.alloc _) ⟨w2.heap.size, 0, none⟩ 1 1 [.slice a2 L.length c2] (by rfl) rfl (one_at w2 _ _) (slice_one _ _ _) (by decide) (by have := HSs.out; unfold maxLen; omega) (by have := HSs.out; omega) (by have := HC2.out.bw; simp; omega) (w2.heap.size + 1) (by simp) ?_; intro g3 cap3 w3 ho3 hg3 hat3 hlt3; have HA3 : Hid (RcAt w (w3.setCell ⟨x, 1, none⟩ (.slice (some ⟨g3, 0, none⟩) (Ss.length + 1) cap3)) B x (.slice ag G.length cg) (.slice (some ⟨g3, 0, none⟩) (Ss.length + 1) cap3) (.slice none 0 0) G (Ss ++ [(L, .slice a2 L.length c2)]) [] S3 ∧ w3.rowIs x 26 3 (pgC (.slice ag G.length cg) (.slice az Ss.length cs) (.slice none 0 0))) := (HC2.out.below ((Below.refl _ _).alloc (Nat.le_refl _) _)).shape (HO2.out.alloc _) ho3 hg3; have hc3 : w3.cell? ⟨x, 1, none⟩ = some (.slice az Ss.length cs) := HA3.out.2.cell (i := 1) (by decide); have hf3 : w3.frozen? ⟨x, 1, none⟩ = false := HA3.out.2.frozen 1; have hxl3 := HA3.out.2.lt; clear ho3 hg3 hat3 hlt3))
      all_goals
        have HX : Hid (∃ vs' Ss' S', RcAt w (w3.setCell ⟨x, 1, none⟩ (.slice (some ⟨g3, 0, none⟩) (Ss.length + 1) cap3)) B x (.slice ag G.length cg) vs' (.slice none 0 0) G Ss' [] S' ∧ Ss'.length = j + 1 ∧ S2.bind (rMany rL n) = S'.bind fun t => (rMany rL (n - (j + 1)) t).map fun q => (Ss'.map Prod.fst ++ q.1, q.2)) :=
          ⟨_, Ss ++ [(L, .slice a2 L.length c2)], S3, HA3.out.1, by rw [List.length_append, HSs.out]; rfl, by rw [List.map_append]; exact HM2.out⟩
        clear HA3 HM2 HM HSs HC HC2 HO2 hc1 hf1 hxl hc2 hf2 hxl2 hc3 hf3 hxl3
        go_wp2_with fail
        go_roundw
        case rel => exact ⟨j + 1, by omega, by go_num, HX⟩
        case measure => simp [intOf]; omega
    · have e : j = n := by omega
      subst e
      obtain ⟨vs, Ss, S3, hC, hSs, hM⟩ := HR.out
      obtain ⟨_, _, az, cs, _, _, _, rfl, _⟩ := hC.pq.lens
      have HC : Hid (RcAt w wr B x (.slice ag G.length cg) (.slice az Ss.length cs) (.slice none 0 0) G Ss [] S3) := hC
      have HM3 : Hid (S1.bind (rCount rL) = S3.map fun t => (Ss.map Prod.fst, t)) := count_of HN.out (many_end hM)
      clear HR HN hC hM hSs
      go_wp2_with fail
      refine (rnumber_any HC.out.rd).mono ?_
      rintro e w4 ⟨n, S4, rfl, h1, h2, h3, _, h5⟩
      have HC4 : Hid (RcAt w w4 B x (.slice ag G.length cg) (.slice az Ss.length cs) (.slice none 0 0) G Ss [] S4) := HC.out.call h5 h1
      have HN : Hid (S3.bind rN = S4.map fun t => ((n : Int), t)) := h2
      clear h1 h2 h5 HC
      go_wp2_with fail
      obtain ⟨wq, hwq⟩ : ∃ wq, wq = wr := ⟨_, rfl⟩
      subst hwq
      go_loopw [27] (fun k wr => ∃ j : Nat, j ≤ n ∧ k = .int .i64 j ∧ Hid (∃ vf Fs S, RcAt w wr B x (.slice ag G.length cg) (.slice az Ss.length cs) vf G Ss Fs S ∧ Fs.length = j ∧ S4.bind (rMany rF n) = S.bind fun t => (rMany rF (n - j) t).map fun q => (Fs.map FnV.f ++ q.1, q.2))) (fun k _ => n - (intOf k).toNat)
      case atStart => exact ⟨0, Nat.zero_le _, rfl, _, [], S4, HC4.out, rfl, many_start rF S4 n⟩
      case round =>
        obtain ⟨j, hj, rfl, HR⟩ := hrel
        clear HC4
        by_cases hlt : j < n
        · obtain ⟨vf, Fs, S, hC, hSs, hM⟩ := HR.out
          obtain ⟨_, _, _, _, af, cf, _, _, rfl⟩ := hC.pq.lens
          have HC : Hid (RcAt w wr B x (.slice ag G.length cg) (.slice az Ss.length cs) (.slice af Fs.length cf) G Ss Fs S) := hC
          have HM : Hid (S4.bind (rMany rF n) = S.bind fun t => (rMany rF (n - j) t).map fun q => (Fs.map FnV.f ++ q.1, q.2)) := hM
          have HSs : Hid (Fs.length = j) := hSs
          have hc1 : wr.cell? ⟨x, 2, none⟩ = some (.slice af Fs.length cf) := hC.pq.c.2.2
          have hf1 : wr.frozen? ⟨x, 2, none⟩ = false := hC.pq.box.frozen 2
          have hxl := hC.pq.box.lt
          have hltI : (j : Int) < (n : Int) := by omega
          clear hC hM hSs HR
          go_upto_region 9 with (fail)
          go_region_law (first
            | (refine step_call1 (by rfl) _ 22 _ (by rfl) _ (by rfl) _ (rfunc_call (by exact HC.out.rd.drewN _)) (run_rfunc _ _) ?_; rintro v2 w2 ⟨f, a0, c0, a3, c3, a4, c4, S5, rfl, g1, g2, g3, g5⟩; have HC2 : Hid (RcAt w w2 B x (.slice ag G.length cg) (.slice az Ss.length cs) (.slice af Fs.length cf) G Ss Fs S5) := (HC.out.drewN 1).call g5 g1; have hc2 : w2.cell? ⟨x, 2, none⟩ = some (.slice af Fs.length cf) := HC2.out.pq.c.2.2; have hf2 : w2.frozen? ⟨x, 2, none⟩ = false := HC2.out.pq.box.frozen 2; have hxl2 := HC2.out.pq.box.lt; have HO2 : Hid (FnO w2 B ⟨f, .slice a0 f.args.length c0, .slice a3 f.objs.length c3, .slice a4 f.code.length c4⟩) := g3.base HC.out.bw; have HM2 : Hid (S4.bind (rMany rF n) = S5.bind fun t => (rMany rF (n - (j + 1)) t).map fun q => ((Fs.map FnV.f ++ [f]) ++ q.1, q.2)) := many_step hlt HM.out g2; clear g1 g2 g3 g5)
            | (refine step_append_lies _ (by rfl) _ _ 24 (by rfl) B 45 i1 (.agg #[.slice none 0 0, .int .i64 0, .int .i64 0, .slice none 0 0, .slice none 0 0]) 5 88 Try.underlying24 hj0 hy0 hy1 hy2 rfl (by decide) _ _ _ (by rfl) (HC2.out.pq.fn.alloc _) ⟨w2.heap.size, 0, none⟩ 1 1 [.slice a0 f.args.length c0, .int .i64 f.res, .int .i64 f.slots, .slice a3 f.objs.length c3, .slice a4 f.code.length c4] (by rfl) rfl (five_at w2 _ _ _ _ _ _) (five_one _ _ _ _ _ _ _ _ _ _ _) (by decide) (by have := HSs.out; unfold maxLen; omega) (by have := HSs.out; omega) (by have := HC2.out.bw; simp; omega) (w2.heap.size + 1) (by simp) ?_; intro g3 cap3 w3 ho3 hg3 hat3 hlt3; have HA3 : Hid (RcAt w (w3.setCell ⟨x, 2, none⟩ (.slice (some ⟨g3, 0, none⟩) (Fs.length + 1) cap3)) B x (.slice ag G.length cg) (.slice az Ss.length cs) (.slice (some ⟨g3, 0, none⟩) (Fs.length + 1) cap3) G Ss (Fs ++ [⟨f, .slice a0 f.args.length c0, .slice a3 f.objs.length c3, .slice a4 f.code.length c4⟩]) S5 ∧ w3.rowIs x 26 3 (pgC (.slice ag G.length cg) (.slice az Ss.length cs) (.slice af Fs.length cf))) := (HC2.out.below ((Below.refl _ _).alloc (Nat.le_refl _) _)).func (HO2.out.ty (K := []) (B' := 0) (Ty.of_below ((Below.refl _ _).alloc (Nat.le_refl _) _)) (by simp) (by simp)) ho3 hg3; have hc3 : w3.cell? ⟨x, 2, none⟩ = some (.slice af Fs.length cf) := HA3.out.2.cell (i := 2) (by decide); have hf3 : w3.frozen? ⟨x, 2, none⟩ = false := HA3.out.2.frozen 2; have hxl3 := HA3.out.2.lt; clear ho3 hg3 hat3 hlt3))
          all_goals
            have HX : Hid (∃ vf' Fs' S', RcAt w (w3.setCell ⟨x, 2, none⟩ (.slice (some ⟨g3, 0, none⟩) (Fs.length + 1) cap3)) B x (.slice ag G.length cg) (.slice az Ss.length cs) vf' G Ss Fs' S' ∧ Fs'.length = j + 1 ∧ S4.bind (rMany rF n) = S'.bind fun t => (rMany rF (n - (j + 1)) t).map fun q => (Fs'.map FnV.f ++ q.1, q.2)) :=
              ⟨_, Fs ++ [⟨f, .slice a0 f.args.length c0, .slice a3 f.objs.length c3, .slice a4 f.code.length c4⟩], S5, HA3.out.1, by rw [List.length_append, HSs.out]; rfl, by rw [List.map_append]; exact HM2.out⟩
            clear HA3 HM2 HM HSs HC HC2 HO2 hc1 hf1 hxl hc2 hf2 hxl2 hc3 hf3 hxl3
            go_wp2_with fail
            go_roundw
            case rel => exact ⟨j + 1, by omega, by go_num, HX⟩
            case measure => simp [intOf]; omega
        · have e : j = n := by omega
          subst e
          obtain ⟨vf, Fs, S5, hC, hSs, hM⟩ := HR.out
          obtain ⟨_, _, _, _, af, cf, _, _, rfl⟩ := hC.pq.lens
          have hS1 : (some t).bind rL = S1.map fun t => (G, t) := HS1.out
          have hrP : (some t).bind rP = S5.map fun t => ((⟨G, Ss.map Prod.fst, Fs.map FnV.f⟩ : Pg), t) := rP_chain hS1 HM3.out (count_of HN.out (many_end hM))
          obtain ⟨t', bad, hbox, hS5, _, _⟩ := hC.rd.hd
          have HC : Hid (RcAt w wr B x (.slice ag G.length cg) (.slice az Ss.length cs) (.slice af Fs.length cf) G Ss Fs S5) := hC
          have c0 : wr.cell? ⟨B + 1, 0, none⟩ = some (.string (strOfNums t')) := hbox.cell (i := 0) (by decide)
          have c1 : wr.cell? ⟨B + 1, 1, none⟩ = some (.bool bad) := hbox.cell (i := 1) (by decide)
          have r0 : wr.cell? ⟨B, 0, none⟩ = some (.slice none 0 0) := hC.res.cell (i := 0) (by decide)
          have r1 : wr.cell? ⟨B, 1, none⟩ = some (.slice none 0 0) := hC.res.cell (i := 1) (by decide)
          have r2 : wr.cell? ⟨B, 2, none⟩ = some (.slice none 0 0) := hC.res.cell (i := 2) (by decide)
          have f0 := hC.res.frozen 0
          have f1 := hC.res.frozen 1
          have f2 := hC.res.frozen 2
          obtain ⟨x0, x1, x2⟩ := hC.pq.c
          have hBx := hC.ne
          have hxB : ¬ x = B := fun e => hC.ne e.symm
          have hbl := hC.res.lt
          have hemp := nums_emp t'
          clear HR HN HM3 hM hSs hS1 HS1 hbox
          cases hg : !bad && t'.isEmpty with
          | true =>
            simp only [Bool.and_eq_true, Bool.not_eq_true', List.isEmpty_iff] at hg
            obtain ⟨rfl, rfl⟩ := hg
            rw [hS5] at hrP
            have hrd : rdP t = some ⟨G, Ss.map Prod.fst, Fs.map FnV.f⟩ := by
              have h8 : rP t = some (⟨G, Ss.map Prod.fst, Fs.map FnV.f⟩, []) := hrP
              unfold rdP
              rw [h8]
            have hq : rdPQ t = ⟨G, Ss.map Prod.fst, Fs.map FnV.f⟩ := by unfold rdPQ; rw [hrd]; rfl
            have he : rdPE t = 0 := by unfold rdPE; rw [hrd]; rfl
            have HX : Hid (∃ vg vs vf, Ending.returned (.tuple #[.agg #[.slice ag G.length cg, .slice az Ss.length cs, .slice af Fs.length cf], .int .i64 0]) = .returned (.tuple #[.agg #[vg, vs, vf], .int .i64 (rdPE t)]) ∧ PgV (fun b => w.heap.size ≤ b) (((wr.setCell ⟨B, 0, none⟩ (.slice ag G.length cg)).setCell ⟨B, 1, none⟩ (.slice az Ss.length cs)).setCell ⟨B, 2, none⟩ (.slice af Fs.length cf)) vg vs vf (rdPQ t) ∧ Below w.heap.size w (((wr.setCell ⟨B, 0, none⟩ (.slice ag G.length cg)).setCell ⟨B, 1, none⟩ (.slice az Ss.length cs)).setCell ⟨B, 2, none⟩ (.slice af Fs.length cf))) := by
              have hbut : But B wr (((wr.setCell ⟨B, 0, none⟩ (.slice ag G.length cg)).setCell ⟨B, 1, none⟩ (.slice az Ss.length cs)).setCell ⟨B, 2, none⟩ (.slice af Fs.length cf)) := (((But.refl _ _).setCell 0 _).setCell 1 _).setCell 2 _
              rw [hq, he, hBw]
              refine ⟨_, _, _, rfl, HC.out.pq.pgV_ty (Ty.of_but (B := 0) hbut HC.out.res (Nat.zero_le _)), ?_⟩
              exact ((HC.out.low.setCell (Nat.le_refl _) _).setCell (Nat.le_refl _) _).setCell (Nat.le_refl _) _
            clear hrP hrd hq he HC hS5
            go_wp2_with fail
            refine bodyPost_ret (v := .tuple #[.agg #[.slice ag G.length cg, .slice az Ss.length cs, .slice af Fs.length cf], .int .i64 0]) (by simp [results, go_sem, r0, r1, r2]) rfl ?_
            exact HX.out
          | false =>
            have hrd : rdP t = none := by
              unfold rdP
              have h8 : rP t = S5.map fun t => ((⟨G, Ss.map Prod.fst, Fs.map FnV.f⟩ : Pg), t) := hrP
              rw [h8, hS5]
              cases bad with
              | true => rfl
              | false =>
                cases t' with
                | nil => cases hg
                | cons y u => rfl
            have hq : rdPQ t = noP := by unfold rdPQ; rw [hrd]; rfl
            have he : rdPE t = 2 := by unfold rdPE; rw [hrd]; rfl
            have HX : Hid (∃ vg vs vf, Ending.returned (.tuple #[.agg #[.slice none 0 0, .slice none 0 0, .slice none 0 0], .int .i64 2]) = .returned (.tuple #[.agg #[vg, vs, vf], .int .i64 (rdPE t)]) ∧ PgV (fun b => w.heap.size ≤ b) (((wr.setCell ⟨B, 0, none⟩ (.slice none 0 0)).setCell ⟨B, 1, none⟩ (.slice none 0 0)).setCell ⟨B, 2, none⟩ (.slice none 0 0)) vg vs vf (rdPQ t) ∧ Below w.heap.size w (((wr.setCell ⟨B, 0, none⟩ (.slice none 0 0)).setCell ⟨B, 1, none⟩ (.slice none 0 0)).setCell ⟨B, 2, none⟩ (.slice none 0 0))) := by
              rw [hq, he, hBw]
              exact ⟨_, _, _, rfl, pgV_no _ _, ((HC.out.low.setCell (Nat.le_refl _) _).setCell (Nat.le_refl _) _).setCell (Nat.le_refl _) _⟩
            clear hrP hrd hq he HC hS5
            cases bad with
            | true =>
              go_wp2_with fail
              refine bodyPost_ret (v := .tuple #[.agg #[.slice none 0 0, .slice none 0 0, .slice none 0 0], .int .i64 2]) (by simp [results, go_sem, r0, r1, r2]) rfl ?_
              exact HX.out
            | false =>
              have hne : t'.isEmpty = false := by simpa using hg
              rw [hne] at hemp
              generalize strOfNums t' = s' at *
              go_wp2_with fail
              refine bodyPost_ret (v := .tuple #[.agg #[.slice none 0 0, .slice none 0 0, .slice none 0 0], .int .i64 2]) (by simp [results, go_sem, r0, r1, r2]) rfl ?_
              exact HX.out

end Go.Proofs.Ytkgicalkcbagaaa

/- Lists of instructions: append that keeps what it was made of (rows of any size); besombook's SameInstrs, copyInstrs. -/
import Derived.Test.YtglalihheppgpaaInF
import Derived.Laws.StructEq
namespace Go.Proofs.Ytglalihheppgpaa
open Go.RowKit

theorem own_lenG {w : World} {base : Nat} {e : TypeId} {size : Nat} {v : Value} {n : Nat} {xs : List Value} (h : w.ownsRow base e size v n xs) : ∃ a c, v = .slice a n c := by
  rcases h.2 with ⟨rfl, rfl⟩ | ⟨g, cap, cur, rfl, _⟩
  · exact ⟨none, 0, rfl⟩
  · exact ⟨_, _, rfl⟩
theorem own_prefixG {base g n m cap size : Nat} {e : TypeId} {xs ys : List Value} {w : World} (h : w.ownsRow base e size (.slice (some ⟨g, 0, none⟩) (n + m) cap) (n + m) (xs ++ ys)) (hx : xs.length = n * size) :
    w.ownsRow base e size (.slice (some ⟨g, 0, none⟩) n cap) n xs := by
  obtain ⟨h1, h2⟩ := h
  refine ⟨hx, ?_⟩
  rcases h2 with ⟨h2, _⟩ | ⟨g', cap', cur, hv, hg, hh, hn, hc, hs, ht⟩
  · simp at h2
  · simp at hv
    obtain ⟨rfl, rfl⟩ := hv
    refine Or.inr ⟨g, cap, cur, rfl, hg, hh, by omega, hc, hs, ?_⟩
    have hle : n * size ≤ (n + m) * size := Nat.mul_le_mul_right _ (by omega)
    have e1 : cur.toList.take (n * size) = (cur.toList.take ((n + m) * size)).take (n * size) := by rw [List.take_take]; congr 1; omega
    rw [e1, ht, ← hx, List.take_left]
theorem own_capG {w : World} {base g n cap size : Nat} {e : TypeId} {m : Nat} {xs : List Value} (h : w.ownsRow base e size (.slice (some ⟨g, 0, none⟩) n cap) m xs) : n ≤ cap ∧ cap ≤ maxLen ∧ m = n := by
  rcases h.2 with ⟨h', _⟩ | ⟨g', cap', cur, h', hb, hg, hnc, hcm, hcs, htake⟩
  · simp at h'
  · simp at h'
    obtain ⟨_, rfl, rfl⟩ := h'
    exact ⟨hnc, hcm, rfl⟩

section
variable {P : Program} (w : World)
/-- APPEND ONTO A ROW THAT IS OWNED: where the new slice lies, and that the old one is as it was. -/
theorem run_append_keepG (t ty : TypeId) (base : Nat) (e : TypeId) (i : TypeInfo) (z : Value) (size bytes : Nat) (ht : P.underlying t = some (.slice e)) (hi : P.info? e = some i) (hz : i.zero = some z)
    (hsize : i.size = size) (hby : i.bytes = bytes) (hzs : z.cells.size = size) (hsz : 0 < size)
    (v : Value) (n : Nat) (xs : List Value) (hown : w.ownsRow base e size v n xs)
    (ad : Addr) (m c : Nat) (news : List Value) (hl : news.length = m * size) (hnews : ∀ j u, news[j]? = some u → w.cell? (ad.add j) = some u) (h1 : ∀ u ∈ news, u.oneCell' = true)
    (hm : 0 < m) (h63 : n + m ≤ maxLen) (hbytes : (n + m) * bytes ≤ 140737488355328) (hbase : base ≤ w.heap.size) :
    ∃ g cap w', (Builtin.append_ #[t, t] ty #[v, .slice (some ad) m c]).run P w = .ok (.slice (some ⟨g, 0, none⟩) (n + m) cap) w' ∧
      w'.ownsRow base e size (.slice (some ⟨g, 0, none⟩) (n + m) cap) (n + m) (xs ++ news) ∧ w'.ownsRow base e size v n xs ∧ w.grownBy w' v.ownBlock ∧
      ((∃ n0, v = .slice (some ⟨g, 0, none⟩) n0 cap) ∨ w.heap.size ≤ g) := by
  subst hsize
  have hmp : 0 < m * i.size := Nat.mul_pos hm hsz
  rcases hown.2 with ⟨rfl, rfl⟩ | ⟨g, cap, cur, rfl, hbg, hg, hnc, hcm, hcs, htk⟩
  · obtain ⟨g, cap, w', hr, h2, h3, h4, _⟩ := run_append_lies (P := P) w t ty base e i z i.size bytes ht hi hz rfl hby hzs hsz _ _ xs hown ad m c news hl hnews h1 hm h63 hbytes hbase w.heap.size rfl
    refine ⟨g, cap, w', hr, h2, ⟨hown.1, Or.inl ⟨rfl, rfl⟩⟩, h3, ?_⟩
    rcases h4 with h4 | h4
    · simp [Value.ownBlock] at h4
    · exact Or.inr (by omega)
  · have hxl : xs.length = n * i.size := hown.1
    by_cases hr : n + m ≤ cap
    · obtain ⟨v', w', hrun, h2, h3, _, _⟩ := run_append_own_at (P := P) w base t ty e i z i.size bytes ht hi hz rfl hby hzs hsz _ _ xs hown ad m c news hl hnews h1 h63 hbytes hbase
      have hle : (n + m) * i.size ≤ cap * i.size := Nat.mul_le_mul_right _ hr
      rw [Nat.add_mul] at hle
      have hcell : ∀ j, j < news.length → (w.cell? ⟨g, 0 + n * i.size + j, none⟩).isSome = true := by
        intro j hj
        simp [World.cell?, hg]
        omega
      have hfz : ∀ j, j < news.length → w.frozen? ⟨g, 0 + n * i.size + j, none⟩ = false := by
        intro j hj
        simp [World.frozen?, hg]
      have hrun2 := run_append_room_cells (P := P) w t ty e i ht hi g 0 n cap ad m c news hl hnews h1 hr hcell hfz
      rw [hrun2] at hrun
      simp only [Result.ok.injEq] at hrun
      obtain ⟨rfl, rfl⟩ := hrun
      exact ⟨g, cap, _, hrun2, h2, own_prefixG h2 hxl, h3, Or.inl ⟨n, rfl⟩⟩
    · have holds : ∀ j u, xs[j]? = some u → w.cell? ((⟨g, 0, none⟩ : Addr).add j) = some u := hown.cells rfl
      obtain ⟨v', w', hrun, h2, h3⟩ := run_append_arg_grows (P := P) w t ty e i z i.size bytes ht hi hz rfl hby hzs hsz ⟨g, 0, none⟩ n cap xs hown.1 holds ad m c news hl hnews (by omega) h63 hbytes
      obtain ⟨g', cap', rfl, hg', _⟩ := h2.form (by omega)
      refine ⟨g', cap', w', hrun, own_base h2 hbase, hown.kept h3 (Or.inr (by simp [Value.ownBlock])), ⟨h3.os, h3.tape, h3.output, h3.size, fun k hk _ => h3.block k hk (by simp)⟩, Or.inr hg'⟩
end

theorem wpList_append_keepG {P : Program} (w : World) {ops : Array Oper} {rest : List Oper} {o : Oper} {a : Act} {Q : Exit → Act → World → Prop}
    (hgd : o.guard = none) (s x : Operand) (t : TypeId) (ho : o.op = .call { callee := .builtin .append, args := #[s, x], argTypes := #[t, t] })
    (base : Nat) (e : TypeId) (i : TypeInfo) (z : Value) (size bytes : Nat) (ht : P.underlying t = some (.slice e)) (hi : P.info? e = some i) (hz : i.zero = some z)
    (hsize : i.size = size) (hby : i.bytes = bytes) (hzs : z.cells.size = size) (hsz : 0 < size)
    (v : Value) (n : Nat) (xs : List Value) (hs : a.eval s = v) (hown : w.ownsRow base e size v n xs)
    (ad : Addr) (m c : Nat) (news : List Value) (hx : a.eval x = .slice (some ad) m c) (hl : news.length = m * size) (hnews : ∀ j u, news[j]? = some u → w.cell? (ad.add j) = some u) (h1 : ∀ u ∈ news, u.oneCell' = true)
    (hm : 0 < m) (h63 : n + m ≤ maxLen) (hbytes : (n + m) * bytes ≤ 140737488355328) (hbase : base ≤ w.heap.size)
    (h : ∀ g cap w', w'.ownsRow base e size (.slice (some ⟨g, 0, none⟩) (n + m) cap) (n + m) (xs ++ news) → w'.ownsRow base e size v n xs → w.grownBy w' v.ownBlock →
      ((∃ n0, v = .slice (some ⟨g, 0, none⟩) n0 cap) ∨ w.heap.size ≤ g) → wpList P ops Q rest (a.put o.dst (.slice (some ⟨g, 0, none⟩) (n + m) cap)) w') : wpList P ops Q (o :: rest) a w := by
  refine wpList_plain hgd fun K hK => ?_
  obtain ⟨g, cap, w', hrun, h2, h3, h4, h5⟩ := run_append_keepG (P := P) w t o.type base e i z size bytes ht hi hz hsize hby hzs hsz v n xs hown ad m c news hl hnews h1 hm h63 hbytes hbase
  unfold Oper.wp
  simp [execOp, ho, resolve, invoke, builtin, hs, hx, hrun, Result.andThen]
  exact hK _ _ (h g cap w' h2 h3 h4 h5)

/-! ### SameInstrs -/
theorem same_zeroI (a a' : Option Addr) (c c' : Nat) (w : World) :
    Calls Try.prog 26 #[.slice a 0 c, .slice a' 0 c'] w fun e w' => e = .returned (.bool true) ∧ ∃ q, w' = w.drewN q := by
  go_enter Try.func26, Try.ntmps26
  go_wp2
  go_loop [5] (fun i => i = .int .i64 0) (fun _ => 0)
  case atStart => rfl
  case round =>
    obtain rfl := hrel
    go_wp2
    go_ret
    exact ⟨rfl, 0, rfl⟩
set_option maxRecDepth 100000 in
set_option maxHeartbeats 1000000 in
theorem same_coreI (L : List Ins) (w : World) {b off c b' off' c' : Nat} (hlen : L.length ≤ maxLen) (h1 : ∀ j i, L[j]? = some i → InsAt w b (off + j * 4) i) (h2 : ∀ j i, L[j]? = some i → InsAt w b' (off' + j * 4) i) :
    Calls Try.prog 26 #[.slice (some ⟨b, off, none⟩) L.length c, .slice (some ⟨b', off', none⟩) L.length c'] w fun e w' => e = .returned (.bool true) ∧ ∃ q, w' = w.drewN q := by
  unfold maxLen at hlen
  have H1 : Hid (∀ j i, L[j]? = some i → InsAt w b (off + j * 4) i) := h1
  have H2 : Hid (∀ j i, L[j]? = some i → InsAt w b' (off' + j * 4) i) := h2
  clear h1 h2
  go_enter Try.func26, Try.ntmps26
  go_wp2
  go_loopw [5] (fun i wr => ∃ j : Nat, j ≤ L.length ∧ i = .int .i64 j ∧ ∃ q, wr = w.drewN q) (fun i _ => L.length - (intOf i).toNat)
  case atStart => exact ⟨0, Nat.zero_le _, rfl, 0, rfl⟩
  case round =>
    obtain ⟨j, hj, rfl, hq⟩ := hrel
    have HQ : Hid (∃ q, wr = w.drewN q) := hq
    by_cases hlt : j < L.length
    · obtain ⟨i, hi⟩ : ∃ i, L[j]? = some i := ⟨_, List.getElem?_eq_getElem hlt⟩
      have g1 : InsAt wr b (off + j * 4) i := by obtain ⟨q, rfl⟩ := hq; exact H1.out j i hi
      have g2 : InsAt wr b' (off' + j * 4) i := by obtain ⟨q, rfl⟩ := hq; exact H2.out j i hi
      obtain ⟨c0, c1, c2, c3⟩ := g1
      obtain ⟨d0, d1, d2, d3⟩ := g2
      have hlt' : (j : Int) < (L.length : Int) := by omega
      clear hq H1 H2 hi
      go_upto_region 6 with (fail)
      go_quiet (fail)
      go_wp2
      go_roundw
      case rel => exact ⟨j + 1, by omega, by go_num, drewN_more HQ.out _⟩
      case measure => simp [intOf]; omega
    · clear hq
      go_wp2
      go_ret
      exact ⟨rfl, HQ.out⟩
theorem same_anyI (L : List Ins) (v v' : Value) (w : World) (hlen : L.length ≤ maxLen) (h1 : SrcI w v L) (h2 : SrcI w v' L) :
    Calls Try.prog 26 #[v, v'] w fun e w' => e = .returned (.bool true) ∧ ∃ q, w' = w.drewN q := by
  by_cases h0 : L = []
  · subst h0
    obtain ⟨a, c, rfl⟩ := h1.len
    obtain ⟨a', c', rfl⟩ := h2.len
    exact same_zeroI a a' c c' w
  · rcases h1 with ⟨h, _⟩ | ⟨b, off, c, rfl, _, h3⟩
    · exact absurd h h0
    · rcases h2 with ⟨h, _⟩ | ⟨b', off', c', rfl, _, h4⟩
      · exact absurd h h0
      · exact same_coreI L w hlen h3 h4

/-! ### copyInstrs -/
theorem src_cellsI {w : World} {b off : Nat} {L : List Ins} (h : ∀ j i, L[j]? = some i → InsAt w b (off + j * 4) i) : ∀ j u, (L.flatMap Ins.cs)[j]? = some u → w.cell? ((⟨b, off, none⟩ : Addr).add j) = some u := by
  intro j u hj
  rw [Go.WideShapes.add_plain]
  have hlt := (List.getElem?_eq_some_iff.1 hj).1
  have hl : (L.flatMap Ins.cs).length = L.length * 4 := flI_len L
  have hi : L[j / 4]? = some L[j / 4] := List.getElem?_eq_getElem (by omega)
  have hat := flI_at L (j / 4) _ hi (j % 4) (by omega)
  rw [show j / 4 * 4 + j % 4 = j from by omega] at hat
  have hj' : (L[j / 4]).cs[j % 4]? = some u := by rw [← hat]; exact hj
  obtain ⟨c0, c1, c2, c3⟩ := h (j / 4) _ hi
  generalize L[j / 4] = i at *
  have : j % 4 = 0 ∨ j % 4 = 1 ∨ j % 4 = 2 ∨ j % 4 = 3 := by omega
  rcases this with e | e | e | e
  · rw [e] at hj'; simp [Ins.cs] at hj'; subst hj'; rw [← c0]; congr 2; omega
  · rw [e] at hj'; simp [Ins.cs] at hj'; subst hj'; rw [← c1]; congr 2; omega
  · rw [e] at hj'; simp [Ins.cs] at hj'; subst hj'; rw [← c2]; congr 2; omega
  · rw [e] at hj'; simp [Ins.cs] at hj'; subst hj'; rw [← c3]; congr 2; omega

set_option maxHeartbeats 400000 in
theorem copy_anyI (L : List Ins) (v : Value) (w : World) (hlen : L.length ≤ 100000) (h : SrcI w v L) :
    Calls Try.prog 53 #[v] w fun e w' => ∃ v', e = .returned v' ∧ w'.ownsRow w.heap.size 23 4 v' L.length (L.flatMap Ins.cs) ∧ Below w.heap.size w w' := by
  obtain ⟨i0, hi, hz0, hz1, hz2⟩ := info_parts Try.info23
  have hnil := World.ownsRow_nil w w.heap.size 23 4
  rcases h with ⟨rfl, rfl | ⟨ad, c, rfl⟩⟩ | ⟨b, off, c, rfl, h2, h3⟩
  · go_enter Try.func53, Try.ntmps53
    go_wp2_with (at_builtin; refine wpList_append_own_none rfl _ _ 43 rfl w.heap.size 23 i0 4 Try.underlying43 hi _ _ _ rfl hnil rfl ?_)
    go_ret
    exact ⟨_, rfl, hnil, Below.refl _ _⟩
  · go_enter Try.func53, Try.ntmps53
    go_wp2_with (at_builtin; refine wpList_append_own _ rfl _ _ 43 rfl w.heap.size 23 i0 (.agg #[.int .i64 0, .int .i64 0, .int .i64 0, .int .i64 0]) 4 32 Try.underlying43 hi hz0 hz1 hz2 rfl (by decide) _ _ _ rfl hnil ad 0 c [] rfl rfl ?c1 ?c2 ?c3 ?c4 ?c5 ?_)
    case c1 => intro j u hj; simp at hj
    case c2 => intro u hu; simp at hu
    case c3 => unfold maxLen; omega
    case c4 => omega
    case c5 => exact Nat.le_refl _
    · intro v' w1 hown' hgrow _
      go_wp2_with fail
      go_ret
      exact ⟨_, rfl, hown', (Below.refl _ _).grown hgrow (Nat.le_refl _) (fun k hk => by simp [Value.ownBlock] at hk)⟩
  · have hn := src_cellsI h3
    go_enter Try.func53, Try.ntmps53
    go_wp2_with (at_builtin; refine wpList_append_own _ rfl _ _ 43 rfl w.heap.size 23 i0 (.agg #[.int .i64 0, .int .i64 0, .int .i64 0, .int .i64 0]) 4 32 Try.underlying43 hi hz0 hz1 hz2 rfl (by decide) _ _ _ rfl hnil ⟨b, off, none⟩ L.length c (L.flatMap Ins.cs) rfl (flI_len L) hn (flI_one L) ?c3 ?c4 ?c5 ?_)
    case c3 => unfold maxLen; omega
    case c4 => omega
    case c5 => exact Nat.le_refl _
    · intro v' w1 hown' hgrow _
      go_wp2_with fail
      go_ret
      exact ⟨_, rfl, by simpa using hown', (Below.refl _ _).grown hgrow (Nat.le_refl _) (fun k hk => by simp [Value.ownBlock] at hk)⟩

end Go.Proofs.Ytglalihheppgpaa

/- The walks of flow's Join, Next, hasResult, and of the document's Join, Next. -/
import Derived.Test.YtmjappcjfjajmaaFlM
import Derived.Test.YtmjappcjfjajmaaCkX
import Derived.Deep.RegionHeld3
import Derived.Deep.DeepCutAuto
namespace Go.Proofs.Ytmjappcjfjajmaa
open Go.RowKit

theorem src_row {w : World} {g n c : Nat} {L : List Int} (hn : n = L.length) (h : w.rowIs g 3 n (fun y => .int .i64 (L.getD y 0))) : SrcAt w (.slice (some ⟨g, 0, none⟩) n c) L := by
  subst hn
  exact Or.inr ⟨g, 0, c, rfl, h.lt, fun j hj => by rw [Nat.zero_add]; exact h.cell hj⟩

/-- What is laid of a list: its first k, then 0. -/
def frK (J : List Int) (k : Nat) (y : Nat) : Value := .int .i64 (if y < k then J.getD y 0 else 0)
theorem frK_full {J : List Int} {k y : Nat} (h : J.length ≤ k) (hy : y < J.length) : frK J k y = .int .i64 (J.getD y 0) := by unfold frK; rw [if_pos (by omega)]
theorem frK_set {J : List Int} {k : Nat} (y : Nat) {x : Int} (hx : J.getD k 0 = x) : (if y = k then .int .i64 x else frK J k y) = frK J (k + 1) y := by
  unfold frK
  by_cases e : y = k
  · subst e; rw [if_pos rfl, if_pos (by omega), hx]
  · rw [if_neg e]
    by_cases e2 : y < k
    · rw [if_pos e2, if_pos (by omega)]
    · rw [if_neg e2, if_neg (by omega)]
theorem frK_skip {J : List Int} {k : Nat} (y : Nat) (hx : J.getD k 0 = 0) : frK J k y = frK J (k + 1) y := by
  unfold frK
  by_cases e : y = k
  · subst e; rw [if_neg (by omega), if_pos (by omega), hx]
  · by_cases e2 : y < k
    · rw [if_pos e2, if_pos (by omega)]
    · rw [if_neg e2, if_neg (by omega)]

set_option maxRecDepth 100000 in
set_option maxHeartbeats 4000000 in
theorem join_core (L M : List Int) (n : Nat) (hn : n = min L.length M.length) (hlen : L.length ≤ 3000) (hlen' : M.length ≤ 3000) (a a' : Option Addr) (c c' : Nat) (w : World) (h : SrcAt w (.slice a L.length c) L) (h' : SrcAt w (.slice a' M.length c') M) :
    Calls Try.prog 14 #[.slice a L.length c, .slice a' M.length c'] w fun e w' => ∃ g, e = .returned (.slice (some ⟨g, 0, none⟩) n n) ∧ w.heap.size ≤ g ∧ w'.rowIs g 3 n (fun y => .int .i64 ((joinK L M).getD y 0)) ∧ Below w.heap.size w w' := by
  have hmk := run_make_row' (P := Try.prog) 22 3 (.int .i64 0) 8 Try.underlying22 Try.info3 rfl .i64 .i64 n (by omega) (by omega)
  have HJ : Hid ((joinK L M).length = n) := by unfold Hid; rw [joinK_len, hn]
  have H : Hid (SrcAt w (.slice a L.length c) L) := h
  have H' : Hid (SrcAt w (.slice a' M.length c') M) := h'
  have hmn : min (L.length : Int) (M.length : Int) = (n : Int) := by omega
  have hmn2 : min L.length M.length = n := hn.symm
  have hle : n ≤ L.length ∧ n ≤ M.length ∧ n ≤ 3000 := by omega
  have HR : Hid ((w.alloc (.cells (madeCells #[.int .i64 0] n) 3)).rowIs w.heap.size 3 n (frK (joinK L M) 0) ∧ Below w.heap.size w (w.alloc (.cells (madeCells #[.int .i64 0] n) 3))) :=
    ⟨(World.rowIs_made w (.int .i64 0) n 3).congr fun y _ => by simp [frK], (Below.refl _ _).alloc (Nat.le_refl _) _⟩
  clear h h' hn
  go_enter Try.func14, Try.ntmps14
  go_upto_region 1 with (fail)
  go_cut [5] (fun v wk => v = .slice (some ⟨w.heap.size, 0, none⟩) n n ∧ wk = w.alloc (.cells (madeCells #[.int .i64 0] n) 3))
  case first => as_aux_lemma =>
    clear HJ H H' HR
    by_cases hx : L.length ≤ M.length
    · have e : L.length = n := by omega
      have hxI : (L.length : Int) ≤ (M.length : Int) := by omega
      have hxm : min (L.length : Int) (M.length : Int) = (n : Int) := hmn
      go_wp2
      go_meet
      case rel => first | exact ⟨rfl, rfl⟩ | exact ⟨by rw [e], by rw [e]⟩
    · have e : M.length = n := by omega
      have hxI : (M.length : Int) < (L.length : Int) := by omega
      go_wp2
      go_meet
      case rel => first | exact ⟨rfl, rfl⟩ | exact ⟨by rw [e], by rw [e]⟩
  obtain ⟨rfl, rfl⟩ := hcut
  clear hmk hmn hmn2
  go_wp2_with fail
  go_loopw [6, 15] (fun _ i wr => ∃ k : Nat, k ≤ n ∧ i = .int .i64 k ∧ Hid (wr.rowIs w.heap.size 3 n (frK (joinK L M) k) ∧ Below w.heap.size w wr)) (fun _ i _ => n - (intOf i).toNat)
  case atStart => exact ⟨0, Nat.zero_le _, rfl, HR⟩
  case round =>
    obtain ⟨k, hk, rfl, HK⟩ := hrel
    clear HR
    by_cases hlt : k < n
    · have hlL : k < L.length := by omega
      have hlM : k < M.length := by omega
      obtain ⟨b, off, rfl, hb, _, k0⟩ := (H.out.below HK.out.2).p.some hlL
      obtain ⟨b', off', rfl, hb', _, k0'⟩ := (H'.out.below HK.out.2).p.some hlM
      have hltI : (k : Int) < (n : Int) := by omega
      have hlLI : (k : Int) < (L.length : Int) := by omega
      have hlMI : (k : Int) < (M.length : Int) := by omega
      have HE : Hid ((joinK L M).getD k 0 = if L.getD k 0 = M.getD k 0 then L.getD k 0 else 0) := joinK_at hlL hlM
      generalize L.getD k 0 = x at *
      generalize M.getD k 0 = y at *
      have hf := HK.out.1.frozen k
      have hrl := HK.out.1.lt
      have hcr : ∃ u, wr.cell? ⟨w.heap.size, k, none⟩ = some u := ⟨_, HK.out.1.cell hlt⟩
      obtain ⟨u, hcr⟩ := hcr
      clear hb hb'
      by_cases hxy : x = y
      · subst hxy
        have HN : Hid (∀ q, ((wr.drewN q).setCell ⟨w.heap.size, k, none⟩ (.int .i64 x)).rowIs w.heap.size 3 n (frK (joinK L M) (k + 1)) ∧ Below w.heap.size w ((wr.drewN q).setCell ⟨w.heap.size, k, none⟩ (.int .i64 x))) := fun q =>
          ⟨(World.rowIs.set (show (wr.drewN q).rowIs w.heap.size 3 n (frK (joinK L M) k) from HK.out.1) k _).congr fun z _ => frK_set z (by rw [HE.out, if_pos rfl]), (below_drewN HK.out.2 q).setCell (Nat.le_refl _) _⟩
        clear HE HK H H'
        go_wp2_with fail
        go_quiet (fail)
        go_wp2_with fail
        go_roundw
        case rel => exact ⟨k + 1, by omega, by go_num, HN.out _⟩
        case measure => simp [intOf]; omega
      · have hd : decide (x = y) = false := decide_eq_false hxy
        have HN : Hid (∀ q, (wr.drewN q).rowIs w.heap.size 3 n (frK (joinK L M) (k + 1)) ∧ Below w.heap.size w (wr.drewN q)) := fun q =>
          ⟨(show (wr.drewN q).rowIs w.heap.size 3 n (frK (joinK L M) k) from HK.out.1).congr fun z _ => frK_skip z (by rw [HE.out, if_neg hxy]), below_drewN HK.out.2 q⟩
        clear HE HK H H'
        go_wp2_with fail
        go_quiet (fail)
        go_wp2_with fail
        go_roundw
        case rel => exact ⟨k + 1, by omega, by go_num, HN.out _⟩
        case measure => simp [intOf]; omega
    · obtain rfl : k = n := by omega
      go_wp2_with fail
      go_ret
      exact ⟨_, rfl, Nat.le_refl _, HK.out.1.congr fun y hy => frK_full (by rw [HJ.out]; exact Nat.le_refl _) (by rw [HJ.out]; exact hy), HK.out.2⟩

theorem join_any (L M : List Int) (v v' : Value) (w : World) (hlen : L.length ≤ 3000) (hlen' : M.length ≤ 3000) (h : SrcAt w v L) (h' : SrcAt w v' M) :
    Calls Try.prog 14 #[v, v'] w fun e w' => ∃ g, e = .returned (.slice (some ⟨g, 0, none⟩) (joinK L M).length (joinK L M).length) ∧ w.heap.size ≤ g ∧ SrcAt w' (.slice (some ⟨g, 0, none⟩) (joinK L M).length (joinK L M).length) (joinK L M) ∧ Below w.heap.size w w' := by
  obtain ⟨a, c, rfl⟩ := h.len
  obtain ⟨a', c', rfl⟩ := h'.len
  refine (join_core L M _ rfl hlen hlen' a a' c c' w h h').mono ?_
  rintro e w' ⟨g, rfl, h1, h2, h3⟩
  rw [joinK_len]
  exact ⟨g, rfl, h1, src_row (joinK_len L M).symm h2, h3⟩

end Go.Proofs.Ytmjappcjfjajmaa

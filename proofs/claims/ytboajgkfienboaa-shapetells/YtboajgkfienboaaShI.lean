/- The walks of Words, the program's and the document's. -/
import Derived.Test.YtboajgkfienboaaShE
namespace Go.Proofs.Ytboajgkfienboaa
open Go.RowKit Go.Maps

/-- How many fields the shape of a number has. -/
def wd1 (Ls : List (List Int)) (k : Int) : Nat := if 0 ≤ k ∧ k < Ls.length then (Ls.getD k.toNat []).length else 0
def wordsN (Ls : List (List Int)) : List Int → Nat
  | [] => 0
  | k :: r => wd1 Ls k + wordsN Ls r
theorem words_snoc (Ls : List (List Int)) : ∀ (M : List Int) (k : Int), wordsN Ls (M ++ [k]) = wordsN Ls M + wd1 Ls k
  | [], k => by simp [wordsN]
  | x :: M, k => by
    show wd1 Ls x + wordsN Ls (M ++ [k]) = wd1 Ls x + wordsN Ls M + _
    rw [words_snoc Ls M k]
    omega
theorem words_le {Ls : List (List Int)} : ∀ {M : List Int}, (∀ k ∈ M, wd1 Ls k ≤ 40) → wordsN Ls M ≤ 40 * M.length
  | [], _ => by simp [wordsN]
  | x :: M, h => by
    have h1 := h x (by simp)
    have h2 := words_le (M := M) fun k hk => h k (by simp [hk])
    rw [wordsN, List.length_cons]
    omega

theorem words_none (v : Value) (a : Option Addr) (c : Nat) (w : World) :
    Calls Try.prog 22 #[v, .slice a 0 c] w fun e w' => e = .returned (.int .i64 0) ∧ w' = w := by
  go_enter Try.func22, Try.ntmps22
  go_wp2_with fail
  go_loop [5, 10] (fun s i => i = .int .i64 0 ∧ s = .int .i64 0) (fun _ _ => 0)
  case atStart => exact ⟨rfl, rfl⟩
  case round =>
    obtain ⟨rfl, rfl⟩ := hrel
    go_wp2_with fail
    go_ret
    exact ⟨rfl, rfl⟩

set_option maxHeartbeats 1000000 in
theorem words_core (Ls : List (List Int)) (M : List Int) (w : World) {b off c : Nat} {sa : Option Addr} {sc : Nat} (hS : ShV w (.slice sa Ls.length sc) Ls) (hlen : M.length ≤ 100) (hk : ∀ k ∈ M, wd1 Ls k ≤ 40)
    (hc : ∀ j, j < M.length → w.cell? ⟨b, off + j, none⟩ = some (.int .i64 (M.getD j 0))) :
    Calls Try.prog 22 #[.slice sa Ls.length sc, .slice (some ⟨b, off, none⟩) M.length c] w fun e w' => e = .returned (.int .i64 (wordsN Ls M)) ∧ w' = w := by
  have HC : Hid (∀ j, j < M.length → w.cell? ⟨b, off + j, none⟩ = some (.int .i64 (M.getD j 0))) := hc
  have HS : Hid (ShV w (.slice sa Ls.length sc) Ls) := hS
  have HK : Hid (∀ k ∈ M, wd1 Ls k ≤ 40) := hk
  clear hc hS hk
  go_enter Try.func22, Try.ntmps22
  go_wp2_with fail
  go_loop [5, 10] (fun s i => ∃ j : Nat, j ≤ M.length ∧ i = .int .i64 j ∧ s = .int .i64 (wordsN Ls (M.take j))) (fun _ i => M.length - (intOf i).toNat)
  case atStart => exact ⟨0, Nat.zero_le _, rfl, rfl⟩
  case round =>
    obtain ⟨j, hj, rfl, rfl⟩ := hrel
    by_cases hlt : j < M.length
    · have hcx := HC.out j hlt
      have hsum : wordsN Ls (M.take j) ≤ 4000 := by
        have h1 := words_le (Ls := Ls) (M := M.take j) fun k hk => HK.out k (List.mem_of_mem_take hk)
        have h2 := List.length_take_le j M
        omega
      have HN : Hid (wordsN Ls (M.take (j + 1)) = wordsN Ls (M.take j) + wd1 Ls (M.getD j 0)) := by
        show wordsN _ _ = _
        rw [take_snocD M j hlt]; exact words_snoc Ls _ _
      have hw1 : wd1 Ls (M.getD j 0) ≤ 40 := HK.out _ (by rw [List.getD, List.getElem?_eq_getElem hlt]; exact List.getElem_mem hlt)
      clear HC HK
      generalize M.getD j 0 = k at *
      generalize wordsN Ls (M.take j) = s0 at *
      by_cases h0 : 0 ≤ k
      · by_cases h1 : k < Ls.length
        · obtain ⟨m, rfl⟩ : ∃ m : Nat, k = m := ⟨k.toNat, by omega⟩
          have hm : m < Ls.length := by omega
          have e1 : wd1 Ls m = (Ls.getD m []).length := by unfold wd1; rw [if_pos ⟨h0, h1⟩]; simp
          rw [e1] at hw1
          have HN' : Hid (wordsN Ls (M.take (j + 1)) = s0 + (Ls.getD m []).length) := by
            show wordsN _ _ = _
            rw [HN.out, e1]
          clear e1 HN
          rcases HS.out with ⟨h, _⟩ | ⟨sb, so, sc', e, hS⟩
          · rw [h] at hm; simp at hm
          · simp at e
            obtain ⟨rfl, rfl⟩ := e
            obtain ⟨fa, fc, hf, _⟩ := hS.cell m hm
            clear hS HS
            generalize (Ls.getD m []).length = q at *
            go_wp2_with fail
            go_round
            case rel => exact ⟨j + 1, by omega, by go_num, by rw [HN'.out]; go_num⟩
            case measure => simp [intOf]; omega
        · have e1 : wd1 Ls k = 0 := by unfold wd1; rw [if_neg (by omega)]
          have HN' : Hid (wordsN Ls (M.take (j + 1)) = s0) := by
            show wordsN _ _ = _
            rw [HN.out, e1]
            rfl
          clear e1 HN hw1
          go_wp2_with fail
          go_round
          case rel => exact ⟨j + 1, by omega, by go_num, by rw [HN'.out]⟩
          case measure => simp [intOf]; omega
      · have e1 : wd1 Ls k = 0 := by unfold wd1; rw [if_neg (by omega)]
        have HN' : Hid (wordsN Ls (M.take (j + 1)) = s0) := by
          show wordsN _ _ = _
          rw [HN.out, e1]
          rfl
        clear e1 HN hw1
        go_wp2_with fail
        go_round
        case rel => exact ⟨j + 1, by omega, by go_num, by rw [HN'.out]⟩
        case measure => simp [intOf]; omega
    · go_wp2_with fail
      go_ret
      have e : j = M.length := by omega
      exact ⟨ret_int (by rw [e, List.take_length]), rfl⟩

theorem words_any {Ls : List (List Int)} {M : List Int} {s : Nat} (hs : Hid (wordsN Ls M = s)) (v u : Value) (w : World) (hS : ShV w v Ls) (hM : SrcAt w u M) (hlen : M.length ≤ 100) (hk : ∀ k ∈ M, wd1 Ls k ≤ 40) :
    Calls Try.prog 22 #[v, u] w fun e w' => e = .returned (.int .i64 (s : Int)) ∧ w' = w := by
  obtain rfl := hs.out
  obtain ⟨sa, sc, rfl⟩ := hS.len
  obtain ⟨a, c, e⟩ := hM.len
  rcases hM with ⟨rfl, _⟩ | ⟨b, off, c', rfl, _, h3⟩
  · rw [e]
    exact words_none _ a c w
  · exact words_core Ls M w hS hlen hk h3

theorem refWords_none (v : Value) (a : Option Addr) (c : Nat) (w : World) :
    Calls Try.prog 23 #[v, .slice a 0 c] w fun e w' => e = .returned (.int .i64 0) ∧ w' = w := by
  go_enter Try.func23, Try.ntmps23
  go_wp2_with fail
  go_loop [5, 6] (fun s i => i = .int .i64 0 ∧ s = .int .i64 0) (fun _ _ => 0)
  case atStart => exact ⟨rfl, rfl⟩
  case round =>
    obtain ⟨rfl, rfl⟩ := hrel
    go_wp2_with fail
    go_ret
    exact ⟨rfl, rfl⟩

set_option maxHeartbeats 1000000 in
theorem refWords_core (Ls : List (List Int)) (M : List Int) (w : World) {b off c : Nat} {sa : Option Addr} {sc : Nat} (hS : ShV w (.slice sa Ls.length sc) Ls) (hlen : M.length ≤ 100) (hk : ∀ k ∈ M, wd1 Ls k ≤ 40)
    (hc : ∀ j, j < M.length → w.cell? ⟨b, off + j, none⟩ = some (.int .i64 (M.getD j 0))) :
    Calls Try.prog 23 #[.slice sa Ls.length sc, .slice (some ⟨b, off, none⟩) M.length c] w fun e w' => e = .returned (.int .i64 (wordsN Ls M)) ∧ w' = w := by
  have HC : Hid (∀ j, j < M.length → w.cell? ⟨b, off + j, none⟩ = some (.int .i64 (M.getD j 0))) := hc
  have HS : Hid (ShV w (.slice sa Ls.length sc) Ls) := hS
  have HK : Hid (∀ k ∈ M, wd1 Ls k ≤ 40) := hk
  clear hc hS hk
  go_enter Try.func23, Try.ntmps23
  go_wp2_with fail
  go_loop [5, 6] (fun s i => ∃ j : Nat, j ≤ M.length ∧ i = .int .i64 j ∧ s = .int .i64 (wordsN Ls (M.take j))) (fun _ i => M.length - (intOf i).toNat)
  case atStart => exact ⟨0, Nat.zero_le _, rfl, rfl⟩
  case round =>
    obtain ⟨j, hj, rfl, rfl⟩ := hrel
    by_cases hlt : j < M.length
    · have hcx := HC.out j hlt
      have hsum : wordsN Ls (M.take j) ≤ 4000 := by
        have h1 := words_le (Ls := Ls) (M := M.take j) fun k hk => HK.out k (List.mem_of_mem_take hk)
        have h2 := List.length_take_le j M
        omega
      have HN : Hid (wordsN Ls (M.take (j + 1)) = wordsN Ls (M.take j) + wd1 Ls (M.getD j 0)) := by
        show wordsN _ _ = _
        rw [take_snocD M j hlt]; exact words_snoc Ls _ _
      have hw1 : wd1 Ls (M.getD j 0) ≤ 40 := HK.out _ (by rw [List.getD, List.getElem?_eq_getElem hlt]; exact List.getElem_mem hlt)
      clear HC HK
      generalize M.getD j 0 = k at *
      generalize wordsN Ls (M.take j) = s0 at *
      by_cases h0 : 0 ≤ k
      · by_cases h1 : k < Ls.length
        · obtain ⟨m, rfl⟩ : ∃ m : Nat, k = m := ⟨k.toNat, by omega⟩
          have hm : m < Ls.length := by omega
          have e1 : wd1 Ls m = (Ls.getD m []).length := by unfold wd1; rw [if_pos ⟨h0, h1⟩]; simp
          rw [e1] at hw1
          have HN' : Hid (wordsN Ls (M.take (j + 1)) = s0 + (Ls.getD m []).length) := by
            show wordsN _ _ = _
            rw [HN.out, e1]
          clear e1 HN
          rcases HS.out with ⟨h, _⟩ | ⟨sb, so, sc', e, hS⟩
          · rw [h] at hm; simp at hm
          · simp at e
            obtain ⟨rfl, rfl⟩ := e
            obtain ⟨fa, fc, hf, _⟩ := hS.cell m hm
            clear hS HS
            generalize (Ls.getD m []).length = q at *
            go_wp2_with fail
            go_round
            case rel => exact ⟨j + 1, by omega, by go_num, by rw [HN'.out]; go_num⟩
            case measure => simp [intOf]; omega
        · have e1 : wd1 Ls k = 0 := by unfold wd1; rw [if_neg (by omega)]
          have HN' : Hid (wordsN Ls (M.take (j + 1)) = s0) := by
            show wordsN _ _ = _
            rw [HN.out, e1]
            rfl
          clear e1 HN hw1
          go_wp2_with fail
          go_round
          case rel => exact ⟨j + 1, by omega, by go_num, by rw [HN'.out]⟩
          case measure => simp [intOf]; omega
      · have e1 : wd1 Ls k = 0 := by unfold wd1; rw [if_neg (by omega)]
        have HN' : Hid (wordsN Ls (M.take (j + 1)) = s0) := by
          show wordsN _ _ = _
          rw [HN.out, e1]
          rfl
        clear e1 HN hw1
        go_wp2_with fail
        go_round
        case rel => exact ⟨j + 1, by omega, by go_num, by rw [HN'.out]⟩
        case measure => simp [intOf]; omega
    · go_wp2_with fail
      go_ret
      have e : j = M.length := by omega
      exact ⟨ret_int (by rw [e, List.take_length]), rfl⟩

theorem refWords_any {Ls : List (List Int)} {M : List Int} {s : Nat} (hs : Hid (wordsN Ls M = s)) (v u : Value) (w : World) (hS : ShV w v Ls) (hM : SrcAt w u M) (hlen : M.length ≤ 100) (hk : ∀ k ∈ M, wd1 Ls k ≤ 40) :
    Calls Try.prog 23 #[v, u] w fun e w' => e = .returned (.int .i64 (s : Int)) ∧ w' = w := by
  obtain rfl := hs.out
  obtain ⟨sa, sc, rfl⟩ := hS.len
  obtain ⟨a, c, e⟩ := hM.len
  rcases hM with ⟨rfl, _⟩ | ⟨b, off, c', rfl, _, h3⟩
  · rw [e]
    exact refWords_none _ a c w
  · exact refWords_core Ls M w hS hlen hk h3

end Go.Proofs.Ytboajgkfienboaa

/- The walk of the Heap's Alloc. -/
import Derived.Test.YtfkimmbnmcgjiaaDoorHpG
namespace Go.Proofs.YtfkimmbnmcgjiaaDoor
open Go.RowKit

section
variable {w : World} {B : Nat} {b : Hb} {n : Nat} {nf : List Int} {s : Hs}

theorem HpAt.len (h : HpAt w B b n nf s) : ∃ a c, b.vf = .slice a nf.length c := by
  obtain ⟨a, c, e⟩ := own_len h.fs
  exact ⟨a, c, e⟩

theorem alloc_nil (j : Int) (bl : Bool) (w : World) : Calls Tryd.prog 9 #[.pointer none, .int .i64 j, .bool bl] w fun e w' => e = .returned (.tuple #[.int .i64 0, .int .i64 1]) ∧ w' = w := by
  go_enter Tryd.func9, Tryd.ntmps9
  go_wp2_with fail
  go_ret2
  exact ⟨rfl, rfl⟩
set_option maxHeartbeats 1000000 in
theorem alloc_place (h : HpAt w B b n nf s) (j : Int) (bl : Bool) (hj : j < 0 ∨ (nf.length : Int) ≤ j) :
    Calls Tryd.prog 9 #[.pointer (some ⟨b.bh, 0, none⟩), .int .i64 j, .bool bl] w fun e w' => e = .returned (.tuple #[.int .i64 0, .int .i64 4]) ∧ w' = w := by
  have hc0 := h.c0
  have hc1 := h.c1
  obtain ⟨av, cv, hv⟩ := h.len
  rw [hv] at hc1
  clear h
  by_cases h0 : j < 0
  · go_enter Tryd.func9, Tryd.ntmps9
    go_wp2_with fail
    go_ret2
    exact ⟨rfl, rfl⟩
  · have h1 : (nf.length : Int) ≤ j := by omega
    go_enter Tryd.func9, Tryd.ntmps9
    go_wp2_with fail
    go_ret2
    exact ⟨rfl, rfl⟩

set_option maxHeartbeats 2000000 in
theorem alloc_full (h : HpAt w B b n nf s) (j : Nat) (bl : Bool) (hj : j < nf.length) (hf : NoFit s.P (ofN (nf.getD j 0)) n) :
    Calls Tryd.prog 9 #[.pointer (some ⟨b.bh, 0, none⟩), .int .i64 j, .bool bl] w fun e w' => e = .returned (.tuple #[.int .i64 0, .int .i64 5]) ∧ ∃ q, w' = w.drewN q := by
  have hc0 := h.c0
  have hc1 := h.c1
  obtain ⟨g, cap, hv, hg, hc⟩ := h.field hj
  rw [hv] at hc1
  have hjI : (j : Int) < (nf.length : Int) := by omega
  have HF : Hid (NoFit s.P (ofN (nf.getD j 0)) n) := hf
  have H : Hid (HpAt w B b n nf s) := h
  clear h hf hv
  generalize nf.getD j 0 = m at *
  obtain ⟨c, hcl⟩ : ∃ c, Hid (ofN m = c) := ⟨_, rfl⟩
  rw [hcl.out] at HF
  go_enter Tryd.func9, Tryd.ntmps9
  go_upto_region 5 with (fail)
  go_quiet ((first | (go_at_call 25; exact Calls.quiet_of_same (of_any' hcl.out _)) | (go_at_call 24; exact Calls.quiet_of (atake_none c _ (H.out.ar.drewN _) HF.out))))
  go_wp2_with fail
  go_ret2
  exact ⟨rfl, _, rfl⟩
end

end Go.Proofs.YtfkimmbnmcgjiaaDoor

/- The walks of the Heap's Color, turn, Shade, Finish. -/
import Derived.Test.YtfkimmbnmcgjiaaDoorHpC
namespace Go.Proofs.YtfkimmbnmcgjiaaDoor
open Go.RowKit

section
variable {w : World} {B : Nat} {b : Hb} {n : Nat} {nf : List Int} {s : Hs}

theorem HpAt.some_ob (h : HpAt w B b n nf s) {ad : Int} {k x : Nat} {p : PSt} (hi : InS s.P ad k x 0 p) : ∃ o, s.O k x = some o := by
  have := (h.use k x).2 ⟨p, hi.hp, hi.hs, hi.hu⟩
  exact Option.isSome_iff_exists.1 this

theorem color_nil (ad : Int) (w : World) : Calls Tryd.prog 17 #[.pointer none, .int .i64 ad] w fun e w' => e = .returned (.int .i64 0) ∧ Below w.heap.size w w' := by
  go_enter Tryd.func17, Tryd.ntmps17
  go_wp2_with fail
  refine (obj_nil ad _).mono ?_
  rintro e w' ⟨rfl, hB⟩
  go_wp2_with fail
  go_ret
  exact ⟨rfl, hB.alloc hB.size _⟩
set_option maxHeartbeats 400000 in
theorem color_no (h : HpAt w B b n nf s) {ad : Int} (hb : I64 ad) (hn : NoBeg s.P ad) :
    Calls Tryd.prog 17 #[.pointer (some ⟨b.bh, 0, none⟩), .int .i64 ad] w fun e w' => e = .returned (.int .i64 0) ∧ Below w.heap.size w w' := by
  have H : Hid (HpAt w B b n nf s) := h
  clear h
  go_enter Tryd.func17, Tryd.ntmps17
  go_wp2_with fail
  refine (obj_no H.out hb hn).mono ?_
  rintro e w' ⟨rfl, hB⟩
  go_wp2_with fail
  go_ret
  exact ⟨rfl, hB.alloc hB.size _⟩
set_option maxHeartbeats 400000 in
theorem color_yes (h : HpAt w B b n nf s) {ad : Int} (hb : I64 ad) {k x : Nat} {p : PSt} {o : Ob} (hi : InS s.P ad k x 0 p) (ho : s.O k x = some o) :
    Calls Tryd.prog 17 #[.pointer (some ⟨b.bh, 0, none⟩), .int .i64 ad] w fun e w' => e = .returned (.int .i64 o.co) ∧ Below w.heap.size w w' := by
  have H : Hid (HpAt w B b n nf s) := h
  have HO : Hid (s.O k x = some o) := ho
  clear h ho
  go_enter Tryd.func17, Tryd.ntmps17
  go_wp2_with fail
  refine (obj_yes H.out hb hi HO.out).mono ?_
  rintro e w' ⟨rfl, hB⟩
  unfold Ob.v
  go_wp2_with fail
  go_ret
  exact ⟨rfl, hB.alloc hB.size _⟩

/-! ### turn -/
theorem turn_nil (ad f t : Int) (w : World) : Calls Tryd.prog 29 #[.pointer none, .int .i64 ad, .int .i64 f, .int .i64 t] w fun e w' => e = .returned (.bool false) ∧ Below w.heap.size w w' := by
  go_enter Tryd.func29, Tryd.ntmps29
  go_wp2_with fail
  refine (obj_nil ad _).mono ?_
  rintro e w' ⟨rfl, hB⟩
  go_wp2_with fail
  go_ret
  exact ⟨rfl, hB.alloc hB.size _⟩
set_option maxHeartbeats 400000 in
theorem turn_no (h : HpAt w B b n nf s) {ad : Int} (f t : Int) (hb : I64 ad) (hn : NoBeg s.P ad) :
    Calls Tryd.prog 29 #[.pointer (some ⟨b.bh, 0, none⟩), .int .i64 ad, .int .i64 f, .int .i64 t] w fun e w' => e = .returned (.bool false) ∧ Below w.heap.size w w' := by
  have H : Hid (HpAt w B b n nf s) := h
  clear h
  go_enter Tryd.func29, Tryd.ntmps29
  go_wp2_with fail
  refine (obj_no H.out hb hn).mono ?_
  rintro e w' ⟨rfl, hB⟩
  go_wp2_with fail
  go_ret
  exact ⟨rfl, hB.alloc hB.size _⟩
set_option maxHeartbeats 400000 in
theorem turn_other (h : HpAt w B b n nf s) {ad : Int} (f t : Int) (hb : I64 ad) {k x : Nat} {p : PSt} {o : Ob} (hi : InS s.P ad k x 0 p) (ho : s.O k x = some o) (hc : o.co ≠ f) :
    Calls Tryd.prog 29 #[.pointer (some ⟨b.bh, 0, none⟩), .int .i64 ad, .int .i64 f, .int .i64 t] w fun e w' => e = .returned (.bool false) ∧ Below w.heap.size w w' := by
  have H : Hid (HpAt w B b n nf s) := h
  have HO : Hid (s.O k x = some o) := ho
  have hc2 : decide (o.co = f) = false := by simpa using hc
  clear h ho
  go_enter Tryd.func29, Tryd.ntmps29
  go_wp2_with fail
  refine (obj_yes H.out hb hi HO.out).mono ?_
  rintro e w' ⟨rfl, hB⟩
  unfold Ob.v
  go_wp2_with fail
  go_ret
  exact ⟨rfl, hB.alloc hB.size _⟩
end

end Go.Proofs.YtfkimmbnmcgjiaaDoor

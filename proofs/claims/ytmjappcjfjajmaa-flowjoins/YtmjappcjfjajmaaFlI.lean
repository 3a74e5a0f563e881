/- The walk of flow's behind. -/
import Derived.Test.YtmjappcjfjajmaaFlH
import Derived.Test.YtmjappcjfjajmaaFlR
namespace Go.Proofs.Ytmjappcjfjajmaa
open Go.RowKit

/-- What is left when some slots are set. -/
def setsK (may : Bool) (S : List (Int × Int)) (K : List Int) : List Int := S.foldl (fun K s => K.set s.1.toNat (if may = true then s.2 else 0)) K
theorem setsK_len (may : Bool) : ∀ (S : List (Int × Int)) (K : List Int), (setsK may S K).length = K.length
  | [], _ => rfl
  | s :: S, K => by
    show (setsK may S (K.set s.1.toNat _)).length = K.length
    rw [setsK_len may S, List.length_set]
theorem setsK_snoc (may : Bool) (S : List (Int × Int)) (s : Int × Int) (K : List Int) : setsK may (S ++ [s]) K = (setsK may S K).set s.1.toNat (if may = true then s.2 else 0) := by
  unfold setsK
  rw [List.foldl_append]
  rfl
theorem sets_beh (p : Pg) (f : Fn) (i : Ins) (K : List Int) : setsK (rdB p f i K) (stS p f i K) K = behK p f i K := by
  unfold stS behK
  cases h : stA p f i K with
  | none => rfl
  | some v =>
    simp only
    by_cases h26 : i.o = 26
    · rw [if_pos h26, if_pos h26]
      have hr : rdB p f i K = true := by unfold rdB; rw [h26]; rfl
      rw [hr]
      rfl
    · rw [if_neg h26, if_neg h26]
      rfl
theorem sts_in {p : Pg} {f : Fn} {i : Ins} {K : List Int} (hi : OkI p f i) (hK : (K.length : Int) = f.slots) : ∀ s ∈ stS p f i K, ∃ m : Nat, s.1 = (m : Int) ∧ m < K.length := by
  have hk := hi.kn
  have hpl := plac_and hi
  intro s hs
  unfold stS at hs
  cases h : stA p f i K with
  | none => rw [h] at hs; simp at hs
  | some v =>
    rw [h] at hs
    simp only at hs
    have hA : inB i.a f.slots = true := by
      have hw := wr_some hi h
      obtain ⟨o, a, b, c⟩ := i
      rcases kn_cases hk with rfl | rfl | rfl | rfl | rfl | rfl | rfl | rfl | rfl | rfl | rfl | rfl | rfl | rfl | rfl | rfl | rfl | rfl | rfl | rfl | rfl | rfl | rfl | rfl | rfl | rfl | rfl | rfl | rfl | rfl
      case inr.inr.inr.inr.inr.inr.inr.inr.inr.inr.inr.inr.inr.inr.inr.inr.inr.inr.inr.inr.inr.inl =>
        obtain ⟨g, hg, hr⟩ := hw.2 rfl
        have h1 := hpl.1
        have h2 : nm0 p f ⟨21, a, b, c⟩ = 1 := by
          unfold nm0
          rw [resl_call hg, if_neg (by simpa using hr)]
          rfl
        rw [h2] at h1
        exact h1
      all_goals first
        | exact hpl.1
        | (exfalso; have h2 : (none : Option Int) = some v := h; cases h2; done)
    by_cases h26 : i.o = 26
    · rw [if_pos h26] at hs
      have hB : inB i.b f.slots = true := by
        have h1 := hpl.2.1
        rw [h26] at h1
        exact h1
      simp only [List.mem_cons, List.not_mem_nil, or_false] at hs
      rcases hs with rfl | rfl
      · exact slot_of hK hA
      · exact slot_of hK hB
    · rw [if_neg h26] at hs
      simp only [List.mem_cons, List.not_mem_nil, or_false] at hs
      subst hs
      exact slot_of hK hA

theorem own_below {w w' : World} {base : Nat} {e : TypeId} {size : Nat} {v : Value} {n : Nat} {xs : List Value} (h : w.ownsRow base e size v n xs) (hb : Below w.heap.size w w') : w'.ownsRow base e size v n xs := by
  refine ⟨h.1, ?_⟩
  rcases h.2 with h2 | ⟨g, cap, cur, h2, h3, h4, r⟩
  · exact Or.inl h2
  · obtain ⟨hlt, _⟩ := Array.getElem?_eq_some_iff.1 h4
    exact Or.inr ⟨g, cap, cur, h2, h3, (hb.block g hlt).trans h4, r⟩
theorem src_own {w : World} {base : Nat} {v : Value} {L : List Int} (n : Nat) (hn : n = L.length) (h : w.ownsRow base 3 1 v n (L.map (Value.int .i64))) : SrcAt w v L := by
  subst hn
  exact src_of_own h
/-- In the midst of the settings: the kinds' row, the settings. -/
structure BhAt (w wr : World) (B : Nat) (v u : Value) (may : Bool) (S : List (Int × Int)) (K : List Int) (j : Nat) : Prop where
  own : wr.ownsRow w.heap.size 3 1 v K.length ((setsK may (S.take j) K).map (Value.int .i64))
  st : StAt wr u S
  low : Below w.heap.size w wr
  old : ∀ k, v.ownBlock = some k → k < B
  new : ∀ k, u.ownBlock = some k → B ≤ k
theorem BhAt.alloc {w wr : World} {B : Nat} {v u : Value} {may : Bool} {S : List (Int × Int)} {K : List Int} {j : Nat} (h : BhAt w wr B v u may S K j) (o : Obj) : BhAt w (wr.alloc o) B v u may S K j :=
  ⟨h.own.alloc o, h.st.below ((Below.refl _ _).alloc (Nat.le_refl _) _), h.low.alloc h.low.size _, h.old, h.new⟩
theorem BhAt.step {w wr : World} {B g c : Nat} {u : Value} {may : Bool} {S : List (Int × Int)} {K : List Int} {j m : Nat} {x y : Int} (h : BhAt w wr B (.slice (some ⟨g, 0, none⟩) K.length c) u may S K j) (hj : S[j]? = some (y, x)) (hm : y = (m : Int)) {z : Int} (hz : (if may = true then x else 0) = z) :
    BhAt w (wr.setCell ⟨g, m, none⟩ (.int .i64 z)) B (.slice (some ⟨g, 0, none⟩) K.length c) u may S K (j + 1) := by
  obtain ⟨hlt, he⟩ := List.getElem?_eq_some_iff.1 hj
  have h1 := h.own.stored m (.int .i64 z)
  have h2 : w.heap.size ≤ g := (h.own.lt g rfl).1
  refine ⟨?_, ?_, h.low.setCell (p := ⟨g, m, none⟩) h2 _, h.old, h.new⟩
  · rw [List.take_succ_eq_append_getElem hlt, he, setsK_snoc, List.map_set, hz, hm, Int.toNat_natCast]
    exact h1.1
  · rcases h.st with ⟨h3, h4⟩ | ⟨gu, cu, h3, h4, h5⟩
    · rw [h3] at hj; simp at hj
    · have hne : ¬ gu = g := fun e => by
        have ho := h.old g rfl
        have hn := h.new gu (by rw [h3]; rfl)
        omega
      refine Or.inr ⟨gu, cu, h3, by rw [World.size_setCell]; exact h4, fun k s hk => ⟨?_, ?_⟩⟩
      · exact (World.cell?_of_block (Below.heap_setCell _ _ _ _ hne)).trans (h5 k s hk).1
      · exact (World.cell?_of_block (Below.heap_setCell _ _ _ _ hne)).trans (h5 k s hk).2

set_option maxRecDepth 100000 in
set_option maxHeartbeats 4000000 in
theorem behind_any (p : Pg) (f : Fn) (io ia ib ic : Int) (ag az af : Option Addr) (cg cs cf : Nat) (a0 a3 a4 : Option Addr) (c0 c3 c4 : Nat) (K : List Int) (ak : Option Addr) (ck : Nat) (hi : Hid (OkI p f ⟨io, ia, ib, ic⟩)) (hF : Hid (OkF p f)) (hK : Hid ((K.length : Int) = f.slots ∧ K.length ≤ ck ∧ K.length ≤ 3000)) (w : World) (hp : PgV Any w (.slice ag p.glob.length cg) (.slice az p.shapes.length cs) (.slice af p.funcs.length cf) p) (hf : FnC Any w f (.slice a0 f.args.length c0) (.int .i64 f.res) (.int .i64 f.slots) (.slice a3 f.objs.length c3) (.slice a4 f.code.length c4)) (hk : SrcP Any w (.slice ak K.length ck) K) :
    Calls Try.prog 30 #[.agg #[.slice ag p.glob.length cg, .slice az p.shapes.length cs, .slice af p.funcs.length cf, .slice a0 f.args.length c0, .int .i64 f.res, .int .i64 f.slots, .slice a3 f.objs.length c3, .slice a4 f.code.length c4, .int .i64 io, .int .i64 ia, .int .i64 ib, .int .i64 ic, .slice ak K.length ck]] w fun e w' => ∃ a c, e = .returned (.slice a K.length c) ∧ SrcAt w' (.slice a K.length c) (behK p f ⟨io, ia, ib, ic⟩ K) ∧ K.length ≤ c ∧ Below w.heap.size w w' ∧ IntRow w' a := by
  obtain ⟨wa, hwa⟩ : ∃ wa, w.alloc (.cells #[.slice ag p.glob.length cg, .slice az p.shapes.length cs, .slice af p.funcs.length cf, .slice a0 f.args.length c0, .int .i64 f.res, .int .i64 f.slots, .slice a3 f.objs.length c3, .slice a4 f.code.length c4, .int .i64 io, .int .i64 ia, .int .i64 ib, .int .i64 ic, .slice ak K.length ck] 66) = wa := ⟨_, rfl⟩
  have HT : Hid (OnT w wa w.heap.size p f io ia ib ic ag az af cg cs cf a0 a3 a4 c0 c3 c4 K ak ck) := onT_start p f io ia ib ic ag az af cg cs cf a0 a3 a4 c0 c3 c4 K ak ck hwa hp hf hk
  obtain ⟨d0, d1, d2, d3, d4, d5, d6, d7, d8, d9, d10, d11⟩ := HT.out.box.c
  have d12 := HT.out.k12
  have HIN : Hid (∀ s ∈ stS p f ⟨io, ia, ib, ic⟩ K, ∃ m : Nat, s.1 = (m : Int) ∧ m < K.length) := sts_in hi.out hK.out.1
  obtain ⟨may, hmay⟩ : ∃ may, Hid (rdB p f ⟨io, ia, ib, ic⟩ K = may) := ⟨_, rfl⟩
  have HBE : Hid (setsK may (stS p f ⟨io, ia, ib, ic⟩ K) K = behK p f ⟨io, ia, ib, ic⟩ K) := by unfold Hid; rw [← hmay.out]; exact sets_beh p f _ K
  clear hp hf hk
  go_enter Try.func30, Try.ntmps30
  go_wp2_with fail
  refine (mayRead_any p f io ia ib ic ag az af cg cs cf a0 a3 a4 c0 c3 c4 K ak ck hmay hi hK _ HT.out.pp HT.out.ff HT.out.kk).mono ?_
  rintro e w1 ⟨rfl, hb⟩
  have HT1 : Hid (OnT w w1 w.heap.size p f io ia ib ic ag az af cg cs cf a0 a3 a4 c0 c3 c4 K ak ck) := HT.out.below hb
  clear hb d0 d1 d2 d3 d4 d5 d6 d7 d8 d9 d10 d11 d12 HT hwa
  obtain ⟨d0, d1, d2, d3, d4, d5, d6, d7, d8, d9, d10, d11⟩ := HT1.out.box.c
  have d12 := HT1.out.k12
  go_wp2_with fail
  refine (cloneK_any K _ _ hK.out.2.2 HT1.out.kk.at_).mono ?_
  rintro e w2 ⟨v', rfl, hown, hb⟩
  have HT2 : Hid (OnT w w2 w.heap.size p f io ia ib ic ag az af cg cs cf a0 a3 a4 c0 c3 c4 K ak ck) := HT1.out.below hb
  have HO2 : Hid (OwnK w2 w.heap.size v' K ∧ ∀ k, v'.ownBlock = some k → k < w2.heap.size) := ⟨own_base hown HT1.out.low.size, fun k hk => (hown.lt k hk).2⟩
  obtain ⟨a5, c5, rfl⟩ := own_len hown
  clear hb hown d0 d1 d2 d3 d4 d5 d6 d7 d8 d9 d10 d11 d12 HT1
  obtain ⟨d0, d1, d2, d3, d4, d5, d6, d7, d8, d9, d10, d11⟩ := HT2.out.box.c
  have d12 := HT2.out.k12
  go_wp2_with fail
  refine (settings_any p f io ia ib ic ag az af cg cs cf a0 a3 a4 c0 c3 c4 K ak ck hi hF hK _ HT2.out.pp HT2.out.ff HT2.out.kk).mono ?_
  rintro e w3 ⟨u, rfl, hst, hb, hnew⟩
  generalize hS : stS p f ⟨io, ia, ib, ic⟩ K = S at *
  obtain ⟨ua, uc, rfl⟩ := hst.len
  have HB3 : Hid (BhAt w w3 w2.heap.size (.slice a5 K.length c5) (.slice ua S.length uc) may S K 0) := ⟨by
    have := own_below HO2.out.1 hb
    simpa [setsK, OwnK] using this, hst, HT2.out.low.trans (hb.mono HT2.out.low.size), HO2.out.2, hnew⟩
  have HSL : Hid (S.length ≤ 2) := by
    unfold Hid
    rw [← hS]
    unfold stS
    split
    · simp
    · split <;> simp
  have HCC : Hid (K.length ≤ c5) := HO2.out.1.cap
  clear hb hst hnew d0 d1 d2 d3 d4 d5 d6 d7 d8 d9 d10 d11 d12 HT2 HO2 hS
  go_wp2_with fail
  go_loopw [6, 15] (fun _ i wr => ∃ j : Nat, j ≤ S.length ∧ i = .int .i64 j ∧ Hid (BhAt w wr w2.heap.size (.slice a5 K.length c5) (.slice ua S.length uc) may S K j)) (fun _ i _ => S.length - (intOf i).toNat)
  case atStart => exact ⟨0, Nat.zero_le _, rfl, HB3⟩
  case round =>
    obtain ⟨j, hj, rfl, HR⟩ := hrel
    clear HB3
    by_cases hlt : j < S.length
    · obtain ⟨s, hs⟩ : ∃ s, S[j]? = some s := ⟨_, List.getElem?_eq_getElem hlt⟩
      obtain ⟨y, x⟩ := s
      obtain ⟨m, hym, hm⟩ := HIN.out (y, x) (List.mem_of_getElem? hs)
      have hym' : y = (m : Int) := hym
      subst hym'
      obtain ⟨gu, rfl, hgu, u0, u1⟩ := HR.out.st.some hs
      obtain ⟨g, cap, hv, hg0, hg1⟩ := HR.out.own.form (by omega)
      cases hv
      have hf : wr.frozen? ⟨g, m, none⟩ = false := HR.out.own.frozenAt m
      have hcm : wr.cell? ⟨g, m, none⟩ = ((setsK may (S.take j) K).map (Value.int .i64))[m]? := HR.out.own.cellAt m (by omega)
      have hmI : (m : Int) < (K.length : Int) := by omega
      have hjI : (j : Int) < (S.length : Int) := by omega
      have hj3 : j + 1 ≤ 9223372036854775807 := by have := HSL.out; omega
      have HN : Hid (∀ z, (if may = true then x else 0) = z → BhAt w (wr.setCell ⟨g, m, none⟩ (.int .i64 z)) w2.heap.size (.slice (some ⟨g, 0, none⟩) K.length c5) (.slice (some ⟨gu, 0, none⟩) S.length uc) may S K (j + 1)) := fun z hz => HR.out.step hs rfl hz
      have hcm2 : ∃ q, wr.cell? ⟨g, m, none⟩ = some (.int .i64 q) := ⟨_, by rw [hcm]; simp [setsK_len, hm]; rfl⟩
      obtain ⟨q, hcm3⟩ := hcm2
      clear hcm hs hym HR
      cases may with
      | true =>
        have HN1 := HN.out x rfl
        have HN2 : Hid _ := HN1
        clear HN HN1
        go_wp2_with fail
        refine ⟨⟨j + 1, by omega, by go_num, HN2.out.alloc _⟩, by simp [intOf]; omega⟩
      | false =>
        have HN1 := HN.out 0 rfl
        have HN2 : Hid _ := HN1
        clear HN HN1
        go_wp2_with fail
        refine ⟨⟨j + 1, by omega, by go_num, HN2.out.alloc _⟩, by simp [intOf]; omega⟩
    · obtain rfl : j = S.length := by omega
      go_wp2_with fail
      go_ret
      refine ⟨_, _, rfl, ?_, HCC.out, HR.out.low, intRow_own HR.out.own⟩
      have := HR.out.own
      rw [List.take_length, HBE.out] at this
      rw [← behK_len p f ⟨io, ia, ib, ic⟩ K] at this ⊢
      exact src_own _ rfl this

end Go.Proofs.Ytmjappcjfjajmaa

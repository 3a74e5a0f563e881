/- The walk of the document's LayCode. -/
import Derived.Test.YtglalihheppgpaaInF
import Derived.Test.YtglalihheppgpaaQi
import Derived.Deep.RegionHeld3
import Derived.Deep.DeepCutAuto
import Derived.Lib.AppendStr
namespace Go.Proofs.Ytglalihheppgpaa
open Go.RowKit

theorem strCells_nums (xs : List Int) (h : ∀ x ∈ xs, 0 ≤ x ∧ x < 256) : Lib.strCells (strOfNums xs) = xs.map (Value.int .u8) := by
  unfold Lib.strCells
  rw [strOfNums_data, List.map_map]
  apply List.map_congr_left
  intro x hx
  have := h x hx
  simp
  omega
theorem byS_size (v : Int) : (byS v).size = 4 := by unfold byS; rw [strOfNums_size]; rfl

theorem ret_sb {s s' : ByteArray} {n n' : Bool} (h : s = s') (h' : n = n') : Ending.returned (.tuple #[.string s, .bool n]) = .returned (.tuple #[.string s', .bool n']) := by rw [h, h']
theorem box4 (w : World) (i : Ins) : (w.alloc (.cells #[.int .i64 i.o, .int .i64 i.a, .int .i64 i.b, .int .i64 i.c] 23)).rowIs w.heap.size 23 4 (fun k => i.cs.getD k undef) := by
  refine World.rowIs_alloc w #[.int .i64 i.o, .int .i64 i.a, .int .i64 i.b, .int .i64 i.c] 23 (fun k => i.cs.getD k undef) (fun k hk => ?_)
  have : k = 0 ∨ k = 1 ∨ k = 2 ∨ k = 3 := by simp at hk; omega
  rcases this with rfl | rfl | rfl | rfl <;> rfl

/-- What was laid so far, and one instruction in a box. -/
structure Lk (w wk : World) (bx : Nat) (i : Ins) (v : Value) (n : Nat) (M : List Int) : Prop where
  own : wk.ownsRow w.heap.size 5 1 v n (M.map (Value.int .u8))
  box : wk.rowIs bx 23 4 (fun k => i.cs.getD k undef)
  low : Below w.heap.size w wk
theorem Lk.below {w wk w' : World} {bx : Nat} {i : Ins} {v : Value} {n : Nat} {M : List Int} (h : Lk w wk bx i v n M) (hb : Below wk.heap.size wk w') : Lk w w' bx i v n M :=
  ⟨(Ty.of_below (K := []) (B := 0) hb).own h.own (by simp), h.box.of_block (hb.block _ h.box.lt), h.low.trans (hb.mono h.low.size)⟩
theorem Lk.c {w wk : World} {bx : Nat} {i : Ins} {v : Value} {n : Nat} {M : List Int} (h : Lk w wk bx i v n M) : wk.cell? ⟨bx, 0, none⟩ = some (.int .i64 i.o) ∧ wk.cell? ⟨bx, 1, none⟩ = some (.int .i64 i.a) ∧ wk.cell? ⟨bx, 2, none⟩ = some (.int .i64 i.b) ∧ wk.cell? ⟨bx, 3, none⟩ = some (.int .i64 i.c) :=
  ⟨h.box.cell (i := 0) (by decide), h.box.cell (i := 1) (by decide), h.box.cell (i := 2) (by decide), h.box.cell (i := 3) (by decide)⟩

theorem lk_grown {w X w' : World} {bx : Nat} {i : Ins} {v v' : Value} {n n' : Nat} {xs : List Value} {M' : List Int} (hg : X.grownBy w' v.ownBlock) (ho : X.ownsRow w.heap.size 5 1 v n xs) (hb : X.rowIs bx 23 4 (fun k => i.cs.getD k undef)) (hl : Below w.heap.size w X)
    (ho' : w'.ownsRow w.heap.size 5 1 v' n' (M'.map (Value.int .u8))) : Lk w w' bx i v' n' M' :=
  ⟨ho', (Ty.of_grown ho hg (Nat.le_refl _)).row hb (by decide), hl.grown hg hl.size (fun k hk => (ho.lt k hk).1)⟩
theorem step_append_byS {w : World} {ops : Array Oper} {o : Oper} {a : Act} {K : Act → World → Prop} {Q : Exit → Act → World → Prop} {E : Prop} (hgd : o.guard = none) (s x : Operand)
    (ho : o.op = .call { callee := .builtin .append, args := #[s, x], argTypes := #[78, 9] })
    (base : Nat) (i : TypeInfo) (hi : Try.prog.info? 5 = some i) (hz : i.zero = some (.int .u8 0)) (hsize : i.size = 1) (hby : i.bytes = 1)
    (v : Value) (n : Nat) (xs : List Value) (hs : a.eval s = v) (hown : w.ownsRow base 5 1 v n xs) (b : Int) (hx : a.eval x = .string (byS b)) (h63 : n + 4 ≤ 100000) (hbase : base ≤ w.heap.size)
    (h : ∀ v' w', w'.ownsRow base 5 1 v' (n + 4) (xs ++ [byN b 0, byN b 1, byN b 2, byN b 3].map (Value.int .u8)) → w.grownBy w' v.ownBlock → K (a.put o.dst v') w') :
    if Region.wanted o (yielded ops a.tmps) = true then Oper.wp Try.prog o a w K Q else E := by
  have hw : Region.wanted o (yielded ops a.tmps) = true := by simp [Region.wanted, hgd]
  rw [if_pos hw]
  have hsz := byS_size b
  obtain ⟨v', w', hr, h2, h3, _⟩ := Lib.run_append_own_string (P := Try.prog) w base 78 9 o.type 5 i Try.underlying78 (by kernel_rfl) hi hz hsize hby v n xs hown (byS b) (by rw [hsz]; unfold maxLen; omega) (by rw [hsz]; omega) hbase
  have hc : Lib.strCells (byS b) = [byN b 0, byN b 1, byN b 2, byN b 3].map (Value.int .u8) := strCells_nums _ (fun x hx => by
    simp at hx
    rcases hx with rfl | rfl | rfl | rfl <;> exact byN_range _ _)
  rw [hsz, hc] at h2
  unfold Oper.wp execOp
  simp only [ho, resolve, invoke, builtin, Sem.run_bind, Sem.run_pure, Result.andThen_ok, List.map_toArray, List.map_cons, List.map_nil, hs, hx, hr]
  exact h v' w' h2 h3

theorem refKnownI {op : Int} {k : Bool} (h : Hid (kn op = k)) (w : World) : Calls Try.prog 14 #[.int .i64 op] w fun e w' => e = .returned (.bool k) ∧ w' = w := h.out ▸ refKnown_any op w
theorem refOfI {a n : Int} (h : Hid (wrap32 a = n)) (w : World) : Calls Try.prog 56 #[.int .i64 a] w fun e w' => e = .returned (.int .i64 n) ∧ w' = w := h.out ▸ refOf_any a w
theorem refUnusedI {i : Ins} {b : Bool} (h : Hid (unB (ro i.o).1 (ro i.o).2.1 (ro i.o).2.2 i.a i.b i.c = b)) (w : World) : Calls Try.prog 57 #[.agg #[.int .i64 i.o, .int .i64 i.a, .int .i64 i.b, .int .i64 i.c]] w fun e w' => e = .returned (.bool b) ∧ Below w.heap.size w w' := h.out ▸ refUnused_any i w

set_option maxRecDepth 100000 in
set_option maxHeartbeats 8000000 in
theorem refLay_core (L : List Ins) (b off c : Nat) (w : World) (hlen : L.length ≤ 1000) (hlt : b < w.heap.size) (h : ∀ j i, L[j]? = some i → InsAt w b (off + j * 4) i) :
    Calls Try.prog 22 #[.slice (some ⟨b, off, none⟩) L.length c] w fun e w' => e = .returned (.tuple #[.string (layR L), .bool (L.all fit)]) ∧ Below w.heap.size w w' := by
  obtain ⟨i0, hi, hz0, hz1, hz2⟩ := info_parts Try.info5
  have HS : Hid (∀ j i, L[j]? = some i → InsAt w b (off + j * 4) i) := h
  obtain ⟨al, hal⟩ : ∃ al, Hid (L.all fit = al) := ⟨_, rfl⟩
  rw [hal.out]
  clear h
  go_enter Try.func22, Try.ntmps22
  go_wp2_with fail
  go_loopw [4, 5] (fun v k wr => ∃ j n : Nat, j ≤ L.length ∧ n = 7 * j ∧ k = .int .i64 j ∧ wr.ownsRow w.heap.size 5 1 v n ((layN (L.take j)).map (Value.int .u8)) ∧ (∀ x ∈ L.take j, fit x = true) ∧ Below w.heap.size w wr) (fun _ k _ => L.length - (intOf k).toNat)
  case atStart => exact ⟨0, 0, Nat.zero_le _, rfl, rfl, World.ownsRow_nil _ _ _ _, fun x hx => by simp at hx, Below.refl _ _⟩
  case round =>
    obtain ⟨j, n, hj, hn, rfl, hown, hall, hB⟩ := hrel
    obtain ⟨va, vc, rfl⟩ : ∃ va vc, u4 = .slice va n vc := own_len hown
    have HA : Hid (∀ x ∈ L.take j, fit x = true) := hall
    have HO : Hid (wr.ownsRow w.heap.size 5 1 (.slice va n vc) n ((layN (L.take j)).map (Value.int .u8))) := hown
    have HB : Hid (Below w.heap.size w wr) := hB
    have HN : Hid (n = 7 * j) := hn
    clear hall hown hB hn
    by_cases hjl : j < L.length
    · obtain ⟨i, hi'⟩ : ∃ i, L[j]? = some i := ⟨_, List.getElem?_eq_getElem hjl⟩
      have HI : Hid (L[j]? = some i) := hi'
      obtain ⟨c0, c1, c2, c3⟩ := (HS.out j i hi').below HB.out hlt
      have hjI : (j : Int) < (L.length : Int) := by omega
      have HK : Hid (Lk w (wr.alloc (.cells #[.int .i64 i.o, .int .i64 i.a, .int .i64 i.b, .int .i64 i.c] 23)) wr.heap.size i (.slice va n vc) n (layN (L.take j))) := ⟨HO.out.alloc _, box4 wr i, HB.out.alloc HB.out.size _⟩
      clear hi' HO HB
      go_upto_region 6 with (fail)
      generalize wr.alloc (.cells #[.int .i64 i.o, .int .i64 i.a, .int .i64 i.b, .int .i64 i.c] 23) = w2 at *
      generalize wr.heap.size = bx at *
      clear c0 c1 c2 c3
      obtain ⟨ft, hft⟩ : ∃ ft, Hid (fit i = ft) := ⟨_, rfl⟩
      go_cut [53] (fun v wk => v = .bool (!ft) ∧ Hid (Lk w wk bx i (.slice va n vc) n (layN (L.take j))))
      case first =>
        obtain ⟨kk, hkk⟩ : ∃ kk, Hid (kn i.o = kk) := ⟨_, rfl⟩
        obtain ⟨ub, hub⟩ : ∃ ub, Hid (unB (ro i.o).1 (ro i.o).2.1 (ro i.o).2.2 i.a i.b i.c = ub) := ⟨_, rfl⟩
        obtain ⟨ob, hob⟩ : ∃ ob, Hid (wrap32 i.b = ob) := ⟨_, rfl⟩
        have HFT : Hid (ft = (kk && (decide (0 ≤ i.a) && decide (i.a < 256)) && (decide (0 ≤ i.c) && decide (i.c < 256)) && !(ob != i.b) && ub)) := by
          unfold Hid
          rw [← hft.out, ← hkk.out, ← hob.out, ← hub.out]
          simp [fit, fitB, byB, bne]
        clear hft
        let I : World → Prop := fun w' => Lk w w' bx i (.slice va n vc) n (layN (L.take j))
        have hI : I w2.drew := HK.out.below ((Below.refl _ _).drew)
        haveI : Nonempty (InW I) := ⟨⟨_, hI⟩⟩
        have e0 : ∀ z : InW I, z.w.cell? ⟨bx, 0, none⟩ = some (.int .i64 i.o) := fun z => z.h.c.1
        have e1 : ∀ z : InW I, z.w.cell? ⟨bx, 1, none⟩ = some (.int .i64 i.a) := fun z => z.h.c.2.1
        have e2 : ∀ z : InW I, z.w.cell? ⟨bx, 2, none⟩ = some (.int .i64 i.b) := fun z => z.h.c.2.2.1
        have e3 : ∀ z : InW I, z.w.cell? ⟨bx, 3, none⟩ = some (.int .i64 i.c) := fun z => z.h.c.2.2.2
        have hun : Hid (∀ z : InW I, Calls Try.prog 57 #[.agg #[.int .i64 i.o, .int .i64 i.a, .int .i64 i.b, .int .i64 i.c]] z.w fun e w' => e = .returned (.bool ub) ∧ I w') := fun z =>
          (refUnusedI hub z.w).mono fun e w' ⟨he, hb⟩ => ⟨he, z.h.below hb⟩
        have hIK : Hid (∀ z : InW I, Lk w z.w bx i (.slice va n vc) n (layN (L.take j))) := fun z => z.h
        clear_value I
        have hcs : kk = false ∨ (kk = true ∧ i.a < 0) ∨ (kk = true ∧ ¬ i.a < 0 ∧ 255 < i.a) ∨ (kk = true ∧ ¬ i.a < 0 ∧ ¬ 255 < i.a ∧ i.c < 0) ∨ (kk = true ∧ ¬ i.a < 0 ∧ ¬ 255 < i.a ∧ ¬ i.c < 0 ∧ 255 < i.c) ∨ (kk = true ∧ ¬ i.a < 0 ∧ ¬ 255 < i.a ∧ ¬ i.c < 0 ∧ ¬ 255 < i.c ∧ (ob != i.b) = true) ∨ (kk = true ∧ ¬ i.a < 0 ∧ ¬ 255 < i.a ∧ ¬ i.c < 0 ∧ ¬ 255 < i.c ∧ (ob != i.b) = false) := by
          cases kk
          · exact Or.inl rfl
          · by_cases g1 : i.a < 0
            · exact Or.inr (Or.inl ⟨rfl, g1⟩)
            · by_cases g2 : 255 < i.a
              · exact Or.inr (Or.inr (Or.inl ⟨rfl, g1, g2⟩))
              · by_cases g3 : i.c < 0
                · exact Or.inr (Or.inr (Or.inr (Or.inl ⟨rfl, g1, g2, g3⟩)))
                · by_cases g4 : 255 < i.c
                  · exact Or.inr (Or.inr (Or.inr (Or.inr (Or.inl ⟨rfl, g1, g2, g3, g4⟩))))
                  · by_cases g5 : ob = i.b
                    · exact Or.inr (Or.inr (Or.inr (Or.inr (Or.inr (Or.inr ⟨rfl, g1, g2, g3, g4, by simpa using g5⟩)))))
                    · exact Or.inr (Or.inr (Or.inr (Or.inr (Or.inr (Or.inl ⟨rfl, g1, g2, g3, g4, by simpa using g5⟩)))))
        rcases hcs with rfl | ⟨rfl, g1⟩ | ⟨rfl, g1, g2⟩ | ⟨rfl, g1, g2, g3⟩ | ⟨rfl, g1, g2, g3, g4⟩ | ⟨rfl, g1, g2, g3, g4, g5⟩ | ⟨rfl, g1, g2, g3, g4, g5⟩
        all_goals
          refine wp_region_in (by kernel_rfl) (by kernel_rfl) hI ?_
          repeat (go_big_quiet_step (first
            | (go_at_call 14; exact callSame (refKnownI hkk _))
            | (go_at_call 56; exact callSame (refOfI hob _))
            | (go_at_call 57; exact callIn (hun.out _))))
          refine wpQuiet_nil ?_
          rintro _ ⟨z, rfl⟩
          clear hun hI
          go_wp2
          go_meet
          case rel =>
            refine ⟨congrArg Value.bool ?_, hIK.out z⟩
            rw [HFT.out]
            simp
            try (first | omega | exact Or.inl (Or.inr (by simpa using g5)) | exact fun hh => hh.elim (fun h => absurd h (by omega)) (fun h => absurd (by simpa using g5) h))
      case rest =>
        obtain ⟨rfl, hlk⟩ := hcut
        have HL : Hid (Lk w wc bx i (.slice va n vc) n (layN (L.take j))) := hlk
        clear hlk HK
        cases ft with
        | false =>
          have ha := all_false HI.out hft.out
          have hr : Hid ((⟨#[]⟩ : ByteArray) = layR L ∧ false = al) := by unfold Hid layR; rw [ha, ← hal.out, ha]; exact ⟨rfl, rfl⟩
          clear ha
          go_wp2_with fail
          go_ret2
          exact ⟨ret_sb hr.out.1 hr.out.2, HL.out.low⟩
        | true =>
          have HT : Hid (∀ x ∈ L.take (j + 1), fit x = true) := take_all HI.out HA.out hft.out
          have HNX : Hid (layN (L.take (j + 1)) = layN (L.take j) ++ insN i) := layN_snoc L j i HI.out
          clear hft HA
          obtain ⟨w2, hw2⟩ : ∃ w2, w2 = wc := ⟨_, rfl⟩
          subst hw2
          go_upto_region 8 with (fail)
          have HM : Hid (n + 3 ≤ maxLen ∧ (n + 3) * 1 ≤ 140737488355328 ∧ n + 3 + 4 ≤ 100000) := by
            have := HN.out
            exact ⟨by unfold maxLen; omega, by omega, by omega⟩
          have NA : Hid (∀ j' u, ([i.o % 256, i.a % 256, i.c % 256].map (Value.int .u8))[j']? = some u → (w2.alloc (.cells #[.int .u8 (i.o % 256), .int .u8 (i.a % 256), .int .u8 (i.c % 256)] 5)).cell? ((⟨w2.heap.size, 0, none⟩ : Addr).add j') = some u) := fun j' u hu => by
            rw [Go.WideShapes.add_plain, Nat.zero_add]
            exact cell_new w2 _ _ (by rw [← hu]; simp)
          have NB : Hid (∀ j' u, ([i.o % 256, i.a % 256, i.c % 256].map (Value.int .u8))[j']? = some u → ((w2.alloc (.cells #[.int .u8 (i.o % 256), .int .u8 (i.a % 256), .int .u8 (i.c % 256)] 5)).alloc (.cells #[.int .u8 (byN i.b 0), .int .u8 (byN i.b 1), .int .u8 (byN i.b 2), .int .u8 (byN i.b 3)] 5)).cell? ((⟨w2.heap.size, 0, none⟩ : Addr).add j') = some u) := fun j' u hu => by
            have := NA.out j' u hu
            rw [Go.WideShapes.add_plain] at this ⊢
            rw [cell_old (by simp)]
            exact this
          have NC : Hid (∀ j' u, ([i.o % 256, i.a % 256, i.c % 256].map (Value.int .u8))[j']? = some u → ((w2.alloc (.cells #[.int .u8 (byN i.b 0), .int .u8 (byN i.b 1), .int .u8 (byN i.b 2), .int .u8 (byN i.b 3)] 5)).alloc (.cells #[.int .u8 (i.o % 256), .int .u8 (i.a % 256), .int .u8 (i.c % 256)] 5)).cell? ((⟨w2.heap.size + 1, 0, none⟩ : Addr).add j') = some u) := fun j' u hu => by
            rw [Go.WideShapes.add_plain, Nat.zero_add]
            have := cell_new (w2.alloc (.cells #[.int .u8 (byN i.b 0), .int .u8 (byN i.b 1), .int .u8 (byN i.b 2), .int .u8 (byN i.b 3)] 5)) #[.int .u8 (i.o % 256), .int .u8 (i.a % 256), .int .u8 (i.c % 256)] 5 (j := j') (v := u) (by rw [← hu]; simp)
            simpa using this
          have k0 : IntKind.u8.wrap i.o = i.o % 256 := IntKind.wrap_u8 _
          have k1 : IntKind.u8.wrap i.a = i.a % 256 := IntKind.wrap_u8 _
          have k2 : IntKind.u8.wrap i.c = i.c % 256 := IntKind.wrap_u8 _
          go_region_held3 (fun w' => w'.cell? ⟨bx, 0, none⟩ = some (.int .i64 i.o) ∧ w'.cell? ⟨bx, 1, none⟩ = some (.int .i64 i.a) ∧ w'.cell? ⟨bx, 2, none⟩ = some (.int .i64 i.b) ∧ w'.cell? ⟨bx, 3, none⟩ = some (.int .i64 i.c))
            (first | exact HL8.out.c | exact (HL7.out.below ((Below.refl _ _).alloc (Nat.le_refl _) _)).c | exact HL7.out.c | exact HL.out.c | exact (HL.out.below ((Below.refl _ _).alloc (Nat.le_refl _) _)).c | exact ((HL.out.below ((Below.refl _ _).alloc (Nat.le_refl _) _)).below ((Below.refl _ _).alloc (Nat.le_refl _) _)).c)
            (first
              | (go_at_call 58; refine (refBytes_any i.b _).mono ?_; rintro e w6 ⟨rfl, hw6⟩; rw [hw6]; clear hw6)
              | (refine step_append_lies _ (by rfl) _ _ 78 (by rfl) w.heap.size 5 i0 (.int .u8 0) 1 1 Try.underlying78 hi hz0 hz1 hz2 rfl (by decide) _ _ _ (by rfl) (HL.out.own.alloc (.cells #[.int .u8 (i.o % 256), .int .u8 (i.a % 256), .int .u8 (i.c % 256)] 5)) ⟨w2.heap.size, 0, none⟩ 3 3 ([i.o % 256, i.a % 256, i.c % 256].map (Value.int .u8)) (by rfl) rfl NA.out (bytes_one _) (by decide) HM.out.1 HM.out.2.1 (HL.out.low.alloc HL.out.low.size (.cells #[.int .u8 (i.o % 256), .int .u8 (i.a % 256), .int .u8 (i.c % 256)] 5)).size _ rfl ?_; intro g7 cap7 w7 ho7 hg7 hat7 hlt7; have HL7 : Hid (Lk w w7 bx i (.slice (some ⟨g7, 0, none⟩) (n + 3) cap7) (n + 3) (layN (L.take j) ++ [i.o % 256, i.a % 256, i.c % 256])) := lk_grown hg7 (HL.out.own.alloc (.cells #[.int .u8 (i.o % 256), .int .u8 (i.a % 256), .int .u8 (i.c % 256)] 5)) (HL.out.box.alloc (.cells #[.int .u8 (i.o % 256), .int .u8 (i.a % 256), .int .u8 (i.c % 256)] 5)) ((HL.out.low.alloc HL.out.low.size (.cells #[.int .u8 (i.o % 256), .int .u8 (i.a % 256), .int .u8 (i.c % 256)] 5)).drew) (by simpa using ho7); clear ho7 hg7 hat7 hlt7)
              | (refine step_append_lies _ (by rfl) _ _ 78 (by rfl) w.heap.size 5 i0 (.int .u8 0) 1 1 Try.underlying78 hi hz0 hz1 hz2 rfl (by decide) _ _ _ (by rfl) ((HL.out.own.alloc (.cells #[.int .u8 (i.o % 256), .int .u8 (i.a % 256), .int .u8 (i.c % 256)] 5)).alloc (.cells #[.int .u8 (byN i.b 0), .int .u8 (byN i.b 1), .int .u8 (byN i.b 2), .int .u8 (byN i.b 3)] 5)) ⟨w2.heap.size, 0, none⟩ 3 3 ([i.o % 256, i.a % 256, i.c % 256].map (Value.int .u8)) (by rfl) rfl NB.out (bytes_one _) (by decide) HM.out.1 HM.out.2.1 ((HL.out.low.alloc HL.out.low.size (.cells #[.int .u8 (i.o % 256), .int .u8 (i.a % 256), .int .u8 (i.c % 256)] 5)).alloc (HL.out.low.alloc HL.out.low.size (.cells #[.int .u8 (i.o % 256), .int .u8 (i.a % 256), .int .u8 (i.c % 256)] 5)).size (.cells #[.int .u8 (byN i.b 0), .int .u8 (byN i.b 1), .int .u8 (byN i.b 2), .int .u8 (byN i.b 3)] 5)).size _ rfl ?_; intro g7 cap7 w7 ho7 hg7 hat7 hlt7; have HL7 : Hid (Lk w w7 bx i (.slice (some ⟨g7, 0, none⟩) (n + 3) cap7) (n + 3) (layN (L.take j) ++ [i.o % 256, i.a % 256, i.c % 256])) := lk_grown hg7 ((HL.out.own.alloc (.cells #[.int .u8 (i.o % 256), .int .u8 (i.a % 256), .int .u8 (i.c % 256)] 5)).alloc (.cells #[.int .u8 (byN i.b 0), .int .u8 (byN i.b 1), .int .u8 (byN i.b 2), .int .u8 (byN i.b 3)] 5)) ((HL.out.box.alloc (.cells #[.int .u8 (i.o % 256), .int .u8 (i.a % 256), .int .u8 (i.c % 256)] 5)).alloc (.cells #[.int .u8 (byN i.b 0), .int .u8 (byN i.b 1), .int .u8 (byN i.b 2), .int .u8 (byN i.b 3)] 5)) (((HL.out.low.alloc HL.out.low.size (.cells #[.int .u8 (i.o % 256), .int .u8 (i.a % 256), .int .u8 (i.c % 256)] 5)).alloc (HL.out.low.alloc HL.out.low.size (.cells #[.int .u8 (i.o % 256), .int .u8 (i.a % 256), .int .u8 (i.c % 256)] 5)).size (.cells #[.int .u8 (byN i.b 0), .int .u8 (byN i.b 1), .int .u8 (byN i.b 2), .int .u8 (byN i.b 3)] 5)).drew) (by simpa using ho7); clear ho7 hg7 hat7 hlt7)
              | (refine step_append_lies _ (by rfl) _ _ 78 (by rfl) w.heap.size 5 i0 (.int .u8 0) 1 1 Try.underlying78 hi hz0 hz1 hz2 rfl (by decide) _ _ _ (by rfl) ((HL.out.own.alloc (.cells #[.int .u8 (byN i.b 0), .int .u8 (byN i.b 1), .int .u8 (byN i.b 2), .int .u8 (byN i.b 3)] 5)).alloc (.cells #[.int .u8 (i.o % 256), .int .u8 (i.a % 256), .int .u8 (i.c % 256)] 5)) ⟨w2.heap.size + 1, 0, none⟩ 3 3 ([i.o % 256, i.a % 256, i.c % 256].map (Value.int .u8)) (by rfl) rfl NC.out (bytes_one _) (by decide) HM.out.1 HM.out.2.1 ((HL.out.low.alloc HL.out.low.size (.cells #[.int .u8 (byN i.b 0), .int .u8 (byN i.b 1), .int .u8 (byN i.b 2), .int .u8 (byN i.b 3)] 5)).alloc (HL.out.low.alloc HL.out.low.size (.cells #[.int .u8 (byN i.b 0), .int .u8 (byN i.b 1), .int .u8 (byN i.b 2), .int .u8 (byN i.b 3)] 5)).size (.cells #[.int .u8 (i.o % 256), .int .u8 (i.a % 256), .int .u8 (i.c % 256)] 5)).size _ rfl ?_; intro g7 cap7 w7 ho7 hg7 hat7 hlt7; have HL7 : Hid (Lk w w7 bx i (.slice (some ⟨g7, 0, none⟩) (n + 3) cap7) (n + 3) (layN (L.take j) ++ [i.o % 256, i.a % 256, i.c % 256])) := lk_grown hg7 ((HL.out.own.alloc (.cells #[.int .u8 (byN i.b 0), .int .u8 (byN i.b 1), .int .u8 (byN i.b 2), .int .u8 (byN i.b 3)] 5)).alloc (.cells #[.int .u8 (i.o % 256), .int .u8 (i.a % 256), .int .u8 (i.c % 256)] 5)) ((HL.out.box.alloc (.cells #[.int .u8 (byN i.b 0), .int .u8 (byN i.b 1), .int .u8 (byN i.b 2), .int .u8 (byN i.b 3)] 5)).alloc (.cells #[.int .u8 (i.o % 256), .int .u8 (i.a % 256), .int .u8 (i.c % 256)] 5)) (((HL.out.low.alloc HL.out.low.size (.cells #[.int .u8 (byN i.b 0), .int .u8 (byN i.b 1), .int .u8 (byN i.b 2), .int .u8 (byN i.b 3)] 5)).alloc (HL.out.low.alloc HL.out.low.size (.cells #[.int .u8 (byN i.b 0), .int .u8 (byN i.b 1), .int .u8 (byN i.b 2), .int .u8 (byN i.b 3)] 5)).size (.cells #[.int .u8 (i.o % 256), .int .u8 (i.a % 256), .int .u8 (i.c % 256)] 5)).drew) (by simpa using ho7); clear ho7 hg7 hat7 hlt7)
              | (refine step_append_byS (by rfl) _ _ (by rfl) w.heap.size i0 hi hz0 hz1 hz2 _ _ _ (by rfl) (HL7.out.own.alloc (.cells #[.int .u8 (byN i.b 0), .int .u8 (byN i.b 1), .int .u8 (byN i.b 2), .int .u8 (byN i.b 3)] 5)) i.b (by rfl) HM.out.2.2 (HL7.out.low.alloc HL7.out.low.size (.cells #[.int .u8 (byN i.b 0), .int .u8 (byN i.b 1), .int .u8 (byN i.b 2), .int .u8 (byN i.b 3)] 5)).size ?_; intro v8 w8 ho8 hg8; have HL8 : Hid (Lk w w8 bx i v8 (n + 3 + 4) (layN (L.take (j + 1)))) := lk_grown hg8 (HL7.out.own.alloc (.cells #[.int .u8 (byN i.b 0), .int .u8 (byN i.b 1), .int .u8 (byN i.b 2), .int .u8 (byN i.b 3)] 5)) (HL7.out.box.alloc (.cells #[.int .u8 (byN i.b 0), .int .u8 (byN i.b 1), .int .u8 (byN i.b 2), .int .u8 (byN i.b 3)] 5)) (HL7.out.low.alloc HL7.out.low.size (.cells #[.int .u8 (byN i.b 0), .int .u8 (byN i.b 1), .int .u8 (byN i.b 2), .int .u8 (byN i.b 3)] 5)) (by rw [HNX.out]; simpa [insN] using ho8); clear ho8 hg8)
              | (refine step_append_byS (by rfl) _ _ (by rfl) w.heap.size i0 hi hz0 hz1 hz2 _ _ _ (by rfl) (HL7.out.own) i.b (by rfl) HM.out.2.2 (HL7.out.low).size ?_; intro v8 w8 ho8 hg8; have HL8 : Hid (Lk w w8 bx i v8 (n + 3 + 4) (layN (L.take (j + 1)))) := lk_grown hg8 (HL7.out.own) (HL7.out.box) (HL7.out.low) (by rw [HNX.out]; simpa [insN] using ho8); clear ho8 hg8))
          all_goals
            clear NA NB NC HM HL
            go_wp2_with fail
            go_roundw
            case rel => exact ⟨j + 1, n + 3 + 4, by omega, by have := HN.out; omega, by go_num, HL8.out.own, HT.out, HL8.out.low⟩
            case measure => simp [intOf]; omega
    · have e : j = L.length := by omega
      have ha := all_true e HA.out
      subst e
      rw [List.take_length] at HO
      have hr : Hid (layS L = layR L ∧ true = al) := by unfold Hid layR; rw [ha, ← hal.out, ha]; exact ⟨rfl, rfl⟩
      clear ha
      rcases HO.out.2 with ⟨h1, h2⟩ | ⟨g, cap, cur, h1, _⟩
      · cases h1
        have hl0 : L.length = 0 := by have := HN.out; omega
        have hL0 : L = [] := List.eq_nil_of_length_eq_zero hl0
        have hcv := fun w => run_convert_bytes_nil (P := Try.prog) w 78 5 Try.underlying78 Try.under8 0 0 9 (by kernel_rfl)
        have hr2 : Hid (ByteArray.empty = layR L ∧ true = al) := ⟨by rw [← hr.out.1, hL0]; rfl, hr.out.2⟩
        clear hl0 hL0
        go_wp2_with fail
        go_ret2
        exact ⟨ret_sb hr2.out.1 hr2.out.2, HB.out⟩
      · cases h1
        have hcv := str_bytes HO.out
        go_wp2_with fail
        go_ret2
        exact ⟨ret_sb hr.out.1 hr.out.2, HB.out⟩

theorem refLay_zero (a : Option Addr) (c : Nat) (w : World) : Calls Try.prog 22 #[.slice a 0 c] w fun e w' => e = .returned (.tuple #[.string (layR []), .bool true]) ∧ Below w.heap.size w w' := by
  have hcv := fun w => run_convert_bytes_nil (P := Try.prog) w 78 5 Try.underlying78 Try.under8 0 0 9 (by kernel_rfl)
  have hr : Hid (ByteArray.empty = layR []) := rfl
  go_enter Try.func22, Try.ntmps22
  go_wp2_with fail
  go_loop [4, 5] (fun v i => v = .slice none 0 0 ∧ i = .int .i64 0) (fun _ _ => 0)
  case atStart => exact ⟨rfl, rfl⟩
  case round =>
    obtain ⟨rfl, rfl⟩ := hrel
    go_wp2_with fail
    go_ret2
    exact ⟨ret_sb hr.out rfl, Below.refl _ _⟩
theorem refLay_any (L : List Ins) (v : Value) (w : World) (hlen : L.length ≤ 1000) (h : SrcI w v L) :
    Calls Try.prog 22 #[v] w fun e w' => e = .returned (.tuple #[.string (layR L), .bool (L.all fit)]) ∧ Below w.heap.size w w' := by
  by_cases h0 : L = []
  · subst h0
    obtain ⟨a, c, rfl⟩ := h.len
    exact refLay_zero a c w
  · rcases h with ⟨h, _⟩ | ⟨b, off, c, rfl, h2, h3⟩
    · exact absurd h h0
    · exact refLay_core L b off c w hlen h2 h3

end Go.Proofs.Ytglalihheppgpaa

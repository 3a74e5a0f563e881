/- The walk of besomlaw5's alive. -/
import Derived.Test.YtfkimmbnmcgjiaaDoorPgD
namespace Go.Proofs.YtfkimmbnmcgjiaaDoor
open Go.RowKit

/-- IN MEMORY: the Page; what was there in w is as it was, the library's table among it. -/
structure PS (w wr : World) (b : Nat) (c : Int) (n : Nat) (U M : Nat → Bool) : Prop where
  pg : PgAt wr b c n U M
  lo : Below w.heap.size w wr
  hb : w.heap.size ≤ b
  t0 : Tab w
theorem PS.tb {w wr : World} {b : Nat} {c : Int} {n : Nat} {U M : Nat → Bool} (h : PS w wr b c n U M) : Tab wr := h.t0.below h.lo h.t0.size
theorem PS.but {w wr w' : World} {b : Nat} {c : Int} {n : Nat} {U M U' M' : Nat → Bool} (h : PS w wr b c n U M) (hb : But b wr w') (hp : PgAt w' b c n U' M') : PS w w' b c n U' M' :=
  ⟨hp, h.lo.trans (hb.below h.hb h.lo.size), h.hb, h.t0⟩
theorem PS.below {w wr w' : World} {b : Nat} {c : Int} {n : Nat} {U M : Nat → Bool} (h : PS w wr b c n U M) (hb : Below wr.heap.size wr w') : PS w w' b c n U M :=
  ⟨h.pg.below hb, h.lo.trans (hb.mono h.lo.size), h.hb, h.t0⟩
theorem PS.drewN {w wr : World} {b : Nat} {c : Int} {n : Nat} {U M : Nat → Bool} (h : PS w wr b c n U M) (q : Nat) : PS w (wr.drewN q) b c n U M :=
  ⟨h.pg.drewN q, below_drewN h.lo q, h.hb, h.t0⟩

end Go.Proofs.YtfkimmbnmcgjiaaDoor

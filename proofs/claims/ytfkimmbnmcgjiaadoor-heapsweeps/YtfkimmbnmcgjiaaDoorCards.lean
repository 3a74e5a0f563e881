/-
  DERIVED. GIVEN WITH THE SEED: THE CARDS: each row of YtfkimmbnmcgjiaaDoorRows.lean that lists a variable, with what it lists TIED to the program's text (the seventh form; the later family's looks); each row that meets fmt, with fmt's text TOLD by the authors' own Lean function (tested against real Go, not proved from fmt's source: count such statements apart). THE CARD IS WHAT COUNTS. Prove the row's statement (the work); the ties are given (YtfkimmbnmcgjiaaDoorTie.lean); close each card by the builder's one call (the guide's Derived/Test/ToyasCard.lean, 'card_holds'). Laid BY PROGRAM, IN A SANDBOX (cutbox-door.mjs). By AI agents, Wed Nov 11 2026. No macro, syntax, notation, axiom, sorry.
-/
import Derived.Test.YtfkimmbnmcgjiaaDoorRows
import GoSem.ClaimSeven
namespace Go.Proofs.YtfkimmbnmcgjiaaDoor
namespace Rows

/-- THE TIED CARD OF 'besomlaw7.HeapSweeps'. -/
def heapSweepsCard : Claim7 := { stood := { row := heapSweepsRow, standIns := [], harness := (true, "c767cf40dcdc574407053792623aab1bf1ac568e7ad5bd6d4904c5722e737a73"), looks := false }, kinds := [], alts := [], laidByText := true, laidKinds := [.data], laidTests := true, laidLooks := .later }
def HeapSweepsCardSaid : Prop := Claim7.holds Tryd.pinned (.plain (OpenSpec.ofChange heapSweepsSpec)) heapSweepsCard

/-- THE TIED CARD OF 'besomlaw7.HeapSerials'. -/
def heapSerialsCard : Claim7 := { stood := { row := heapSerialsRow, standIns := [], harness := (true, "c767cf40dcdc574407053792623aab1bf1ac568e7ad5bd6d4904c5722e737a73"), looks := false }, kinds := [], alts := [], laidByText := true, laidKinds := [.data], laidTests := true, laidLooks := .later }
def HeapSerialsCardSaid : Prop := Claim7.holds Tryd.pinned (.plain (OpenSpec.ofChange heapSerialsSpec)) heapSerialsCard

/-- THE TIED CARD OF 'besomlaw7.HeapFields'. -/
def heapFieldsCard : Claim7 := { stood := { row := heapFieldsRow, standIns := [], harness := (true, "c767cf40dcdc574407053792623aab1bf1ac568e7ad5bd6d4904c5722e737a73"), looks := false }, kinds := [], alts := [], laidByText := true, laidKinds := [.data], laidTests := true, laidLooks := .later }
def HeapFieldsCardSaid : Prop := Claim7.holds Tryd.pinned (.plain (OpenSpec.ofChange heapFieldsSpec)) heapFieldsCard

/-- THE SECOND FORM's CARD OF 'besomlaw7.HeapSweeps'. -/
def heapSweepsUptoCard : Claim7 := { stood := { row := heapSweepsUptoRow, standIns := [], harness := (true, "c767cf40dcdc574407053792623aab1bf1ac568e7ad5bd6d4904c5722e737a73"), looks := false }, kinds := [], alts := [], laidByText := true, laidKinds := [.data], laidTests := true, laidLooks := .later }
def HeapSweepsUptoCardSaid : Prop := Claim7.holds Tryd.pinned (.plain (OpenSpec.upto heapSweepsSpec)) heapSweepsUptoCard

/-- THE SECOND FORM's CARD OF 'besomlaw7.HeapSerials'. -/
def heapSerialsUptoCard : Claim7 := { stood := { row := heapSerialsUptoRow, standIns := [], harness := (true, "c767cf40dcdc574407053792623aab1bf1ac568e7ad5bd6d4904c5722e737a73"), looks := false }, kinds := [], alts := [], laidByText := true, laidKinds := [.data], laidTests := true, laidLooks := .later }
def HeapSerialsUptoCardSaid : Prop := Claim7.holds Tryd.pinned (.plain (OpenSpec.upto heapSerialsSpec)) heapSerialsUptoCard

/-- THE SECOND FORM's CARD OF 'besomlaw7.HeapFields'. -/
def heapFieldsUptoCard : Claim7 := { stood := { row := heapFieldsUptoRow, standIns := [], harness := (true, "c767cf40dcdc574407053792623aab1bf1ac568e7ad5bd6d4904c5722e737a73"), looks := false }, kinds := [], alts := [], laidByText := true, laidKinds := [.data], laidTests := true, laidLooks := .later }
def HeapFieldsUptoCardSaid : Prop := Claim7.holds Tryd.pinned (.plain (OpenSpec.upto heapFieldsSpec)) heapFieldsUptoCard
end Rows
end Go.Proofs.YtfkimmbnmcgjiaaDoor

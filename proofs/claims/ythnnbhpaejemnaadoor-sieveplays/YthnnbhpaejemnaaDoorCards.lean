/-
  DERIVED. GIVEN WITH THE SEED: THE CARDS: each row of YthnnbhpaejemnaaDoorRows.lean that lists a variable, with what it lists TIED to the program's text (the seventh form; the later family's looks); each row that meets fmt, with fmt's text TOLD by the authors' own Lean function (tested against real Go, not proved from fmt's source: count such statements apart). THE CARD IS WHAT COUNTS. Prove the row's statement (the work); the ties are given (YthnnbhpaejemnaaDoorTie.lean); close each card by the builder's one call (the guide's Derived/Test/ToyasCard.lean, 'card_holds'). Laid BY PROGRAM, IN A SANDBOX (cutbox-door.mjs). By AI agents, Wed Nov 11 2026. No macro, syntax, notation, axiom, sorry.
-/
import Derived.Test.YthnnbhpaejemnaaDoorRows
import GoSem.ClaimSeven
namespace Go.Proofs.YthnnbhpaejemnaaDoor
namespace Rows

/-- THE TIED CARD OF 'besomlaw1.SievePlays'. -/
def sievePlaysCard : Claim7 := { stood := { row := sievePlaysRow, standIns := [], harness := (true, "51a916812673da11796f8f132aad6c011f985a97a18bf9e539a25f80062a43f8"), looks := false }, kinds := [], alts := [], laidByText := true, laidKinds := [.data], laidTests := true, laidLooks := .later }
def SievePlaysCardSaid : Prop := Claim7.holds Tryd.pinned (.plain (OpenSpec.ofChange sievePlaysSpec)) sievePlaysCard

/-- THE TIED CARD OF 'besomlaw1.SieveMasks'. -/
def sieveMasksCard : Claim7 := { stood := { row := sieveMasksRow, standIns := [], harness := (true, "51a916812673da11796f8f132aad6c011f985a97a18bf9e539a25f80062a43f8"), looks := false }, kinds := [], alts := [], laidByText := true, laidKinds := [.data], laidTests := true, laidLooks := .later }
def SieveMasksCardSaid : Prop := Claim7.holds Tryd.pinned (.plain (OpenSpec.ofChange sieveMasksSpec)) sieveMasksCard

/-- THE TIED CARD OF 'besomlaw1.SieveSteps'. -/
def sieveStepsCard : Claim7 := { stood := { row := sieveStepsRow, standIns := [], harness := (true, "51a916812673da11796f8f132aad6c011f985a97a18bf9e539a25f80062a43f8"), looks := false }, kinds := [], alts := [], laidByText := true, laidKinds := [.data], laidTests := true, laidLooks := .later }
def SieveStepsCardSaid : Prop := Claim7.holds Tryd.pinned (.plain (OpenSpec.ofChange sieveStepsSpec)) sieveStepsCard

/-- THE TIED CARD OF 'besomlaw1.SieveTwice'. -/
def sieveTwiceCard : Claim7 := { stood := { row := sieveTwiceRow, standIns := [], harness := (true, "51a916812673da11796f8f132aad6c011f985a97a18bf9e539a25f80062a43f8"), looks := false }, kinds := [], alts := [], laidByText := true, laidKinds := [.data], laidTests := true, laidLooks := .later }
def SieveTwiceCardSaid : Prop := Claim7.holds Tryd.pinned (.plain (OpenSpec.ofChange sieveTwiceSpec)) sieveTwiceCard

/-- THE SECOND FORM's CARD OF 'besomlaw1.SievePlays'. -/
def sievePlaysUptoCard : Claim7 := { stood := { row := sievePlaysUptoRow, standIns := [], harness := (true, "51a916812673da11796f8f132aad6c011f985a97a18bf9e539a25f80062a43f8"), looks := false }, kinds := [], alts := [], laidByText := true, laidKinds := [.data], laidTests := true, laidLooks := .later }
def SievePlaysUptoCardSaid : Prop := Claim7.holds Tryd.pinned (.plain (OpenSpec.upto sievePlaysSpec)) sievePlaysUptoCard

/-- THE SECOND FORM's CARD OF 'besomlaw1.SieveMasks'. -/
def sieveMasksUptoCard : Claim7 := { stood := { row := sieveMasksUptoRow, standIns := [], harness := (true, "51a916812673da11796f8f132aad6c011f985a97a18bf9e539a25f80062a43f8"), looks := false }, kinds := [], alts := [], laidByText := true, laidKinds := [.data], laidTests := true, laidLooks := .later }
def SieveMasksUptoCardSaid : Prop := Claim7.holds Tryd.pinned (.plain (OpenSpec.upto sieveMasksSpec)) sieveMasksUptoCard

/-- THE SECOND FORM's CARD OF 'besomlaw1.SieveSteps'. -/
def sieveStepsUptoCard : Claim7 := { stood := { row := sieveStepsUptoRow, standIns := [], harness := (true, "51a916812673da11796f8f132aad6c011f985a97a18bf9e539a25f80062a43f8"), looks := false }, kinds := [], alts := [], laidByText := true, laidKinds := [.data], laidTests := true, laidLooks := .later }
def SieveStepsUptoCardSaid : Prop := Claim7.holds Tryd.pinned (.plain (OpenSpec.upto sieveStepsSpec)) sieveStepsUptoCard

/-- THE SECOND FORM's CARD OF 'besomlaw1.SieveTwice'. -/
def sieveTwiceUptoCard : Claim7 := { stood := { row := sieveTwiceUptoRow, standIns := [], harness := (true, "51a916812673da11796f8f132aad6c011f985a97a18bf9e539a25f80062a43f8"), looks := false }, kinds := [], alts := [], laidByText := true, laidKinds := [.data], laidTests := true, laidLooks := .later }
def SieveTwiceUptoCardSaid : Prop := Claim7.holds Tryd.pinned (.plain (OpenSpec.upto sieveTwiceSpec)) sieveTwiceUptoCard
end Rows
end Go.Proofs.YthnnbhpaejemnaaDoor

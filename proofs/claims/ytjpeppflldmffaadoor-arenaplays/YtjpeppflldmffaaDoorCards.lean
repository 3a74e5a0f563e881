/-
  DERIVED. GIVEN WITH THE SEED: THE CARDS: each row of YtjpeppflldmffaaDoorRows.lean that lists a variable, with what it lists TIED to the program's text (the seventh form; the later family's looks); each row that meets fmt, with fmt's text TOLD by the authors' own Lean function (tested against real Go, not proved from fmt's source: count such statements apart). THE CARD IS WHAT COUNTS. Prove the row's statement (the work); the ties are given (YtjpeppflldmffaaDoorTie.lean); close each card by the builder's one call (the guide's Derived/Test/ToyasCard.lean, 'card_holds'). Laid BY PROGRAM, IN A SANDBOX (cutbox-door.mjs). By AI agents, Wed Nov 11 2026. No macro, syntax, notation, axiom, sorry.
-/
import Derived.Test.YtjpeppflldmffaaDoorRows
import GoSem.ClaimSeven
namespace Go.Proofs.YtjpeppflldmffaaDoor
namespace Rows

/-- THE TIED CARD OF 'besomlaw6.ArenaPlays'. -/
def arenaPlaysCard : Claim7 := { stood := { row := arenaPlaysRow, standIns := [], harness := (true, "99fdab67eff6a6813f1202ddee0354c9f268f4bff7cd70a5542645a444f546cc"), looks := false }, kinds := [], alts := [], laidByText := true, laidKinds := [.data], laidTests := true, laidLooks := .later }
def ArenaPlaysCardSaid : Prop := Claim7.holds Tryd.pinned (.plain (OpenSpec.ofChange arenaPlaysSpec)) arenaPlaysCard

/-- THE TIED CARD OF 'besomlaw6.ArenaInside'. -/
def arenaInsideCard : Claim7 := { stood := { row := arenaInsideRow, standIns := [], harness := (true, "99fdab67eff6a6813f1202ddee0354c9f268f4bff7cd70a5542645a444f546cc"), looks := false }, kinds := [], alts := [], laidByText := true, laidKinds := [.data], laidTests := true, laidLooks := .later }
def ArenaInsideCardSaid : Prop := Claim7.holds Tryd.pinned (.plain (OpenSpec.ofChange arenaInsideSpec)) arenaInsideCard

/-- THE TIED CARD OF 'besomlaw6.ArenaPages'. -/
def arenaPagesCard : Claim7 := { stood := { row := arenaPagesRow, standIns := [], harness := (true, "99fdab67eff6a6813f1202ddee0354c9f268f4bff7cd70a5542645a444f546cc"), looks := false }, kinds := [], alts := [], laidByText := true, laidKinds := [.data], laidTests := true, laidLooks := .later }
def ArenaPagesCardSaid : Prop := Claim7.holds Tryd.pinned (.plain (OpenSpec.ofChange arenaPagesSpec)) arenaPagesCard

/-- THE SECOND FORM's CARD OF 'besomlaw6.ArenaPlays'. -/
def arenaPlaysUptoCard : Claim7 := { stood := { row := arenaPlaysUptoRow, standIns := [], harness := (true, "99fdab67eff6a6813f1202ddee0354c9f268f4bff7cd70a5542645a444f546cc"), looks := false }, kinds := [], alts := [], laidByText := true, laidKinds := [.data], laidTests := true, laidLooks := .later }
def ArenaPlaysUptoCardSaid : Prop := Claim7.holds Tryd.pinned (.plain (OpenSpec.upto arenaPlaysSpec)) arenaPlaysUptoCard

/-- THE SECOND FORM's CARD OF 'besomlaw6.ArenaInside'. -/
def arenaInsideUptoCard : Claim7 := { stood := { row := arenaInsideUptoRow, standIns := [], harness := (true, "99fdab67eff6a6813f1202ddee0354c9f268f4bff7cd70a5542645a444f546cc"), looks := false }, kinds := [], alts := [], laidByText := true, laidKinds := [.data], laidTests := true, laidLooks := .later }
def ArenaInsideUptoCardSaid : Prop := Claim7.holds Tryd.pinned (.plain (OpenSpec.upto arenaInsideSpec)) arenaInsideUptoCard

/-- THE SECOND FORM's CARD OF 'besomlaw6.ArenaPages'. -/
def arenaPagesUptoCard : Claim7 := { stood := { row := arenaPagesUptoRow, standIns := [], harness := (true, "99fdab67eff6a6813f1202ddee0354c9f268f4bff7cd70a5542645a444f546cc"), looks := false }, kinds := [], alts := [], laidByText := true, laidKinds := [.data], laidTests := true, laidLooks := .later }
def ArenaPagesUptoCardSaid : Prop := Claim7.holds Tryd.pinned (.plain (OpenSpec.upto arenaPagesSpec)) arenaPagesUptoCard
end Rows
end Go.Proofs.YtjpeppflldmffaaDoor

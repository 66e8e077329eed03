/-
  DERIVED. GIVEN WITH THE SEED: THE CARDS: each row of YtnjfahgmebmakaaGreatDoorRows.lean that lists a variable, with what it lists TIED to the program's text (the seventh form; the later family's looks); each row that meets fmt, with fmt's text TOLD by the authors' own Lean function (tested against real Go, not proved from fmt's source: count such statements apart). THE CARD IS WHAT COUNTS. Prove the row's statement (the work); the ties are given (YtnjfahgmebmakaaGreatDoorTie.lean); close each card by the builder's one call (the guide's Derived/Test/ToyasCard.lean, 'card_holds'). Laid BY PROGRAM, IN A SANDBOX (cutbox-door.mjs). By AI agents, Wed Nov 11 2026. No macro, syntax, notation, axiom, sorry.
-/
import Derived.Test.YtnjfahgmebmakaaGreatDoorRows
import GoSem.ClaimSeven
namespace Go.Proofs.YtnjfahgmebmakaaGreatDoor
namespace Rows

/-- THE TIED CARD OF 'tidemarklaw18.PlainSerial'. -/
def plainSerialCard : Claim7 := { stood := { row := plainSerialRow, standIns := [], harness := (true, "4a06385e819bd3df391c40228557b8f08793873c2eed22f375b1b5c5261d9024"), looks := true }, kinds := [], alts := [], laidByText := true, laidKinds := [.handle], laidTests := true, laidLooks := .later }
def PlainSerialCardSaid : Prop := Claim7.holds Tryz.pinned (.plain (OpenSpec.ofChange plainSerialSpec)) plainSerialCard

/-- THE TIED CARD OF 'tidemarklaw18.PlainKeeps'. -/
def plainKeepsCard : Claim7 := { stood := { row := plainKeepsRow, standIns := [], harness := (true, "4a06385e819bd3df391c40228557b8f08793873c2eed22f375b1b5c5261d9024"), looks := true }, kinds := [], alts := [], laidByText := true, laidKinds := [.handle], laidTests := true, laidLooks := .later }
def PlainKeepsCardSaid : Prop := Claim7.holds Tryz.pinned (.plain (OpenSpec.ofChange plainKeepsSpec)) plainKeepsCard

/-- THE TIED CARD OF 'tidemarklaw18.PlainApart'. -/
def plainApartCard : Claim7 := { stood := { row := plainApartRow, standIns := [], harness := (true, "4a06385e819bd3df391c40228557b8f08793873c2eed22f375b1b5c5261d9024"), looks := true }, kinds := [], alts := [], laidByText := true, laidKinds := [.handle], laidTests := true, laidLooks := .later }
def PlainApartCardSaid : Prop := Claim7.holds Tryz.pinned (.plain (OpenSpec.ofChange plainApartSpec)) plainApartCard

/-- THE TIED CARD OF 'tidemarklaw18.PlainScripts'. -/
def plainScriptsCard : Claim7 := { stood := { row := plainScriptsRow, standIns := [], harness := (true, "4a06385e819bd3df391c40228557b8f08793873c2eed22f375b1b5c5261d9024"), looks := true }, kinds := [], alts := [], laidByText := true, laidKinds := [.handle], laidTests := true, laidLooks := .later }
def PlainScriptsCardSaid : Prop := Claim7.holds Tryz.pinned (.plain (OpenSpec.ofChange plainScriptsSpec)) plainScriptsCard

/-- THE SECOND FORM's CARD OF 'tidemarklaw18.PlainSerial'. -/
def plainSerialUptoCard : Claim7 := { stood := { row := plainSerialUptoRow, standIns := [], harness := (true, "4a06385e819bd3df391c40228557b8f08793873c2eed22f375b1b5c5261d9024"), looks := true }, kinds := [], alts := [], laidByText := true, laidKinds := [.handle], laidTests := true, laidLooks := .later }
def PlainSerialUptoCardSaid : Prop := Claim7.holds Tryz.pinned (.plain (OpenSpec.upto plainSerialSpec)) plainSerialUptoCard

/-- THE SECOND FORM's CARD OF 'tidemarklaw18.PlainKeeps'. -/
def plainKeepsUptoCard : Claim7 := { stood := { row := plainKeepsUptoRow, standIns := [], harness := (true, "4a06385e819bd3df391c40228557b8f08793873c2eed22f375b1b5c5261d9024"), looks := true }, kinds := [], alts := [], laidByText := true, laidKinds := [.handle], laidTests := true, laidLooks := .later }
def PlainKeepsUptoCardSaid : Prop := Claim7.holds Tryz.pinned (.plain (OpenSpec.upto plainKeepsSpec)) plainKeepsUptoCard

/-- THE SECOND FORM's CARD OF 'tidemarklaw18.PlainApart'. -/
def plainApartUptoCard : Claim7 := { stood := { row := plainApartUptoRow, standIns := [], harness := (true, "4a06385e819bd3df391c40228557b8f08793873c2eed22f375b1b5c5261d9024"), looks := true }, kinds := [], alts := [], laidByText := true, laidKinds := [.handle], laidTests := true, laidLooks := .later }
def PlainApartUptoCardSaid : Prop := Claim7.holds Tryz.pinned (.plain (OpenSpec.upto plainApartSpec)) plainApartUptoCard

/-- THE SECOND FORM's CARD OF 'tidemarklaw18.PlainScripts'. -/
def plainScriptsUptoCard : Claim7 := { stood := { row := plainScriptsUptoRow, standIns := [], harness := (true, "4a06385e819bd3df391c40228557b8f08793873c2eed22f375b1b5c5261d9024"), looks := true }, kinds := [], alts := [], laidByText := true, laidKinds := [.handle], laidTests := true, laidLooks := .later }
def PlainScriptsUptoCardSaid : Prop := Claim7.holds Tryz.pinned (.plain (OpenSpec.upto plainScriptsSpec)) plainScriptsUptoCard
end Rows
end Go.Proofs.YtnjfahgmebmakaaGreatDoor

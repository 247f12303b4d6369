/-
  DERIVED. GIVEN WITH THE SEED: THE CARDS: each row of YtegjlcmeaelbnaaDoorRows.lean that lists a variable, with what it lists TIED to the program's text (the seventh form; the later family's looks); each row that meets fmt, with fmt's text TOLD by the authors' own Lean function (tested against real Go, not proved from fmt's source: count such statements apart). THE CARD IS WHAT COUNTS. Prove the row's statement (the work); the ties are given (YtegjlcmeaelbnaaDoorTie.lean); close each card by the builder's one call (the guide's Derived/Test/ToyasCard.lean, 'card_holds'). Laid BY PROGRAM, IN A SANDBOX (cutbox-door.mjs). By AI agents, Wed Nov 11 2026. No macro, syntax, notation, axiom, sorry.
-/
import Derived.Test.YtegjlcmeaelbnaaDoorRows
import GoSem.ClaimSeven
namespace Go.Proofs.YtegjlcmeaelbnaaDoor
namespace Rows

/-- THE TIED CARD OF 'agiolaw05.CmdCodes'. -/
def cmdCodesCard : Claim7 := { stood := { row := cmdCodesRow, standIns := [], harness := (true, "4f7df078765d9acf294383f19241d74b1a4c3af3d6964666a4e52b92c2c56200"), looks := true }, kinds := [], alts := [], laidByText := true, laidKinds := [.handle], laidTests := true, laidLooks := .later }
def CmdCodesCardSaid : Prop := Claim7.holds Tryd.pinned (.plain (OpenSpec.ofChange cmdCodesSpec)) cmdCodesCard

/-- THE TIED CARD OF 'agiolaw05.CmdBack'. -/
def cmdBackCard : Claim7 := { stood := { row := cmdBackRow, standIns := [], harness := (true, "4f7df078765d9acf294383f19241d74b1a4c3af3d6964666a4e52b92c2c56200"), looks := true }, kinds := [], alts := [], laidByText := true, laidKinds := [.handle], laidTests := true, laidLooks := .later }
def CmdBackCardSaid : Prop := Claim7.holds Tryd.pinned (.plain (OpenSpec.ofChange cmdBackSpec)) cmdBackCard

/-- THE TIED CARD OF 'agiolaw05.CmdOnce'. -/
def cmdOnceCard : Claim7 := { stood := { row := cmdOnceRow, standIns := [], harness := (true, "4f7df078765d9acf294383f19241d74b1a4c3af3d6964666a4e52b92c2c56200"), looks := true }, kinds := [], alts := [], laidByText := true, laidKinds := [.handle], laidTests := true, laidLooks := .later }
def CmdOnceCardSaid : Prop := Claim7.holds Tryd.pinned (.plain (OpenSpec.ofChange cmdOnceSpec)) cmdOnceCard

/-- THE TIED CARD OF 'agiolaw05.CmdCuts'. -/
def cmdCutsCard : Claim7 := { stood := { row := cmdCutsRow, standIns := [], harness := (true, "4f7df078765d9acf294383f19241d74b1a4c3af3d6964666a4e52b92c2c56200"), looks := true }, kinds := [], alts := [], laidByText := true, laidKinds := [.handle], laidTests := true, laidLooks := .later }
def CmdCutsCardSaid : Prop := Claim7.holds Tryd.pinned (.plain (OpenSpec.ofChange cmdCutsSpec)) cmdCutsCard

/-- THE TIED CARD OF 'agiolaw05.CmdFields'. -/
def cmdFieldsCard : Claim7 := { stood := { row := cmdFieldsRow, standIns := [], harness := (true, "4f7df078765d9acf294383f19241d74b1a4c3af3d6964666a4e52b92c2c56200"), looks := true }, kinds := [], alts := [], laidByText := true, laidKinds := [.handle], laidTests := true, laidLooks := .later }
def CmdFieldsCardSaid : Prop := Claim7.holds Tryd.pinned (.plain (OpenSpec.ofChange cmdFieldsSpec)) cmdFieldsCard

/-- THE TIED CARD OF 'agiolaw05.CmdKinds'. -/
def cmdKindsCard : Claim7 := { stood := { row := cmdKindsRow, standIns := [], harness := (true, "4f7df078765d9acf294383f19241d74b1a4c3af3d6964666a4e52b92c2c56200"), looks := true }, kinds := [], alts := [], laidByText := true, laidKinds := [.handle], laidTests := true, laidLooks := .later }
def CmdKindsCardSaid : Prop := Claim7.holds Tryd.pinned (.plain (OpenSpec.ofChange cmdKindsSpec)) cmdKindsCard

/-- THE SECOND FORM's CARD OF 'agiolaw05.CmdCodes'. -/
def cmdCodesUptoCard : Claim7 := { stood := { row := cmdCodesUptoRow, standIns := [], harness := (true, "4f7df078765d9acf294383f19241d74b1a4c3af3d6964666a4e52b92c2c56200"), looks := true }, kinds := [], alts := [], laidByText := true, laidKinds := [.handle], laidTests := true, laidLooks := .later }
def CmdCodesUptoCardSaid : Prop := Claim7.holds Tryd.pinned (.plain (OpenSpec.upto cmdCodesSpec)) cmdCodesUptoCard

/-- THE SECOND FORM's CARD OF 'agiolaw05.CmdBack'. -/
def cmdBackUptoCard : Claim7 := { stood := { row := cmdBackUptoRow, standIns := [], harness := (true, "4f7df078765d9acf294383f19241d74b1a4c3af3d6964666a4e52b92c2c56200"), looks := true }, kinds := [], alts := [], laidByText := true, laidKinds := [.handle], laidTests := true, laidLooks := .later }
def CmdBackUptoCardSaid : Prop := Claim7.holds Tryd.pinned (.plain (OpenSpec.upto cmdBackSpec)) cmdBackUptoCard

/-- THE SECOND FORM's CARD OF 'agiolaw05.CmdOnce'. -/
def cmdOnceUptoCard : Claim7 := { stood := { row := cmdOnceUptoRow, standIns := [], harness := (true, "4f7df078765d9acf294383f19241d74b1a4c3af3d6964666a4e52b92c2c56200"), looks := true }, kinds := [], alts := [], laidByText := true, laidKinds := [.handle], laidTests := true, laidLooks := .later }
def CmdOnceUptoCardSaid : Prop := Claim7.holds Tryd.pinned (.plain (OpenSpec.upto cmdOnceSpec)) cmdOnceUptoCard

/-- THE SECOND FORM's CARD OF 'agiolaw05.CmdCuts'. -/
def cmdCutsUptoCard : Claim7 := { stood := { row := cmdCutsUptoRow, standIns := [], harness := (true, "4f7df078765d9acf294383f19241d74b1a4c3af3d6964666a4e52b92c2c56200"), looks := true }, kinds := [], alts := [], laidByText := true, laidKinds := [.handle], laidTests := true, laidLooks := .later }
def CmdCutsUptoCardSaid : Prop := Claim7.holds Tryd.pinned (.plain (OpenSpec.upto cmdCutsSpec)) cmdCutsUptoCard

/-- THE SECOND FORM's CARD OF 'agiolaw05.CmdFields'. -/
def cmdFieldsUptoCard : Claim7 := { stood := { row := cmdFieldsUptoRow, standIns := [], harness := (true, "4f7df078765d9acf294383f19241d74b1a4c3af3d6964666a4e52b92c2c56200"), looks := true }, kinds := [], alts := [], laidByText := true, laidKinds := [.handle], laidTests := true, laidLooks := .later }
def CmdFieldsUptoCardSaid : Prop := Claim7.holds Tryd.pinned (.plain (OpenSpec.upto cmdFieldsSpec)) cmdFieldsUptoCard

/-- THE SECOND FORM's CARD OF 'agiolaw05.CmdKinds'. -/
def cmdKindsUptoCard : Claim7 := { stood := { row := cmdKindsUptoRow, standIns := [], harness := (true, "4f7df078765d9acf294383f19241d74b1a4c3af3d6964666a4e52b92c2c56200"), looks := true }, kinds := [], alts := [], laidByText := true, laidKinds := [.handle], laidTests := true, laidLooks := .later }
def CmdKindsUptoCardSaid : Prop := Claim7.holds Tryd.pinned (.plain (OpenSpec.upto cmdKindsSpec)) cmdKindsUptoCard
end Rows
end Go.Proofs.YtegjlcmeaelbnaaDoor

/-
  DERIVED. GIVEN WITH THE SEED: THE CARDS: each row of YtpbjianhkjjgkaaDoorRows.lean that lists a variable, with what it lists TIED to the program's text (the seventh form; the later family's looks); each row that meets fmt, with fmt's text TOLD by the authors' own Lean function (tested against real Go, not proved from fmt's source: count such statements apart). THE CARD IS WHAT COUNTS. Prove the row's statement (the work); the ties are given (YtpbjianhkjjgkaaDoorTie.lean); close each card by the builder's one call (the guide's Derived/Test/ToyasCard.lean, 'card_holds'). Laid BY PROGRAM, IN A SANDBOX (cutbox-door.mjs). By AI agents, Wed Nov 11 2026. No macro, syntax, notation, axiom, sorry.
-/
import Derived.Test.YtpbjianhkjjgkaaDoorRows
import GoSem.ClaimSeven
namespace Go.Proofs.YtpbjianhkjjgkaaDoor
namespace Rows

/-- THE TIED CARD OF 'countinghouselaw09.TriePlays'. -/
def triePlaysCard : Claim7 := { stood := { row := triePlaysRow, standIns := [], harness := (true, "89d87a26a8d27adcbff32c8e78d9a5cd1d718d2e90de413d7cb53f46b3f67a55"), looks := false }, kinds := [], alts := [], laidByText := true, laidKinds := [.data], laidTests := true, laidLooks := .later }
def TriePlaysCardSaid : Prop := Claim7.holds Tryd.pinned (.plain (OpenSpec.ofChange triePlaysSpec)) triePlaysCard

/-- THE TIED CARD OF 'countinghouselaw09.TrieOne'. -/
def trieOneCard : Claim7 := { stood := { row := trieOneRow, standIns := [], harness := (true, "89d87a26a8d27adcbff32c8e78d9a5cd1d718d2e90de413d7cb53f46b3f67a55"), looks := false }, kinds := [], alts := [], laidByText := true, laidKinds := [.data], laidTests := true, laidLooks := .later }
def TrieOneCardSaid : Prop := Claim7.holds Tryd.pinned (.plain (OpenSpec.ofChange trieOneSpec)) trieOneCard

/-- THE TIED CARD OF 'countinghouselaw09.TrieKeeps'. -/
def trieKeepsCard : Claim7 := { stood := { row := trieKeepsRow, standIns := [], harness := (true, "89d87a26a8d27adcbff32c8e78d9a5cd1d718d2e90de413d7cb53f46b3f67a55"), looks := false }, kinds := [], alts := [], laidByText := true, laidKinds := [.data], laidTests := true, laidLooks := .later }
def TrieKeepsCardSaid : Prop := Claim7.holds Tryd.pinned (.plain (OpenSpec.ofChange trieKeepsSpec)) trieKeepsCard

/-- THE TIED CARD OF 'countinghouselaw09.TrieHalves'. -/
def trieHalvesCard : Claim7 := { stood := { row := trieHalvesRow, standIns := [], harness := (true, "89d87a26a8d27adcbff32c8e78d9a5cd1d718d2e90de413d7cb53f46b3f67a55"), looks := false }, kinds := [], alts := [], laidByText := true, laidKinds := [.data], laidTests := true, laidLooks := .later }
def TrieHalvesCardSaid : Prop := Claim7.holds Tryd.pinned (.plain (OpenSpec.ofChange trieHalvesSpec)) trieHalvesCard

/-- THE TIED CARD OF 'countinghouselaw09.TrieOrder'. -/
def trieOrderCard : Claim7 := { stood := { row := trieOrderRow, standIns := [], harness := (true, "89d87a26a8d27adcbff32c8e78d9a5cd1d718d2e90de413d7cb53f46b3f67a55"), looks := false }, kinds := [], alts := [], laidByText := true, laidKinds := [.data], laidTests := true, laidLooks := .later }
def TrieOrderCardSaid : Prop := Claim7.holds Tryd.pinned (.plain (OpenSpec.ofChange trieOrderSpec)) trieOrderCard

/-- THE TIED CARD OF 'countinghouselaw10.ProofBuilds'. -/
def proofBuildsCard : Claim7 := { stood := { row := proofBuildsRow, standIns := [], harness := (true, "89d87a26a8d27adcbff32c8e78d9a5cd1d718d2e90de413d7cb53f46b3f67a55"), looks := false }, kinds := [], alts := [], laidByText := true, laidKinds := [.data], laidTests := true, laidLooks := .later }
def ProofBuildsCardSaid : Prop := Claim7.holds Tryd.pinned (.plain (OpenSpec.ofChange proofBuildsSpec)) proofBuildsCard

/-- THE TIED CARD OF 'countinghouselaw10.ProofSame'. -/
def proofSameCard : Claim7 := { stood := { row := proofSameRow, standIns := [], harness := (true, "89d87a26a8d27adcbff32c8e78d9a5cd1d718d2e90de413d7cb53f46b3f67a55"), looks := false }, kinds := [], alts := [], laidByText := true, laidKinds := [.data], laidTests := true, laidLooks := .later }
def ProofSameCardSaid : Prop := Claim7.holds Tryd.pinned (.plain (OpenSpec.ofChange proofSameSpec)) proofSameCard

/-- THE TIED CARD OF 'countinghouselaw10.ProofDeep'. -/
def proofDeepCard : Claim7 := { stood := { row := proofDeepRow, standIns := [], harness := (true, "89d87a26a8d27adcbff32c8e78d9a5cd1d718d2e90de413d7cb53f46b3f67a55"), looks := false }, kinds := [], alts := [], laidByText := true, laidKinds := [.data], laidTests := true, laidLooks := .later }
def ProofDeepCardSaid : Prop := Claim7.holds Tryd.pinned (.plain (OpenSpec.ofChange proofDeepSpec)) proofDeepCard

/-- THE TIED CARD OF 'countinghouselaw11.VerifyShows'. -/
def verifyShowsCard : Claim7 := { stood := { row := verifyShowsRow, standIns := [], harness := (true, "89d87a26a8d27adcbff32c8e78d9a5cd1d718d2e90de413d7cb53f46b3f67a55"), looks := false }, kinds := [], alts := [], laidByText := true, laidKinds := [.data], laidTests := true, laidLooks := .later }
def VerifyShowsCardSaid : Prop := Claim7.holds Tryd.pinned (.plain (OpenSpec.ofChange verifyShowsSpec)) verifyShowsCard

/-- THE TIED CARD OF 'countinghouselaw11.VerifyAny'. -/
def verifyAnyCard : Claim7 := { stood := { row := verifyAnyRow, standIns := [], harness := (true, "89d87a26a8d27adcbff32c8e78d9a5cd1d718d2e90de413d7cb53f46b3f67a55"), looks := false }, kinds := [], alts := [], laidByText := true, laidKinds := [.data], laidTests := true, laidLooks := .later }
def VerifyAnyCardSaid : Prop := Claim7.holds Tryd.pinned (.plain (OpenSpec.ofChange verifyAnySpec)) verifyAnyCard

/-- THE TIED CARD OF 'countinghouselaw11.VerifyTurned'. -/
def verifyTurnedCard : Claim7 := { stood := { row := verifyTurnedRow, standIns := [], harness := (true, "89d87a26a8d27adcbff32c8e78d9a5cd1d718d2e90de413d7cb53f46b3f67a55"), looks := false }, kinds := [], alts := [], laidByText := true, laidKinds := [.data], laidTests := true, laidLooks := .later }
def VerifyTurnedCardSaid : Prop := Claim7.holds Tryd.pinned (.plain (OpenSpec.ofChange verifyTurnedSpec)) verifyTurnedCard

/-- THE TIED CARD OF 'countinghouselaw11.VerifyOther'. -/
def verifyOtherCard : Claim7 := { stood := { row := verifyOtherRow, standIns := [], harness := (true, "89d87a26a8d27adcbff32c8e78d9a5cd1d718d2e90de413d7cb53f46b3f67a55"), looks := false }, kinds := [], alts := [], laidByText := true, laidKinds := [.data], laidTests := true, laidLooks := .later }
def VerifyOtherCardSaid : Prop := Claim7.holds Tryd.pinned (.plain (OpenSpec.ofChange verifyOtherSpec)) verifyOtherCard

/-- THE TIED CARD OF 'countinghouselaw11.VerifyClash'. -/
def verifyClashCard : Claim7 := { stood := { row := verifyClashRow, standIns := [], harness := (true, "89d87a26a8d27adcbff32c8e78d9a5cd1d718d2e90de413d7cb53f46b3f67a55"), looks := false }, kinds := [], alts := [], laidByText := true, laidKinds := [.data], laidTests := true, laidLooks := .later }
def VerifyClashCardSaid : Prop := Claim7.holds Tryd.pinned (.plain (OpenSpec.ofChange verifyClashSpec)) verifyClashCard

/-- THE TIED CARD OF 'countinghouselaw11.VerifySteps'. -/
def verifyStepsCard : Claim7 := { stood := { row := verifyStepsRow, standIns := [], harness := (true, "89d87a26a8d27adcbff32c8e78d9a5cd1d718d2e90de413d7cb53f46b3f67a55"), looks := false }, kinds := [], alts := [], laidByText := true, laidKinds := [.data], laidTests := true, laidLooks := .later }
def VerifyStepsCardSaid : Prop := Claim7.holds Tryd.pinned (.plain (OpenSpec.ofChange verifyStepsSpec)) verifyStepsCard

/-- THE SECOND FORM's CARD OF 'countinghouselaw09.TriePlays'. -/
def triePlaysUptoCard : Claim7 := { stood := { row := triePlaysUptoRow, standIns := [], harness := (true, "89d87a26a8d27adcbff32c8e78d9a5cd1d718d2e90de413d7cb53f46b3f67a55"), looks := false }, kinds := [], alts := [], laidByText := true, laidKinds := [.data], laidTests := true, laidLooks := .later }
def TriePlaysUptoCardSaid : Prop := Claim7.holds Tryd.pinned (.plain (OpenSpec.upto triePlaysSpec)) triePlaysUptoCard

/-- THE SECOND FORM's CARD OF 'countinghouselaw09.TrieOne'. -/
def trieOneUptoCard : Claim7 := { stood := { row := trieOneUptoRow, standIns := [], harness := (true, "89d87a26a8d27adcbff32c8e78d9a5cd1d718d2e90de413d7cb53f46b3f67a55"), looks := false }, kinds := [], alts := [], laidByText := true, laidKinds := [.data], laidTests := true, laidLooks := .later }
def TrieOneUptoCardSaid : Prop := Claim7.holds Tryd.pinned (.plain (OpenSpec.upto trieOneSpec)) trieOneUptoCard

/-- THE SECOND FORM's CARD OF 'countinghouselaw09.TrieKeeps'. -/
def trieKeepsUptoCard : Claim7 := { stood := { row := trieKeepsUptoRow, standIns := [], harness := (true, "89d87a26a8d27adcbff32c8e78d9a5cd1d718d2e90de413d7cb53f46b3f67a55"), looks := false }, kinds := [], alts := [], laidByText := true, laidKinds := [.data], laidTests := true, laidLooks := .later }
def TrieKeepsUptoCardSaid : Prop := Claim7.holds Tryd.pinned (.plain (OpenSpec.upto trieKeepsSpec)) trieKeepsUptoCard

/-- THE SECOND FORM's CARD OF 'countinghouselaw09.TrieHalves'. -/
def trieHalvesUptoCard : Claim7 := { stood := { row := trieHalvesUptoRow, standIns := [], harness := (true, "89d87a26a8d27adcbff32c8e78d9a5cd1d718d2e90de413d7cb53f46b3f67a55"), looks := false }, kinds := [], alts := [], laidByText := true, laidKinds := [.data], laidTests := true, laidLooks := .later }
def TrieHalvesUptoCardSaid : Prop := Claim7.holds Tryd.pinned (.plain (OpenSpec.upto trieHalvesSpec)) trieHalvesUptoCard

/-- THE SECOND FORM's CARD OF 'countinghouselaw09.TrieOrder'. -/
def trieOrderUptoCard : Claim7 := { stood := { row := trieOrderUptoRow, standIns := [], harness := (true, "89d87a26a8d27adcbff32c8e78d9a5cd1d718d2e90de413d7cb53f46b3f67a55"), looks := false }, kinds := [], alts := [], laidByText := true, laidKinds := [.data], laidTests := true, laidLooks := .later }
def TrieOrderUptoCardSaid : Prop := Claim7.holds Tryd.pinned (.plain (OpenSpec.upto trieOrderSpec)) trieOrderUptoCard

/-- THE SECOND FORM's CARD OF 'countinghouselaw10.ProofBuilds'. -/
def proofBuildsUptoCard : Claim7 := { stood := { row := proofBuildsUptoRow, standIns := [], harness := (true, "89d87a26a8d27adcbff32c8e78d9a5cd1d718d2e90de413d7cb53f46b3f67a55"), looks := false }, kinds := [], alts := [], laidByText := true, laidKinds := [.data], laidTests := true, laidLooks := .later }
def ProofBuildsUptoCardSaid : Prop := Claim7.holds Tryd.pinned (.plain (OpenSpec.upto proofBuildsSpec)) proofBuildsUptoCard

/-- THE SECOND FORM's CARD OF 'countinghouselaw10.ProofSame'. -/
def proofSameUptoCard : Claim7 := { stood := { row := proofSameUptoRow, standIns := [], harness := (true, "89d87a26a8d27adcbff32c8e78d9a5cd1d718d2e90de413d7cb53f46b3f67a55"), looks := false }, kinds := [], alts := [], laidByText := true, laidKinds := [.data], laidTests := true, laidLooks := .later }
def ProofSameUptoCardSaid : Prop := Claim7.holds Tryd.pinned (.plain (OpenSpec.upto proofSameSpec)) proofSameUptoCard

/-- THE SECOND FORM's CARD OF 'countinghouselaw10.ProofDeep'. -/
def proofDeepUptoCard : Claim7 := { stood := { row := proofDeepUptoRow, standIns := [], harness := (true, "89d87a26a8d27adcbff32c8e78d9a5cd1d718d2e90de413d7cb53f46b3f67a55"), looks := false }, kinds := [], alts := [], laidByText := true, laidKinds := [.data], laidTests := true, laidLooks := .later }
def ProofDeepUptoCardSaid : Prop := Claim7.holds Tryd.pinned (.plain (OpenSpec.upto proofDeepSpec)) proofDeepUptoCard

/-- THE SECOND FORM's CARD OF 'countinghouselaw11.VerifyShows'. -/
def verifyShowsUptoCard : Claim7 := { stood := { row := verifyShowsUptoRow, standIns := [], harness := (true, "89d87a26a8d27adcbff32c8e78d9a5cd1d718d2e90de413d7cb53f46b3f67a55"), looks := false }, kinds := [], alts := [], laidByText := true, laidKinds := [.data], laidTests := true, laidLooks := .later }
def VerifyShowsUptoCardSaid : Prop := Claim7.holds Tryd.pinned (.plain (OpenSpec.upto verifyShowsSpec)) verifyShowsUptoCard

/-- THE SECOND FORM's CARD OF 'countinghouselaw11.VerifyAny'. -/
def verifyAnyUptoCard : Claim7 := { stood := { row := verifyAnyUptoRow, standIns := [], harness := (true, "89d87a26a8d27adcbff32c8e78d9a5cd1d718d2e90de413d7cb53f46b3f67a55"), looks := false }, kinds := [], alts := [], laidByText := true, laidKinds := [.data], laidTests := true, laidLooks := .later }
def VerifyAnyUptoCardSaid : Prop := Claim7.holds Tryd.pinned (.plain (OpenSpec.upto verifyAnySpec)) verifyAnyUptoCard

/-- THE SECOND FORM's CARD OF 'countinghouselaw11.VerifyTurned'. -/
def verifyTurnedUptoCard : Claim7 := { stood := { row := verifyTurnedUptoRow, standIns := [], harness := (true, "89d87a26a8d27adcbff32c8e78d9a5cd1d718d2e90de413d7cb53f46b3f67a55"), looks := false }, kinds := [], alts := [], laidByText := true, laidKinds := [.data], laidTests := true, laidLooks := .later }
def VerifyTurnedUptoCardSaid : Prop := Claim7.holds Tryd.pinned (.plain (OpenSpec.upto verifyTurnedSpec)) verifyTurnedUptoCard

/-- THE SECOND FORM's CARD OF 'countinghouselaw11.VerifyOther'. -/
def verifyOtherUptoCard : Claim7 := { stood := { row := verifyOtherUptoRow, standIns := [], harness := (true, "89d87a26a8d27adcbff32c8e78d9a5cd1d718d2e90de413d7cb53f46b3f67a55"), looks := false }, kinds := [], alts := [], laidByText := true, laidKinds := [.data], laidTests := true, laidLooks := .later }
def VerifyOtherUptoCardSaid : Prop := Claim7.holds Tryd.pinned (.plain (OpenSpec.upto verifyOtherSpec)) verifyOtherUptoCard

/-- THE SECOND FORM's CARD OF 'countinghouselaw11.VerifyClash'. -/
def verifyClashUptoCard : Claim7 := { stood := { row := verifyClashUptoRow, standIns := [], harness := (true, "89d87a26a8d27adcbff32c8e78d9a5cd1d718d2e90de413d7cb53f46b3f67a55"), looks := false }, kinds := [], alts := [], laidByText := true, laidKinds := [.data], laidTests := true, laidLooks := .later }
def VerifyClashUptoCardSaid : Prop := Claim7.holds Tryd.pinned (.plain (OpenSpec.upto verifyClashSpec)) verifyClashUptoCard

/-- THE SECOND FORM's CARD OF 'countinghouselaw11.VerifySteps'. -/
def verifyStepsUptoCard : Claim7 := { stood := { row := verifyStepsUptoRow, standIns := [], harness := (true, "89d87a26a8d27adcbff32c8e78d9a5cd1d718d2e90de413d7cb53f46b3f67a55"), looks := false }, kinds := [], alts := [], laidByText := true, laidKinds := [.data], laidTests := true, laidLooks := .later }
def VerifyStepsUptoCardSaid : Prop := Claim7.holds Tryd.pinned (.plain (OpenSpec.upto verifyStepsSpec)) verifyStepsUptoCard
end Rows
end Go.Proofs.YtpbjianhkjjgkaaDoor

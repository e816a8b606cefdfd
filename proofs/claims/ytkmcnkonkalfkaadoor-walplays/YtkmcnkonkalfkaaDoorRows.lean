/-
  NARROWER THAN 'FOR EVERY INPUT', by the rows' own cells (each row's printed sentence says how): WalFrames: laid · WalScans: laid · WalTorn: laid · WalPlays: laid · WalKeeps: laid · WalOpens: laid · WalNil: laid.
  DERIVED. THE GIVEN ROWS OF THIS SEAT. 7 by the template 'for every input the law returns true; each argument reads behind the call as it read before'; 0 by the template 'total and deterministic' (their statements: YtkmcnkonkalfkaaDoorTotals.lean).
  GIVEN WITH THE SEED: the statements are not yours to turn. If you find one false, say at which input.
  Laid BY PROGRAM, IN A SANDBOX (cutbox-rows.mjs): the forced cells as the released guide's own fill.sh prints them over the translation 171587b64a245fa8… (all of the seat's roots in one cut). By AI agents, Wed Nov 11 2026. No macro, syntax, notation, axiom, sorry.
-/
import Derived.Test.YtkmcnkonkalfkaaDoorChecked
import GoSem.Claim
import GoSem.ClaimJoined
import GoSem.ClaimMapViews
import Derived.JoinedTies
import Derived.KernelRfl
namespace Go.Proofs.YtkmcnkonkalfkaaDoor
/- THE CELL 'sum', in the pinned program and in every row, IS THE sha256 OF THE DUMP (.gsa) THAT YtkmcnkonkalfkaaDoorProg.lean LOADS. Nothing in Lean hashes anything: it is a label: what it is worth is what the hold of that sum in a sandbox is worth. -/
noncomputable def Tryd.pinned : Pinned := { name := "ytkmcnkonkalfkaadoor", sum := "171587b64a245fa84d1f0afc38f700bab62952669b24ca5d16c28395a4c1ff00", checked := Tryd.checked }
namespace Rows
def none {H : Type} : Left H := { results := [], args := [] }

/- WHAT THE LISTED PACKAGE-LEVEL VARIABLES READ AS WHEN THE CALL BEGINS. Each datum BY PROGRAM (the guide's laid-datum.mjs) off the statement by which the dump's own 'gosem.cut.vars' lays the variable. In a bare row this is a premise. The card (YtkmcnkonkalfkaaDoorCards.lean) ties it to the program's text. -/
def laid_countinghouse_sha_roundNumbers {H : Type} : DataW H := .agg [.lit (.int .u32 1116352408), .lit (.int .u32 1899447441), .lit (.int .u32 3049323471), .lit (.int .u32 3921009573), .lit (.int .u32 961987163), .lit (.int .u32 1508970993), .lit (.int .u32 2453635748), .lit (.int .u32 2870763221), .lit (.int .u32 3624381080), .lit (.int .u32 310598401), .lit (.int .u32 607225278), .lit (.int .u32 1426881987), .lit (.int .u32 1925078388), .lit (.int .u32 2162078206), .lit (.int .u32 2614888103), .lit (.int .u32 3248222580), .lit (.int .u32 3835390401), .lit (.int .u32 4022224774), .lit (.int .u32 264347078), .lit (.int .u32 604807628), .lit (.int .u32 770255983), .lit (.int .u32 1249150122), .lit (.int .u32 1555081692), .lit (.int .u32 1996064986), .lit (.int .u32 2554220882), .lit (.int .u32 2821834349), .lit (.int .u32 2952996808), .lit (.int .u32 3210313671), .lit (.int .u32 3336571891), .lit (.int .u32 3584528711), .lit (.int .u32 113926993), .lit (.int .u32 338241895), .lit (.int .u32 666307205), .lit (.int .u32 773529912), .lit (.int .u32 1294757372), .lit (.int .u32 1396182291), .lit (.int .u32 1695183700), .lit (.int .u32 1986661051), .lit (.int .u32 2177026350), .lit (.int .u32 2456956037), .lit (.int .u32 2730485921), .lit (.int .u32 2820302411), .lit (.int .u32 3259730800), .lit (.int .u32 3345764771), .lit (.int .u32 3516065817), .lit (.int .u32 3600352804), .lit (.int .u32 4094571909), .lit (.int .u32 275423344), .lit (.int .u32 430227734), .lit (.int .u32 506948616), .lit (.int .u32 659060556), .lit (.int .u32 883997877), .lit (.int .u32 958139571), .lit (.int .u32 1322822218), .lit (.int .u32 1537002063), .lit (.int .u32 1747873779), .lit (.int .u32 1955562222), .lit (.int .u32 2024104815), .lit (.int .u32 2227730452), .lit (.int .u32 2361852424), .lit (.int .u32 2428436474), .lit (.int .u32 2756734187), .lit (.int .u32 3204031479), .lit (.int .u32 3329325298)]

/-- 'countinghouselaw08.WalFrames': WHATEVER THE INPUT: true; the input reads as it did. -/
def walFramesSpec : ChangeSpec := { name := "walFrames", fn := fun _ => fun
  | [d1, d2] => { results := [.lit (.bool true)], args := [d1, d2] }
  | _ => none }
def walFramesRow : OpenClaim := { program := "ytkmcnkonkalfkaadoor", sum := "171587b64a245fa84d1f0afc38f700bab62952669b24ca5d16c28395a4c1ff00", func := "countinghouse/countinghouselaw08.WalFrames", spec := "walFrames", named := ["countinghouse/sha.roundNumbers"], apart := false, laid := [("countinghouse/sha.roundNumbers", laid_countinghouse_sha_roundNumbers)] }
def WalFramesSaid : Prop := walFramesRow.holds Tryd.pinned (OpenSpec.ofChange walFramesSpec)

/-- ITS FALSE NEIGHBOUR: 'it returns false'. Refute it at one input. -/
def walFramesWrong : ChangeSpec := { name := "walFrames", fn := fun _ => fun
  | [d1, d2] => { results := [.lit (.bool false)], args := [d1, d2] }
  | _ => none }
def WalFramesWrongFalsely : Prop := walFramesRow.holds Tryd.pinned (OpenSpec.ofChange walFramesWrong)

/-- 'countinghouselaw08.WalScans': WHATEVER THE INPUT: true; the input reads as it did. -/
def walScansSpec : ChangeSpec := { name := "walScans", fn := fun _ => fun
  | [d1, d2] => { results := [.lit (.bool true)], args := [d1, d2] }
  | _ => none }
def walScansRow : OpenClaim := { program := "ytkmcnkonkalfkaadoor", sum := "171587b64a245fa84d1f0afc38f700bab62952669b24ca5d16c28395a4c1ff00", func := "countinghouse/countinghouselaw08.WalScans", spec := "walScans", named := ["countinghouse/sha.roundNumbers"], apart := false, laid := [("countinghouse/sha.roundNumbers", laid_countinghouse_sha_roundNumbers)] }
def WalScansSaid : Prop := walScansRow.holds Tryd.pinned (OpenSpec.ofChange walScansSpec)

/-- ITS FALSE NEIGHBOUR: 'it returns false'. Refute it at one input. -/
def walScansWrong : ChangeSpec := { name := "walScans", fn := fun _ => fun
  | [d1, d2] => { results := [.lit (.bool false)], args := [d1, d2] }
  | _ => none }
def WalScansWrongFalsely : Prop := walScansRow.holds Tryd.pinned (OpenSpec.ofChange walScansWrong)

/-- 'countinghouselaw08.WalTorn': WHATEVER THE INPUT: true; the input reads as it did. -/
def walTornSpec : ChangeSpec := { name := "walTorn", fn := fun _ => fun
  | [d1, d2, d3] => { results := [.lit (.bool true)], args := [d1, d2, d3] }
  | _ => none }
def walTornRow : OpenClaim := { program := "ytkmcnkonkalfkaadoor", sum := "171587b64a245fa84d1f0afc38f700bab62952669b24ca5d16c28395a4c1ff00", func := "countinghouse/countinghouselaw08.WalTorn", spec := "walTorn", named := ["countinghouse/sha.roundNumbers"], apart := false, laid := [("countinghouse/sha.roundNumbers", laid_countinghouse_sha_roundNumbers)] }
def WalTornSaid : Prop := walTornRow.holds Tryd.pinned (OpenSpec.ofChange walTornSpec)

/-- ITS FALSE NEIGHBOUR: 'it returns false'. Refute it at one input. -/
def walTornWrong : ChangeSpec := { name := "walTorn", fn := fun _ => fun
  | [d1, d2, d3] => { results := [.lit (.bool false)], args := [d1, d2, d3] }
  | _ => none }
def WalTornWrongFalsely : Prop := walTornRow.holds Tryd.pinned (OpenSpec.ofChange walTornWrong)

/-- 'countinghouselaw08.WalPlays': WHATEVER THE INPUT: true; the input reads as it did. -/
def walPlaysSpec : ChangeSpec := { name := "walPlays", fn := fun _ => fun
  | [d] => { results := [.lit (.bool true)], args := [d] }
  | _ => none }
def walPlaysRow : OpenClaim := { program := "ytkmcnkonkalfkaadoor", sum := "171587b64a245fa84d1f0afc38f700bab62952669b24ca5d16c28395a4c1ff00", func := "countinghouse/countinghouselaw08.WalPlays", spec := "walPlays", named := ["countinghouse/sha.roundNumbers"], apart := false, laid := [("countinghouse/sha.roundNumbers", laid_countinghouse_sha_roundNumbers)] }
def WalPlaysSaid : Prop := walPlaysRow.holds Tryd.pinned (OpenSpec.ofChange walPlaysSpec)

/-- ITS FALSE NEIGHBOUR: 'it returns false'. Refute it at one input. -/
def walPlaysWrong : ChangeSpec := { name := "walPlays", fn := fun _ => fun
  | [d] => { results := [.lit (.bool false)], args := [d] }
  | _ => none }
def WalPlaysWrongFalsely : Prop := walPlaysRow.holds Tryd.pinned (OpenSpec.ofChange walPlaysWrong)

/-- 'countinghouselaw08.WalKeeps': WHATEVER THE INPUT: true; the input reads as it did. -/
def walKeepsSpec : ChangeSpec := { name := "walKeeps", fn := fun _ => fun
  | [d1, d2, d3] => { results := [.lit (.bool true)], args := [d1, d2, d3] }
  | _ => none }
def walKeepsRow : OpenClaim := { program := "ytkmcnkonkalfkaadoor", sum := "171587b64a245fa84d1f0afc38f700bab62952669b24ca5d16c28395a4c1ff00", func := "countinghouse/countinghouselaw08.WalKeeps", spec := "walKeeps", named := ["countinghouse/sha.roundNumbers"], apart := false, laid := [("countinghouse/sha.roundNumbers", laid_countinghouse_sha_roundNumbers)] }
def WalKeepsSaid : Prop := walKeepsRow.holds Tryd.pinned (OpenSpec.ofChange walKeepsSpec)

/-- ITS FALSE NEIGHBOUR: 'it returns false'. Refute it at one input. -/
def walKeepsWrong : ChangeSpec := { name := "walKeeps", fn := fun _ => fun
  | [d1, d2, d3] => { results := [.lit (.bool false)], args := [d1, d2, d3] }
  | _ => none }
def WalKeepsWrongFalsely : Prop := walKeepsRow.holds Tryd.pinned (OpenSpec.ofChange walKeepsWrong)

/-- 'countinghouselaw08.WalOpens': WHATEVER THE INPUT: true; the input reads as it did. -/
def walOpensSpec : ChangeSpec := { name := "walOpens", fn := fun _ => fun
  | [d1, d2, d3] => { results := [.lit (.bool true)], args := [d1, d2, d3] }
  | _ => none }
def walOpensRow : OpenClaim := { program := "ytkmcnkonkalfkaadoor", sum := "171587b64a245fa84d1f0afc38f700bab62952669b24ca5d16c28395a4c1ff00", func := "countinghouse/countinghouselaw08.WalOpens", spec := "walOpens", named := ["countinghouse/sha.roundNumbers"], apart := false, laid := [("countinghouse/sha.roundNumbers", laid_countinghouse_sha_roundNumbers)] }
def WalOpensSaid : Prop := walOpensRow.holds Tryd.pinned (OpenSpec.ofChange walOpensSpec)

/-- ITS FALSE NEIGHBOUR: 'it returns false'. Refute it at one input. -/
def walOpensWrong : ChangeSpec := { name := "walOpens", fn := fun _ => fun
  | [d1, d2, d3] => { results := [.lit (.bool false)], args := [d1, d2, d3] }
  | _ => none }
def WalOpensWrongFalsely : Prop := walOpensRow.holds Tryd.pinned (OpenSpec.ofChange walOpensWrong)

/-- 'countinghouselaw08.WalNil': WHATEVER THE INPUT: true; the input reads as it did. -/
def walNilSpec : ChangeSpec := { name := "walNil", fn := fun _ => fun
  | [d] => { results := [.lit (.bool true)], args := [d] }
  | _ => none }
def walNilRow : OpenClaim := { program := "ytkmcnkonkalfkaadoor", sum := "171587b64a245fa84d1f0afc38f700bab62952669b24ca5d16c28395a4c1ff00", func := "countinghouse/countinghouselaw08.WalNil", spec := "walNil", named := ["countinghouse/sha.roundNumbers"], apart := false, laid := [("countinghouse/sha.roundNumbers", laid_countinghouse_sha_roundNumbers)] }
def WalNilSaid : Prop := walNilRow.holds Tryd.pinned (OpenSpec.ofChange walNilSpec)

/-- ITS FALSE NEIGHBOUR: 'it returns false'. Refute it at one input. -/
def walNilWrong : ChangeSpec := { name := "walNil", fn := fun _ => fun
  | [d] => { results := [.lit (.bool false)], args := [d] }
  | _ => none }
def WalNilWrongFalsely : Prop := walNilRow.holds Tryd.pinned (OpenSpec.ofChange walNilWrong)

/- THE SECOND FORM. 'bulk': how many values and letters a reading holds, each counted each time it is reached (what is shared counts as often as it is met; a slice's spare places count too). A statement '..UptoSaid' is the law's where the arguments, and the package variables that the reading takes, are together of bulk at most 1048576: NARROWER than '..Said'. Prove '..Said' where nothing that the law and all that it calls make is longer than what came in: it says more and counts as full. Else prove '..UptoSaid'. A law counts once. -/
mutual
def uptoBulk {H : Type} : DataW H → Nat
  | .lit (.string bytes) => bytes.length + 1
  | .lit _ => 1
  | .nil => 1
  | .ptr d => uptoBulk d + 1
  | .slice elems spare => uptoBulkAll elems + uptoBulkAll spare + 1
  | .agg parts => uptoBulkAll parts + 1
  | .iface _ d => uptoBulk d + 1
  | .map entries => uptoBulkEntries entries + 1
  | .held _ => 1
def uptoBulkAll {H : Type} : List (DataW H) → Nat
  | [] => 0
  | d :: r => uptoBulk d + uptoBulkAll r
def uptoBulkEntries {H : Type} : List (Lit × DataW H) → Nat
  | [] => 0
  | x :: r => uptoBulkEntry x + uptoBulkEntries r
def uptoBulkEntry {H : Type} : Lit × DataW H → Nat
  | (.string bytes, d) => bytes.length + uptoBulk d + 1
  | (_, d) => uptoBulk d + 1
 end
def uptoSmall : (H : Type) → List (DataW H) → Bool := fun _ ds => decide (uptoBulkAll ds ≤ 1048576)
def OpenSpec.upto (s : _root_.Go.ChangeSpec) : _root_.Go.OpenSpec := { _root_.Go.OpenSpec.ofChange s with cond := some uptoSmall }

/-- 'countinghouselaw08.WalFrames', WHERE WHAT IT READS IS OF BULK AT MOST 1048576: true; the input reads as it did. -/
def walFramesUptoRow : OpenClaim := { program := "ytkmcnkonkalfkaadoor", sum := "171587b64a245fa84d1f0afc38f700bab62952669b24ca5d16c28395a4c1ff00", func := "countinghouse/countinghouselaw08.WalFrames", spec := "walFrames", named := ["countinghouse/sha.roundNumbers"], apart := false, laid := [("countinghouse/sha.roundNumbers", laid_countinghouse_sha_roundNumbers)], narrowed := true }
def WalFramesUptoSaid : Prop := walFramesUptoRow.holds Tryd.pinned (OpenSpec.upto walFramesSpec)

/-- 'countinghouselaw08.WalScans', WHERE WHAT IT READS IS OF BULK AT MOST 1048576: true; the input reads as it did. -/
def walScansUptoRow : OpenClaim := { program := "ytkmcnkonkalfkaadoor", sum := "171587b64a245fa84d1f0afc38f700bab62952669b24ca5d16c28395a4c1ff00", func := "countinghouse/countinghouselaw08.WalScans", spec := "walScans", named := ["countinghouse/sha.roundNumbers"], apart := false, laid := [("countinghouse/sha.roundNumbers", laid_countinghouse_sha_roundNumbers)], narrowed := true }
def WalScansUptoSaid : Prop := walScansUptoRow.holds Tryd.pinned (OpenSpec.upto walScansSpec)

/-- 'countinghouselaw08.WalTorn', WHERE WHAT IT READS IS OF BULK AT MOST 1048576: true; the input reads as it did. -/
def walTornUptoRow : OpenClaim := { program := "ytkmcnkonkalfkaadoor", sum := "171587b64a245fa84d1f0afc38f700bab62952669b24ca5d16c28395a4c1ff00", func := "countinghouse/countinghouselaw08.WalTorn", spec := "walTorn", named := ["countinghouse/sha.roundNumbers"], apart := false, laid := [("countinghouse/sha.roundNumbers", laid_countinghouse_sha_roundNumbers)], narrowed := true }
def WalTornUptoSaid : Prop := walTornUptoRow.holds Tryd.pinned (OpenSpec.upto walTornSpec)

/-- 'countinghouselaw08.WalPlays', WHERE WHAT IT READS IS OF BULK AT MOST 1048576: true; the input reads as it did. -/
def walPlaysUptoRow : OpenClaim := { program := "ytkmcnkonkalfkaadoor", sum := "171587b64a245fa84d1f0afc38f700bab62952669b24ca5d16c28395a4c1ff00", func := "countinghouse/countinghouselaw08.WalPlays", spec := "walPlays", named := ["countinghouse/sha.roundNumbers"], apart := false, laid := [("countinghouse/sha.roundNumbers", laid_countinghouse_sha_roundNumbers)], narrowed := true }
def WalPlaysUptoSaid : Prop := walPlaysUptoRow.holds Tryd.pinned (OpenSpec.upto walPlaysSpec)

/-- 'countinghouselaw08.WalKeeps', WHERE WHAT IT READS IS OF BULK AT MOST 1048576: true; the input reads as it did. -/
def walKeepsUptoRow : OpenClaim := { program := "ytkmcnkonkalfkaadoor", sum := "171587b64a245fa84d1f0afc38f700bab62952669b24ca5d16c28395a4c1ff00", func := "countinghouse/countinghouselaw08.WalKeeps", spec := "walKeeps", named := ["countinghouse/sha.roundNumbers"], apart := false, laid := [("countinghouse/sha.roundNumbers", laid_countinghouse_sha_roundNumbers)], narrowed := true }
def WalKeepsUptoSaid : Prop := walKeepsUptoRow.holds Tryd.pinned (OpenSpec.upto walKeepsSpec)

/-- 'countinghouselaw08.WalOpens', WHERE WHAT IT READS IS OF BULK AT MOST 1048576: true; the input reads as it did. -/
def walOpensUptoRow : OpenClaim := { program := "ytkmcnkonkalfkaadoor", sum := "171587b64a245fa84d1f0afc38f700bab62952669b24ca5d16c28395a4c1ff00", func := "countinghouse/countinghouselaw08.WalOpens", spec := "walOpens", named := ["countinghouse/sha.roundNumbers"], apart := false, laid := [("countinghouse/sha.roundNumbers", laid_countinghouse_sha_roundNumbers)], narrowed := true }
def WalOpensUptoSaid : Prop := walOpensUptoRow.holds Tryd.pinned (OpenSpec.upto walOpensSpec)

/-- 'countinghouselaw08.WalNil', WHERE WHAT IT READS IS OF BULK AT MOST 1048576: true; the input reads as it did. -/
def walNilUptoRow : OpenClaim := { program := "ytkmcnkonkalfkaadoor", sum := "171587b64a245fa84d1f0afc38f700bab62952669b24ca5d16c28395a4c1ff00", func := "countinghouse/countinghouselaw08.WalNil", spec := "walNil", named := ["countinghouse/sha.roundNumbers"], apart := false, laid := [("countinghouse/sha.roundNumbers", laid_countinghouse_sha_roundNumbers)], narrowed := true }
def WalNilUptoSaid : Prop := walNilUptoRow.holds Tryd.pinned (OpenSpec.upto walNilSpec)

end Rows
end Go.Proofs.YtkmcnkonkalfkaaDoor

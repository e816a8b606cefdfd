/-
  The walks of the functions that write and read numbers, highest byte first.
-/
import Derived.Test.YteeciicneedheaaW1
import Derived.Test.YteeciicneedheaaPure
namespace Go.Proofs.Yteeciicneedheaa
open Go.RowKit

end Go.Proofs.Yteeciicneedheaa

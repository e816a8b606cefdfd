/-
  The walks of the functions that write and read numbers, highest byte first.
-/
import Derived.Test.YthpcpecklemfcaaW1
import Derived.Test.YthpcpecklemfcaaPure
namespace Go.Proofs.Ythpcpecklemfcaa
open Go.RowKit

end Go.Proofs.Ythpcpecklemfcaa

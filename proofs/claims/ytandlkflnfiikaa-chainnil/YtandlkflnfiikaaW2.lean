/-
  The walks of the functions that write and read numbers, highest byte first.
-/
import Derived.Test.YtandlkflnfiikaaW1
import Derived.Test.YtandlkflnfiikaaPure
namespace Go.Proofs.Ytandlkflnfiikaa
open Go.RowKit

end Go.Proofs.Ytandlkflnfiikaa

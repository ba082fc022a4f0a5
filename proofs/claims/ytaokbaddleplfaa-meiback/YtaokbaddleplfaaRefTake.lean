/-
  The document's answer for word.Take.
-/
import Derived.Test.YtaokbaddleplfaaJoinA
import Derived.BigRegion
namespace Go.Proofs.Ytaokbaddleplfaa
open Go.RowKit
open Word

end Go.Proofs.Ytaokbaddleplfaa

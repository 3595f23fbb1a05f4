/- Windows: what the document's own answer comes to. -/
import Derived.Test.YtjcbcmloenhohabDoorTabsH
namespace Go.Proofs.YtjcbcmloenhohabDoor
open Go.RowKit

end Go.Proofs.YtjcbcmloenhohabDoor

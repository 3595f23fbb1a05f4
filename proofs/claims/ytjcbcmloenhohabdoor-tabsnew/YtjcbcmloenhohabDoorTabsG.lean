/- Taps: what the document's own answer comes to, at every place. -/
import Derived.Test.YtjcbcmloenhohabDoorTabsF
namespace Go.Proofs.YtjcbcmloenhohabDoor
open Go.RowKit

end Go.Proofs.YtjcbcmloenhohabDoor

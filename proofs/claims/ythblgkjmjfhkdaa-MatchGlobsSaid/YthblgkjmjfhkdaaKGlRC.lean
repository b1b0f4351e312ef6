/- The reference's way of matching, on lists: sets of places in an alternative, byte by byte. -/
import Derived.Test.YthblgkjmjfhkdaaKGlRB
namespace Go.Proofs.Ythblgkjmjfhkdaa.Gl
open Go.RowKit

end Go.Proofs.Ythblgkjmjfhkdaa.Gl

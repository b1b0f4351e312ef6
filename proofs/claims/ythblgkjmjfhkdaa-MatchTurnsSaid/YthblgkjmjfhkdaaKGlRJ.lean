/- The reference's Match. -/
import Derived.Test.YthblgkjmjfhkdaaKGlRI
namespace Go.Proofs.Ythblgkjmjfhkdaa.Gl
open Go.RowKit

end Go.Proofs.Ythblgkjmjfhkdaa.Gl

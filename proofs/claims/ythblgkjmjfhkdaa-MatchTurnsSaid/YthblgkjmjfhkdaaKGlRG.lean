/- The reference's Parse by a pattern's alternatives; its Check. -/
import Derived.Test.YthblgkjmjfhkdaaKGlRF
namespace Go.Proofs.Ythblgkjmjfhkdaa.Gl
open Go.RowKit

end Go.Proofs.Ythblgkjmjfhkdaa.Gl

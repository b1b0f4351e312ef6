/- The reference's Parse. -/
import Derived.Test.YthblgkjmjfhkdaaKGlRE
import Derived.Deep.DeepCutAuto
import Derived.Deep.CutBlock
import Derived.Deep.RegionHeld
namespace Go.Proofs.Ythblgkjmjfhkdaa.Gl
open Go.RowKit

end Go.Proofs.Ythblgkjmjfhkdaa.Gl

/- The reference's byteOK and Printable. -/
import Derived.Test.YthblgkjmjfhkdaaKGlM
namespace Go.Proofs.Ythblgkjmjfhkdaa.Gl
open Go.RowKit

end Go.Proofs.Ythblgkjmjfhkdaa.Gl

/- A match that is drawn: its op. -/
import Derived.Test.YthblgkjmjfhkdaaKGs
namespace Go.Proofs.Ythblgkjmjfhkdaa
open Go.RowKit
end Go.Proofs.Ythblgkjmjfhkdaa

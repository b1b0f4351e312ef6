/- The reference's Match. -/
import Derived.Test.YtljkljnfbcmjdaaGreatDoorKGlRI
namespace Go.Proofs.YtljkljnfbcmjdaaGreatDoor.Gl
open Go.RowKit
end Go.Proofs.YtljkljnfbcmjdaaGreatDoor.Gl

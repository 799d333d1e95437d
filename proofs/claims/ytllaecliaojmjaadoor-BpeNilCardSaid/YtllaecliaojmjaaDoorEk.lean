import Derived.Test.YtllaecliaojmjaaDoorDg
import Derived.Test.YtllaecliaojmjaaDoorRows
namespace Go.Proofs.YtllaecliaojmjaaDoor.Bp
/-- what the door's listed variable holds -/
def laidB : List (String × DataW Unit) := [("bytes.ErrTooLarge", Rows.laid_bytes_ErrTooLarge)]
end Go.Proofs.YtllaecliaojmjaaDoor.Bp

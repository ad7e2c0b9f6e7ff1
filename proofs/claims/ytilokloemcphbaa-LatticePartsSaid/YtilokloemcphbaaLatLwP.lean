/- The law on parts and the openers. No condition. -/
import Derived.Test.YtilokloemcphbaaLatPrt
import Derived.Test.YtilokloemcphbaaLatOpn
namespace Go.Proofs.Ytilokloemcphbaa
end Go.Proofs.Ytilokloemcphbaa

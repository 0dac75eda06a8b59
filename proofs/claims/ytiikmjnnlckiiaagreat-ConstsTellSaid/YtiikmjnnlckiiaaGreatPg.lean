/-
 What dyads are worth, as integers: each times 2 ^ 4000. Plain mathematics over the answers of dyad's functions.
-/
import Derived.Test.YtiikmjnnlckiiaaGreatPf
namespace Go.Proofs.YtiikmjnnlckiiaaGreat
section
set_option maxRecDepth 100000
open Go.RowKit
set_option linter.unusedVariables false

end
end Go.Proofs.YtiikmjnnlckiiaaGreat
namespace Go.Proofs.YtiikmjnnlckiiaaGreat
section
set_option maxRecDepth 100000
open Go.RowKit
set_option linter.unusedVariables false

end
end Go.Proofs.YtiikmjnnlckiiaaGreat
namespace Go.Proofs.YtiikmjnnlckiiaaGreat
section
set_option maxRecDepth 100000
set_option linter.unusedVariables false

end
end Go.Proofs.YtiikmjnnlckiiaaGreat

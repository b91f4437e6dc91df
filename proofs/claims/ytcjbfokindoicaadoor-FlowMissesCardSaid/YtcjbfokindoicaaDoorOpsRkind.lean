/- Contracts of the document's answer: the kinds, Name, Find. -/
import Derived.Test.YtcjbfokindoicaaDoorOpsMap
namespace Go.Proofs.YtcjbfokindoicaaDoor.On
set_option maxRecDepth 100000
open Go.ChangeShapes Go.WideShapes Go.RowKit
set_option linter.unusedVariables false

end Go.Proofs.YtcjbfokindoicaaDoor.On

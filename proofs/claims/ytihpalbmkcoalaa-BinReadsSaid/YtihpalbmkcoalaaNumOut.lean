/- Package num's Print. -/
import Derived.Test.YtihpalbmkcoalaaNumSeq
namespace Go.Proofs.Ytihpalbmkcoalaa
open Go.RowKit Go.Shelf
attribute [local go_sem] Oper.semAt_some
end Go.Proofs.Ytihpalbmkcoalaa

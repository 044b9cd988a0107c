/- The contracts of few, symbols, and of the document's Stands, Find, Range, Extract. -/
import Derived.Test.YtpnjccomngdblaaGreatZG
import Derived.Test.YtpnjccomngdblaaGreatYY
set_option maxRecDepth 100000
namespace Go.Proofs.YtpnjccomngdblaaGreat
open Go.RowKit
open M
attribute [local go_sem ↓] Go.wp_at_zero Go.wp_at_succ

end Go.Proofs.YtpnjccomngdblaaGreat

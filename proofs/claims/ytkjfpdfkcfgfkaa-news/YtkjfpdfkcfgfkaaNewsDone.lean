/- Proved: for every two lists of sizes the law News answers true and leaves its arguments as they were: New of any sizes is as the document says, and shares no memory. Condition: none besides those that the given statement itself names. -/
import Derived.Test.YtkjfpdfkcfgfkaaRows
import Derived.Test.YtkjfpdfkcfgfkaaNewsRow
import Derived.Test.YtkjfpdfkcfgfkaaFirst
namespace Go.Proofs.Ytkjfpdfkcfgfkaa

theorem news_holds : Rows.NewsSaid := news_of_first first_ok
end Go.Proofs.Ytkjfpdfkcfgfkaa

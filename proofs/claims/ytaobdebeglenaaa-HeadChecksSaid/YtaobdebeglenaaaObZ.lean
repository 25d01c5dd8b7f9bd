/- Contracts of package objmap, all of them: PCheck, PGet, PSet, PFresh (ObW), PMerge (ObY), PChanged (ObQ), PPack (ObPk), PUnpack (ObUn). -/
import Derived.Test.YtaobdebeglenaaaObQ
import Derived.Test.YtaobdebeglenaaaObUn

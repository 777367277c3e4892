/- Texts of one proof, put together. No statement is proved here. -/
import Derived.Test.YtbbjjdnnlnabaaaGreatPkZa
import Derived.Test.YtbbjjdnnlnabaaaGreatPkVj
import Derived.Test.YtbbjjdnnlnabaaaGreatPkV
import Derived.Test.YtbbjjdnnlnabaaaGreatPkCr
import Derived.Test.YtbbjjdnnlnabaaaGreatPkVe
import Derived.Test.YtbbjjdnnlnabaaaGreatPkY

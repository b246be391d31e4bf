/-
  Package coins as it landed: all that the laws lean on.
-/
import Derived.Test.YtecnlpkfcggimaaCoinA
import Derived.Test.YtecnlpkfcggimaaCoinB

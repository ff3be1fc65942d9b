/-
  The walk of ModeFits lies in ModD: (hT : TabAt w) .. w' = w := by.
-/
import Derived.Test.YtdjnpnbobedgoaaDoorModE

/-
  The walk of ModeTells lies in ModD: (hT : TabAt w) .. w' = w := by.
-/
import Derived.Test.YtdjnpnbobedgoaaDoorModE

/-
  The walk of ModeUp lies in ModD: (hT : TabAt w) .. w' = w := by.
-/
import Derived.Test.YtdjnpnbobedgoaaDoorModE

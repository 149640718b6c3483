/-
  The landed code of layer 9, as its contracts: right_any, type_any, size_any, same_any, own_any.
-/
import Derived.Test.YtljhcakfbdbmpaaLandType
import Derived.Test.YtljhcakfbdbmpaaLandSame
import Derived.Test.YtljhcakfbdbmpaaLandRight
import Derived.Test.YtljhcakfbdbmpaaLandOwn

/-
  All contracts of the landed layer 7.
-/
import Derived.Test.YthmkcdlchkdehaaTableCats
import Derived.Test.YthmkcdlchkdehaaRefTable4
import Derived.Test.YthmkcdlchkdehaaStrSame

/-
  The contracts of package onetime (a trial with arrays): they lie in OnetimeA, OnetimeB, OnetimeC. No condition.
-/
import Derived.Test.YthkkjocmglcjnaaOnetimeC

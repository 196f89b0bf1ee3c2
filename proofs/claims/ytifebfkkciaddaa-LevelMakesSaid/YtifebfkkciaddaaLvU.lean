/-
  Layer 3: all that its laws' frames need.
-/
import Derived.Test.YtifebfkkciaddaaLvT
import Derived.Test.YtifebfkkciaddaaLvN
import Derived.Test.YtifebfkkciaddaaLvO

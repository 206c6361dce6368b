/- FlashPlays' walk and its argument. -/
import Derived.Test.YtmhcogpjgllgjaaLaw3Only
import Derived.Test.YtmhcogpjgllgjaaActsArg3


/- RegionPlays's walk and its argument. -/
import Derived.Test.YtmhcogpjgllgjaaLaw3Plays
import Derived.Test.YtmhcogpjgllgjaaActsArg3


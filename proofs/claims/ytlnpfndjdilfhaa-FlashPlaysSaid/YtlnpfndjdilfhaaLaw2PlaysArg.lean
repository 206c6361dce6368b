/- FlashPlays' walk and its argument. -/
import Derived.Test.YtlnpfndjdilfhaaLaw2Plays
import Derived.Test.YtlnpfndjdilfhaaActsArg

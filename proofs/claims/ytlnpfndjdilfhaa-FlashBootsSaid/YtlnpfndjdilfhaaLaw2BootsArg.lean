/- FlashBoots' walk and its argument. -/
import Derived.Test.YtlnpfndjdilfhaaLaw2Play
import Derived.Test.YtlnpfndjdilfhaaActsArg

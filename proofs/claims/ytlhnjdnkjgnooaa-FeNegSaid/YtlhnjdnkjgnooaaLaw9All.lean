/- Layer 9 whole: the laws over the landed package. -/
import Derived.Test.YtlhnjdnkjgnooaaLaw9Arg
import Derived.Test.YtlhnjdnkjgnooaaFeI


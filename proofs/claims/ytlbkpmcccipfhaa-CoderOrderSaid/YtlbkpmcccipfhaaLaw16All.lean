/- Layer 16's laws and the landed package coder. -/
import Derived.Test.YtlbkpmcccipfhaaLaw16Arg
import Derived.Test.YtlbkpmcccipfhaaCoE


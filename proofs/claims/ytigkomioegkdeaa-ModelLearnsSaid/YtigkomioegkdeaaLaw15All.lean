/- Layer 15's laws and the landed package model. -/
import Derived.Test.YtigkomioegkdeaaLaw15Arg
import Derived.Test.YtigkomioegkdeaaMod15b


/- What the program's Parse, Len, Proto and All of confusables hand back, together. -/
import Derived.Test.YtkcpnnfbhcklpaaGreatDoorCpar
import Derived.Test.YtkcpnnfbhcklpaaGreatDoorCall

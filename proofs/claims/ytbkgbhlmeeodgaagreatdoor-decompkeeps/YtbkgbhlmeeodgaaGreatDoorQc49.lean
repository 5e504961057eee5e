/- A part. -/
import Derived.Test.YtbkgbhlmeeodgaaGreatDoorQc48


/- No further contract of the shelf is laid in this seat. -/
import Derived.Test.YtpebnofjcodikaaGreatDoorShelf

/- The library's contracts are in ShelfR. -/
import Derived.Test.YtpflbnddjclndaaGreatDoorShelfR

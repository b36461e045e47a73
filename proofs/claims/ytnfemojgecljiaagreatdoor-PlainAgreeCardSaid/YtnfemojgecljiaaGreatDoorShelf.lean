/- The library contracts are in ShelfR. -/
import Derived.Test.YtnfemojgecljiaaGreatDoorShelfR

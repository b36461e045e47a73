/- The shelf contracts: see YtbhommcpgejbfaaGreatDoorShelf. -/
import Derived.Test.YtbhommcpgejbfaaGreatDoorShelf

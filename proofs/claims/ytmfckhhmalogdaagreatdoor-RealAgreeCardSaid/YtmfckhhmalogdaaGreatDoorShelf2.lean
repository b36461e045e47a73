/- The shelf contracts: see YtmfckhhmalogdaaGreatDoorShelf. -/
import Derived.Test.YtmfckhhmalogdaaGreatDoorShelf

/- More contracts of the library, laid at their numbers: all of them stand in the other text. -/
import Derived.Test.YtgdfjblfpeedjaaShelf

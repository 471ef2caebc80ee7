/- Layer 9 of the program: Parse, Print, Field. -/
import Derived.Test.YtclnephomnkieaaCsvPrs
import Derived.Test.YtclnephomnkieaaCsvPri

/- All that the law of PagePlays wants. -/
import Derived.Test.YtohkfkojheecoaaT1
import Derived.Test.YtohkfkojheecoaaO7

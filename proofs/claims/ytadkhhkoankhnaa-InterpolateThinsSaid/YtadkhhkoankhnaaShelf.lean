/- No function of the shelf's plain ones is laid in this seat. -/
import Derived.Test.YtadkhhkoankhnaaProg

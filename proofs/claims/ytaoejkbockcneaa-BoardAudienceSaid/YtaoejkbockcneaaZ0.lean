/- Sort: a row of numbers. -/
import Derived.Test.YtaoejkbockcneaaVA
import Derived.LoopTactic
import Derived.Deep.QuietTactic
import Derived.IntWalk
import Derived.StillTailTactics

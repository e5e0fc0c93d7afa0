/-
  Stage 9: what the laws take of the developers' forest: contracts of all its calls, proved of the landed code. No condition (Steps: the bound is a number of 63 bits; Add: the number is one of 64 bits).
-/
import Derived.Test.YtlkigpmjhojceaaSwk

/-
  Contracts of the landed package memory, all eleven (MP1 to MP6).
-/
import Derived.Test.YtehpbjkacdmlaaaDoorMP6

/-
  What the laws of stage 6 ask first is answered: of the program's coder and decoder.
-/
import Derived.Test.YtkjhdpfomofggaaPrcAwake
import Derived.Test.YtkjhdpfomofggaaPwFin
import Derived.Test.YtkjhdpfomofggaaPxTake
namespace Go.Proofs.Ytkjhdpfomofggaa

theorem awake_con : AwakeCon := awake6_any coder_con dec_con
end Go.Proofs.Ytkjhdpfomofggaa

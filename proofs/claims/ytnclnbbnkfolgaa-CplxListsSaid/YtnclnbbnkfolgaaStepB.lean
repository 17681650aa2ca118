/- One operation of a drawn region at a time: a struct that is built. -/
import Derived.Test.YtnclnbbnkfolgaaStepN
namespace Go.Proofs.Ytnclnbbnkfolgaa
open Go.RowKit

theorem step_build {o : Oper} {d : Option Nat} {a : Act} {w : World} {K : Act → World → Prop} {Q : Exit → Act → World → Prop} {t : TypeId} {s : Operand} {x v : Value} (hd : o.dst = d) (hop : o.op = .build t #[(0, s)]) (hs : a.eval s = x)
    (hrun : (Instr.build t #[(0, x)]).run Try.prog w = .ok v w) (hK : K (a.put d v) w) : Oper.wp Try.prog o a w K Q := by
  subst hd
  unfold Oper.wp
  simp [execOp, hop, hs, hrun]
  exact hK
end Go.Proofs.Ytnclnbbnkfolgaa

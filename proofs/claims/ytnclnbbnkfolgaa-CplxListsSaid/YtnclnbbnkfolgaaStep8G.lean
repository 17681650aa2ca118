/- One operation of a drawn region at a time: a load, a call. -/
import Derived.Test.YtnclnbbnkfolgaaReg8
import Derived.Test.YtnclnbbnkfolgaaTwoG
import Derived.Test.YtnclnbbnkfolgaaProg
import Derived.Deep.RegionHeld3
import Derived.WalkKit
namespace Go.Proofs.Ytnclnbbnkfolgaa
open Go.RowKit

theorem step_load {o : Oper} {d : Option Nat} {a : Act} {w : World} {K : Act → World → Prop} {Q : Exit → Act → World → Prop} {t : TypeId} {s : Operand} {p v : Value} (hd : o.dst = d) (hop : o.op = .load t s) (hs : a.eval s = p)
    (hrun : (Instr.loadAt t p).run Try.prog w = .ok v w) (hK : K (a.put d v) w) : Oper.wp Try.prog o a w K Q := by
  subst hd
  unfold Oper.wp
  simp [execOp, hop, hs, hrun]
  exact hK
theorem step_call {o : Oper} {d : Option Nat} {a : Act} {w : World} {K : Act → World → Prop} {Q : Exit → Act → World → Prop} {f : FuncId} {s : Nat} {t : TypeId} {v : Value} (hd : o.dst = d) (hop : o.op = .call { callee := .value (.func f), args := #[.tmp s], argTypes := #[t] }) (hs : a.eval (.tmp s) = v)
    (hrun : (callFunc f #[v]).run Try.prog w = .ok (.enter f #[v]) w)
    (hC : Calls Try.prog f #[v] w fun r w' => ∃ y, r = .returned y ∧ K (a.put d y) w') : Oper.wp Try.prog o a w K Q := by
  subst hd
  have hs2 : a.tmps[s]?.getD undef = v := by simpa [Act.eval, go_sem] using hs
  unfold Oper.wp
  simp [execOp, hop, hs2, hrun, go_sem]
  try rw [Oper.upon_enter]
  refine hC.mono ?_
  rintro r w' ⟨y, rfl, hK⟩
  exact hK
end Go.Proofs.Ytnclnbbnkfolgaa

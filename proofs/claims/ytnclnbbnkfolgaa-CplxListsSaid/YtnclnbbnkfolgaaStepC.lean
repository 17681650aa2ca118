/- One operation of a drawn region at a time: a new block of two floats, a store of two floats, a field's place: of layer 6's numbers. -/
import Derived.Test.YtnclnbbnkfolgaaStep8G
namespace Go.Proofs.Ytnclnbbnkfolgaa
open Go.RowKit

theorem step_allocC {o : Oper} {d : Option Nat} {a : Act} {w : World} {K : Act → World → Prop} {Q : Exit → Act → World → Prop} (hd : o.dst = d) (hop : o.op = .alloc 25)
    (hK : K (a.put d (.pointer (some ⟨w.heap.size, 0, none⟩))) (w.alloc (.cells #[.float .f64 0, .float .f64 0] 25))) : Oper.wp Try.prog o a w K Q := by
  subst hd
  unfold Oper.wp
  simp [execOp, hop, go_sem]
  exact hK
theorem step_storeC {o : Oper} {d : Option Nat} {a : Act} {w : World} {K : Act → World → Prop} {Q : Exit → Act → World → Prop} {s x : Operand} {X u v a0 b0 : Nat} (hd : o.dst = d) (hop : o.op = Op.store 25 s x) (hs : a.eval s = .pointer (some ⟨X, 0, none⟩)) (hx : a.eval x = .agg #[.float .f64 u, .float .f64 v])
    (hT : Two w X a0 b0) (hK : K (a.put d undef) ((w.setCell ⟨X, 0, none⟩ (.float .f64 u)).setCell ⟨X, 1, none⟩ (.float .f64 v))) : Oper.wp Try.prog o a w K Q := by
  subst hd
  obtain ⟨m1, m2⟩ := hT.mid u
  have c0 := hT.c0
  have z0 := hT.z0
  have sf := run_store_float Try.prog
  unfold Oper.wp
  have hrun : (Instr.storeAt 25 (.pointer (some ⟨X, 0, none⟩)) (.agg #[.float .f64 u, .float .f64 v])).run Try.prog w = .ok () ((w.setCell ⟨X, 0, none⟩ (.float .f64 u)).setCell ⟨X, 1, none⟩ (.float .f64 v)) := by
    simp [go_sem, sf, c0, z0, m1, m2]
  simp [execOp, hop, hs, hx, hrun]
  exact hK
theorem field_hiC {w : World} {A : Nat} : (Instr.fieldAt 25 (.pointer (some ⟨A, 0, none⟩)) 0).run Try.prog w = .ok (.pointer (some ⟨A, 0, none⟩)) w := by simp [go_sem]
theorem field_loC {w : World} {A : Nat} : (Instr.fieldAt 25 (.pointer (some ⟨A, 0, none⟩)) 1).run Try.prog w = .ok (.pointer (some ⟨A, 1, none⟩)) w := by simp [go_sem]
theorem load_numC {w : World} {A x y : Nat} (h : Two w A x y) : (Instr.loadAt 25 (.pointer (some ⟨A, 0, none⟩))).run Try.prog w = .ok (.agg #[.float .f64 x, .float .f64 y]) w := by
  have c0 := h.c0
  have c1 := h.c1
  simp [go_sem, c0, c1]
end Go.Proofs.Ytnclnbbnkfolgaa

/- One operation of a drawn region at a time: float arithmetic on any words, the sign, a choice, calls of one to three arguments, a struct of two that is built; guarded operations. -/
import Derived.Test.YtnclnbbnkfolgaaActs
import Derived.Test.YtnclnbbnkfolgaaStepB
import Derived.Test.YtnclnbbnkfolgaaNan6
namespace Go.Proofs.Ytnclnbbnkfolgaa
open Go.RowKit

abbrev dv (x y : Nat) : Value := .agg #[.float .f64 x, .float .f64 y]
theorem wpOp_if {P : Program} {ops : Array Oper} {Q : Exit → Act → World → Prop} {i j t : Nat} {b : Bool} {o : Oper} {a : Act} {w : World} {K : Act → World → Prop} (ho : ops[i]? = some o) (hg : o.guard = some (j, b)) (hj : (ops[j]?).bind (·.dst) = some t) (hv : a.eval (.tmp t) = .bool b) (h : Oper.wp P o a w K Q) : wpOp P ops Q i K a w := by
  unfold wpOp
  simp only [ho]
  have hv2 : a.tmps[t]?.getD undef = .bool b := by simpa [Act.eval, go_sem] using hv
  have hv3 : a.tmps[t]? = some (.bool b) := by
    cases ht : a.tmps[t]? with
    | none => rw [ht] at hv2; exact absurd hv2 (by intro e; cases e)
    | some v => rw [ht] at hv2; exact congrArg some hv2
  have hw : Region.wanted o (yielded ops a.tmps) = true := by
    unfold Region.wanted yielded
    rw [hg]
    simp [hj, hv3]
  rw [if_pos hw]
  exact Or.inl h
theorem step_arith {P : Program} {op : BinOp} {o : Oper} {d : Option Nat} (ha : Arith op) {a : Act} {w : World} {K : Act → World → Prop} {Q : Exit → Act → World → Prop} {t t' : TypeId} {s x : Operand} {p q : Nat} (hd : o.dst = d) (hop : o.op = .binOp op t s x t') (hs : a.eval s = .float .f64 p) (hx : a.eval x = .float .f64 q)
    (hK : ∀ r, FR op p q r → Bel w (fwor op p q w) → K (a.put d (.float .f64 r)) (fwor op p q w)) : Oper.wp P o a w K Q := by
  subst hd
  have h2 := run_fany (P := P) ha t p q w
  have h1 : (eqGuard op t s x (.float .f64 p) (.float .f64 q)).run P w = .ok () w := by rcases ha with rfl | rfl | rfl <;> rfl
  have h3 : (execOp a.eval o).run P w = .ok (.value (.float .f64 (fval op p q w))) (fwor op p q w) := by
    simp only [execOp, hop, hs, hx]
    simp [Sem.run_bind, h1, h2]
  unfold Oper.wp
  rw [h3]
  exact hK _ (fval_fr p q w) (fwor_bel op p q w)
theorem step_neg {P : Program} {o : Oper} {d : Option Nat} {a : Act} {w : World} {K : Act → World → Prop} {Q : Exit → Act → World → Prop} {t : TypeId} {s : Operand} {x : Nat} (hd : o.dst = d) (hop : o.op = .unOp .neg t s) (hs : a.eval s = .float .f64 x) (hK : K (a.put d (.float .f64 (Op.negFloat .f64 x))) w) : Oper.wp P o a w K Q := by
  subst hd
  unfold Oper.wp
  have h3 : (execOp a.eval o).run P w = .ok (.value (.float .f64 (Op.negFloat .f64 x))) w := by
    simp only [execOp, hop, hs]
    rfl
  rw [h3]
  exact hK
theorem step_pick {P : Program} {o : Oper} {d : Option Nat} {a : Act} {w : World} {K : Act → World → Prop} {Q : Exit → Act → World → Prop} {c s x : Operand} {v : Value} (hd : o.dst = d) (hop : o.op = .pick c s x) (hc : a.eval c = .bool true) (hs : a.eval s = v) (hK : K (a.put d v) w) : Oper.wp P o a w K Q := by
  subst hd hs
  unfold Oper.wp
  simp [execOp, hop, hc]
  exact hK
theorem step_pickf {P : Program} {o : Oper} {d : Option Nat} {a : Act} {w : World} {K : Act → World → Prop} {Q : Exit → Act → World → Prop} {c s x : Operand} {v : Value} (hd : o.dst = d) (hop : o.op = .pick c s x) (hc : a.eval c = .bool false) (hs : a.eval x = v) (hK : K (a.put d v) w) : Oper.wp P o a w K Q := by
  subst hd hs
  unfold Oper.wp
  simp [execOp, hop, hc]
  exact hK
theorem step_build2 {o : Oper} {d : Option Nat} {a : Act} {w : World} {K : Act → World → Prop} {Q : Exit → Act → World → Prop} {t : TypeId} {s s' : Operand} {x x' v : Value} (hd : o.dst = d) (hop : o.op = .build t #[(0, s), (1, s')]) (hs : a.eval s = x) (hs' : a.eval s' = x')
    (hrun : (Instr.build t #[(0, x), (1, x')]).run Try.prog w = .ok v w) (hK : K (a.put d v) w) : Oper.wp Try.prog o a w K Q := by
  subst hd
  unfold Oper.wp
  simp [execOp, hop, hs, hs', hrun]
  exact hK
theorem step_callN0 {o : Oper} {d : Option Nat} {a : Act} {w : World} {K : Act → World → Prop} {Q : Exit → Act → World → Prop} {f : FuncId} (hd : o.dst = d) (hop : o.op = .call { callee := .value (.func f), args := #[], argTypes := #[] })
    (hrun : (callFunc f #[]).run Try.prog w = .ok (.enter f #[]) w)
    (hC : Calls Try.prog f #[] w fun r w' => ∃ y, r = .returned y ∧ K (a.put d y) w') : Oper.wp Try.prog o a w K Q := by
  subst hd
  unfold Oper.wp
  simp [execOp, hop, hrun, go_sem]
  try rw [Oper.upon_enter]
  refine hC.mono ?_
  rintro r w' ⟨y, rfl, hK⟩
  exact hK
theorem step_callN1 {o : Oper} {d : Option Nat} {a : Act} {w : World} {K : Act → World → Prop} {Q : Exit → Act → World → Prop} {f : FuncId} {s : Operand} {t : TypeId} {v : Value} (hd : o.dst = d) (hop : o.op = .call { callee := .value (.func f), args := #[s], argTypes := #[t] }) (hs : a.eval s = v)
    (hrun : (callFunc f #[v]).run Try.prog w = .ok (.enter f #[v]) w)
    (hC : Calls Try.prog f #[v] w fun r w' => ∃ y, r = .returned y ∧ K (a.put d y) w') : Oper.wp Try.prog o a w K Q := by
  subst hd
  unfold Oper.wp
  have hf : a.eval (.func f) = .func (.func f) #[] #[] := rfl
  generalize a.eval = ev at hs hf ⊢
  simp [execOp, hop, hs, hf, hrun, go_sem]
  try rw [Oper.upon_enter]
  refine hC.mono ?_
  rintro r w' ⟨y, rfl, hK⟩
  exact hK
theorem step_callN2 {o : Oper} {d : Option Nat} {a : Act} {w : World} {K : Act → World → Prop} {Q : Exit → Act → World → Prop} {f : FuncId} {s s' : Operand} {t t' : TypeId} {v v' : Value} (hd : o.dst = d) (hop : o.op = .call { callee := .value (.func f), args := #[s, s'], argTypes := #[t, t'] }) (hs : a.eval s = v) (hs' : a.eval s' = v')
    (hrun : (callFunc f #[v, v']).run Try.prog w = .ok (.enter f #[v, v']) w)
    (hC : Calls Try.prog f #[v, v'] w fun r w' => ∃ y, r = .returned y ∧ K (a.put d y) w') : Oper.wp Try.prog o a w K Q := by
  subst hd
  unfold Oper.wp
  have hf : a.eval (.func f) = .func (.func f) #[] #[] := rfl
  generalize a.eval = ev at hs hs' hf ⊢
  simp [execOp, hop, hs, hs', hf, hrun, go_sem]
  try rw [Oper.upon_enter]
  refine hC.mono ?_
  rintro r w' ⟨y, rfl, hK⟩
  exact hK
theorem step_callN3 {o : Oper} {d : Option Nat} {a : Act} {w : World} {K : Act → World → Prop} {Q : Exit → Act → World → Prop} {f : FuncId} {s s' s'' : Operand} {t t' t'' : TypeId} {v v' v'' : Value} (hd : o.dst = d) (hop : o.op = .call { callee := .value (.func f), args := #[s, s', s''], argTypes := #[t, t', t''] }) (hs : a.eval s = v) (hs' : a.eval s' = v') (hs'' : a.eval s'' = v'')
    (hrun : (callFunc f #[v, v', v'']).run Try.prog w = .ok (.enter f #[v, v', v'']) w)
    (hC : Calls Try.prog f #[v, v', v''] w fun r w' => ∃ y, r = .returned y ∧ K (a.put d y) w') : Oper.wp Try.prog o a w K Q := by
  subst hd
  unfold Oper.wp
  have hf : a.eval (.func f) = .func (.func f) #[] #[] := rfl
  generalize a.eval = ev at hs hs' hs'' hf ⊢
  simp [execOp, hop, hs, hs', hs'', hf, hrun, go_sem]
  try rw [Oper.upon_enter]
  refine hC.mono ?_
  rintro r w' ⟨y, rfl, hK⟩
  exact hK
theorem step_callN4 {o : Oper} {d : Option Nat} {a : Act} {w : World} {K : Act → World → Prop} {Q : Exit → Act → World → Prop} {f : FuncId} {s s' s'' s3 : Operand} {t t' t'' t3 : TypeId} {v v' v'' v3 : Value} (hd : o.dst = d) (hop : o.op = .call { callee := .value (.func f), args := #[s, s', s'', s3], argTypes := #[t, t', t'', t3] }) (hs : a.eval s = v) (hs' : a.eval s' = v') (hs'' : a.eval s'' = v'') (hs3 : a.eval s3 = v3)
    (hrun : (callFunc f #[v, v', v'', v3]).run Try.prog w = .ok (.enter f #[v, v', v'', v3]) w)
    (hC : Calls Try.prog f #[v, v', v'', v3] w fun r w' => ∃ y, r = .returned y ∧ K (a.put d y) w') : Oper.wp Try.prog o a w K Q := by
  subst hd
  unfold Oper.wp
  have hf : a.eval (.func f) = .func (.func f) #[] #[] := rfl
  generalize a.eval = ev at hs hs' hs'' hs3 hf ⊢
  simp [execOp, hop, hs, hs', hs'', hs3, hf, hrun, go_sem]
  try rw [Oper.upon_enter]
  refine hC.mono ?_
  rintro r w' ⟨y, rfl, hK⟩
  exact hK
theorem step_indexM {o : Oper} {d : Option Nat} {a : Act} {w : World} {K : Act → World → Prop} {Q : Exit → Act → World → Prop} {t : TypeId} {s x : Operand} {p i v : Value} (hd : o.dst = d) (hop : o.op = .indexAddr t s x) (hs : a.eval s = p) (hx : a.eval x = i)
    (hrun : (Instr.indexAt t p i).run Try.prog w = .ok v w) (hK : K (a.put d v) w) : Oper.wp Try.prog o a w K Q := by
  subst hd
  unfold Oper.wp
  simp [execOp, hop, hs, hx, hrun]
  exact hK
theorem load_i64 {w : World} {A j : Nat} {x : Int} (h : w.cell? ⟨A, j, none⟩ = some (.int .i64 x)) : (Instr.loadAt 2 (.pointer (some ⟨A, j, none⟩))).run Try.prog w = .ok (.int .i64 x) w := by simp [go_sem, h]
theorem build_2C {w : World} {x y : Nat} : (Instr.build 25 #[(0, .float .f64 x), (1, .float .f64 y)]).run Try.prog w = .ok (dv x y) w := by simp [go_sem]
theorem build_1C {w : World} {x : Nat} : (Instr.build 25 #[(0, .float .f64 x)]).run Try.prog w = .ok (dv x 0) w := by simp [go_sem]
end Go.Proofs.Ytnclnbbnkfolgaa

/- Two complex numbers compared. -/
import Derived.Test.YtnclnbbnkfolgaaStepM
import Derived.Test.YtnclnbbnkfolgaaTurn
import Derived.Test.YtnclnbbnkfolgaaTwo
import Derived.Laws.StructEq
namespace Go.Proofs.Ytnclnbbnkfolgaa
open Go.RowKit

theorem run_equalIn_floatC {P : Program} (w : World) (d : Nat) (t : TypeId) (k' : FloatKind) (a b : Nat) (h : P.underlying t = some (.float k')) : (Op.equalIn (d + 1) t (.float .f64 a) (.float .f64 b)).run P w = .ok (FloatKind.f64.format.order a b == some .eq) w := by
  simp [Op.equalIn, run_underlying h, Op.floatEq]
theorem C_fields : Try.prog.underlying 25 = some (.struct (Try.prog.fieldsOf 25)) := by kernel_rfl
theorem C_held : Try.prog.stoodInHeld 25 = false := by kernel_rfl
theorem C_list : (Try.prog.fieldsOf 25).toList.map (fun f => (f.name, f.type, f.offset)) = [("Re", 23, 0), ("Im", 23, 1)] := by kernel_rfl
theorem partC_0 (a b : Nat) (w : World) : (part 23 #[.float .f64 a, .float .f64 b] 0).run Try.prog w = .ok (.float .f64 a) w := by kernel_rfl
theorem partC_1 (a b : Nat) (w : World) : (part 23 #[.float .f64 a, .float .f64 b] 1).run Try.prog w = .ok (.float .f64 b) w := by kernel_rfl
theorem run_eql_C {a b c d : Nat} (h1 : FloatKind.f64.format.order a c = some .eq) (h2 : FloatKind.f64.format.order b d = some .eq) (w : World) :
    (binOp .eql 25 (dv a b) (dv c d)).run Try.prog w = .ok (.bool true) w := by
  unfold dv
  rw [run_eql_struct, run_equalIn_agg w 9999 _ _ _ C_fields C_held]
  obtain ⟨l, hl⟩ : ∃ l, l = (Try.prog.fieldsOf 25).toList := ⟨_, rfl⟩
  have hm := C_list
  rw [← hl] at hm ⊢
  match l, hm with
  | [f0, f1], hm =>
    simp only [List.map_cons, List.map_nil, List.cons.injEq, Prod.mk.injEq, and_true] at hm
    obtain ⟨⟨n0, t0, o0⟩, n1, t1, o1⟩ := hm
    simp [Op.eqFields, n0, n1, t0, t1, o0, o1]
    have q := fun (a b : Nat) (w : World) => run_equalIn_floatC (P := Try.prog) w 9998 23 .f64 a b Try.underlying23
    simp [partC_0, partC_1, q, h1, h2]
theorem step_bin {P : Program} {op : BinOp} {o : Oper} {d : Option Nat} {a : Act} {w : World} {K : Act → World → Prop} {Q : Exit → Act → World → Prop} {t t' : TypeId} {s x : Operand} {p q v : Value} (hd : o.dst = d) (hop : o.op = .binOp op t s x t') (hs : a.eval s = p) (hx : a.eval x = q)
    (h1 : (eqGuard op t s x p q).run P w = .ok () w) (h2 : (binOp op t p q).run P w = .ok v w) (hK : K (a.put d v) w) : Oper.wp P o a w K Q := by
  subst hd
  have h3 : (execOp a.eval o).run P w = .ok (.value v) w := by
    simp only [execOp, hop, hs, hx]
    simp [Sem.run_bind, h1, h2]
  unfold Oper.wp
  rw [h3]
  exact hK
theorem step_lenC {o : Oper} {d : Option Nat} {a : Act} {w : World} {K : Act → World → Prop} {Q : Exit → Act → World → Prop} {s : Operand} {g n c : Nat} (hd : o.dst = d) (hop : o.op = .call { callee := .builtin .len, args := #[s], argTypes := #[38] }) (hs : a.eval s = .slice (some ⟨g, 0, none⟩) n c) (hK : K (a.put d (.int .i64 (n : Int))) w) : Oper.wp Try.prog o a w K Q := by
  subst hd
  unfold Oper.wp
  generalize a.eval = ev at hs ⊢
  simp [execOp, hop, hs, go_sem]
  exact hK
theorem grd_eq (s x : Operand) (a b c d : Nat) (w : World) : (eqGuard .eql 25 s x (dv a b) (dv c d)).run Try.prog w = .ok () w := by kernel_rfl
theorem grd_int (t : TypeId) (s x : Operand) (a b : Int) (w : World) : (eqGuard .eql t s x (.int .i64 a) (.int .i64 b)).run Try.prog w = .ok () w := by rfl
end Go.Proofs.Ytnclnbbnkfolgaa

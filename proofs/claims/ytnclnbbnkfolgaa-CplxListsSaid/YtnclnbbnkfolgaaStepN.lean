/- One operation of a drawn region at a time, and regions that only read: what each operation leaves is just a value. -/
import Derived.Test.YtnclnbbnkfolgaaRegN
import Derived.Test.YtnclnbbnkfolgaaStep8G
namespace Go.Proofs.Ytnclnbbnkfolgaa
open Go.RowKit

/-- one more temporary -/
def tset (f : Nat → Value) (t : Nat) (v : Value) : Nat → Value := fun s => if s = t then v else f s
theorem tset_self (f : Nat → Value) (t : Nat) (v : Value) : tset f t v t = v := if_pos rfl
theorem tset_ne (f : Nat → Value) {t s : Nat} (v : Value) (h : s ≠ t) : tset f t v s = f s := if_neg h
theorem step_val {P : Program} {o : Oper} {d : Option Nat} {a : Act} {w : World} {K : Act → World → Prop} {Q : Exit → Act → World → Prop} {v : Value} (hd : o.dst = d) (hrun : (execOp a.eval o).run P w = .ok (.value v) w) (hK : K (a.put d v) w) : Oper.wp P o a w K Q := by
  subst hd
  unfold Oper.wp
  rw [hrun]
  exact hK
theorem step_call2 {o : Oper} {d : Option Nat} {a : Act} {w : World} {K : Act → World → Prop} {Q : Exit → Act → World → Prop} {f : FuncId} {s s' : Nat} {t t' : TypeId} {v v' : Value} (hd : o.dst = d) (hop : o.op = .call { callee := .value (.func f), args := #[.tmp s, .tmp s'], argTypes := #[t, t'] }) (hs : a.eval (.tmp s) = v) (hs' : a.eval (.tmp s') = v')
    (hrun : (callFunc f #[v, v']).run Try.prog w = .ok (.enter f #[v, v']) w)
    (hC : Calls Try.prog f #[v, v'] w fun r w' => ∃ y, r = .returned y ∧ K (a.put d y) w') : Oper.wp Try.prog o a w K Q := by
  subst hd
  have hs2 : a.tmps[s]?.getD undef = v := by simpa [Act.eval, go_sem] using hs
  have hs3 : a.tmps[s']?.getD undef = v' := by simpa [Act.eval, go_sem] using hs'
  unfold Oper.wp
  simp [execOp, hop, hs2, hs3, hrun, go_sem]
  try rw [Oper.upon_enter]
  refine hC.mono ?_
  rintro r w' ⟨y, rfl, hK⟩
  exact hK
/-- what operations leave that are just a value -/
def CV (cs : List (Nat × Nat × Value)) (D : Nat → Bool) (f : Nat → Value) : Prop := ∀ c ∈ cs, D c.1 = true → f c.2.1 = c.2.2
theorem dn {D : Nat → Bool} {i k : Nat} (hk : k ≠ i) (h : (D k || k == i) = true) : D k = true := by
  rw [Bool.or_eq_true, beq_iff_eq] at h
  exact h.resolve_right hk
theorem dup {D : Nat → Bool} {i k : Nat} (h : D k = true) : (D k || k == i) = true := by rw [h]; rfl
theorem CV.other {cs : List (Nat × Nat × Value)} {D : Nat → Bool} {f : Nat → Value} (h : CV cs D f) (i t : Nat) (v : Value) (hi : ∀ c ∈ cs, c.1 ≠ i ∧ c.2.1 ≠ t) : CV cs (fun k => D k || k == i) (tset f t v) := fun c hc hd => by
  rw [tset_ne _ _ (hi c hc).2]
  exact h c hc (dn (hi c hc).1 hd)
theorem CV.none {cs : List (Nat × Nat × Value)} {D : Nat → Bool} {f : Nat → Value} (h : CV cs D f) (i : Nat) (hi : ∀ c ∈ cs, c.1 ≠ i) : CV cs (fun k => D k || k == i) f := fun c hc hd => h c hc (dn (hi c hc) hd)
theorem CV.self {cs : List (Nat × Nat × Value)} {D : Nat → Bool} {f : Nat → Value} (h : CV cs D f) (i t : Nat) (v : Value) (hi : ∀ c ∈ cs, (c.1 = i ∧ c.2.1 = t ∧ c.2.2 = v) ∨ (c.1 ≠ i ∧ c.2.1 ≠ t)) : CV cs (fun k => D k || k == i) (tset f t v) := fun c hc hd => by
  rcases hi c hc with ⟨_, h2, h3⟩ | ⟨h1, h2⟩
  · rw [h2, h3, tset_self]
  · rw [tset_ne _ _ h2]
    exact h c hc (dn h1 hd)
theorem step_field {o : Oper} {d : Option Nat} {a : Act} {w : World} {K : Act → World → Prop} {Q : Exit → Act → World → Prop} {t : TypeId} {s : Operand} {j : Nat} {p v : Value} (hd : o.dst = d) (hop : o.op = .fieldAddr t s j) (hs : a.eval s = p)
    (hrun : (Instr.fieldAt t p j).run Try.prog w = .ok v w) (hK : K (a.put d v) w) : Oper.wp Try.prog o a w K Q := by
  subst hd
  unfold Oper.wp
  simp [execOp, hop, hs, hrun]
  exact hK
theorem step_move {P : Program} {o : Oper} {d : Option Nat} {a : Act} {w : World} {K : Act → World → Prop} {Q : Exit → Act → World → Prop} {s : Operand} {v : Value} (hd : o.dst = d) (hop : o.op = .move s ∨ o.op = .assign s) (hs : a.eval s = v) (hK : K (a.put d v) w) : Oper.wp P o a w K Q := by
  subst hd hs
  unfold Oper.wp
  rcases hop with hop | hop <;> simp [execOp, hop] <;> exact hK
theorem step_extract {P : Program} {o : Oper} {d : Option Nat} {a : Act} {w : World} {K : Act → World → Prop} {Q : Exit → Act → World → Prop} {s : Operand} {j : Nat} {vs : Array Value} {v : Value} (hd : o.dst = d) (hop : o.op = .extract s j) (hs : a.eval s = .tuple vs) (hv : vs[j]? = some v) (hK : K (a.put d v) w) : Oper.wp P o a w K Q := by
  subst hd
  unfold Oper.wp
  have hrun : (Instr.extract (.tuple vs) j).run P w = .ok v w := by simp [Instr.extract, hv, go_sem]
  simp [execOp, hop, hs, hrun]
  exact hK
theorem step_call1 {o : Oper} {d : Option Nat} {a : Act} {w : World} {K : Act → World → Prop} {Q : Exit → Act → World → Prop} {f : FuncId} {s : Nat} {t : TypeId} {v : Value} (hd : o.dst = d) (hop : o.op = .call { callee := .value (.func f), args := #[.tmp s], argTypes := #[t] }) (hs : a.eval (.tmp s) = v)
    (hrun : (callFunc f #[v]).run Try.prog w = .ok (.enter f #[v]) w)
    (hC : Calls Try.prog f #[v] w fun r w' => ∃ y, r = .returned y ∧ K (a.put d y) w') : Oper.wp Try.prog o a w K Q := step_call hd hop hs hrun hC
theorem load_float {w : World} {A j x : Nat} (h : w.cell? ⟨A, j, none⟩ = some (.float .f64 x)) : (Instr.loadAt 23 (.pointer (some ⟨A, j, none⟩))).run Try.prog w = .ok (.float .f64 x) w := by simp [go_sem, h]
theorem nodup_one {α : Type} {g : α → Nat} : ∀ {l : List α}, (l.map g).Nodup → ∀ c ∈ l, ∀ c' ∈ l, g c = g c' → c = c' := by
  intro l
  induction l with
  | nil => intro _ c hc; cases hc
  | cons x xs ih =>
    intro hn c hc c' hc' he
    rw [List.map_cons, List.nodup_cons] at hn
    rcases List.mem_cons.1 hc with rfl | h1
    · rcases List.mem_cons.1 hc' with rfl | h2
      · rfl
      · exact absurd (he ▸ List.mem_map_of_mem h2) hn.1
    · rcases List.mem_cons.1 hc' with rfl | h2
      · exact absurd (he.symm ▸ List.mem_map_of_mem h1) hn.1
      · exact ih hn.2 c h1 c' h2 he
/-- a region that draws its order and only reads: each operation's value is known -/
theorem wp_region_cv {P : Program} {ops : Array Oper} {Q : Exit → Act → World → Prop} {pre : Nat → List Nat} {id : Nat} {w : World} (act : (Nat → Value) → Act) (f0 : Nat → Value) (hm : P.follows .mixedOrders = true) (hc : chkN pre ops = true) (cs : List (Nat × Nat × Value)) (h1 : (cs.map (·.1)).Nodup) (h2 : (cs.map (·.2.1)).Nodup)
    (hs : ∀ i, i < ops.size → ∃ t v, (i, t, v) ∈ cs ∧ ∀ f, (∀ c ∈ cs, c.1 ∈ pre i → f c.2.1 = c.2.2) → wpOp P ops Q i (fun a' w' => a' = act (tset f t v) ∧ w' = w.drew) (act f) w.drew)
    (hQ : ∀ f, (∀ c ∈ cs, f c.2.1 = c.2.2) → Q .normal (act f) w.drew) (hsz : ∀ c ∈ cs, c.1 < ops.size) : (Code.region id ops true).wp P Q (act f0) w := by
  refine wp_region_set (pre := pre) hm hc (fun D a w' => ∃ f, a = act f ∧ w' = w.drew ∧ CV cs D f) ⟨f0, rfl, rfl, fun _ _ h => absurd h Bool.false_ne_true⟩ ?_ ?_
  · rintro D a w' i hi hD hp ⟨f, rfl, rfl, hI⟩
    obtain ⟨t, v, hmem, hw⟩ := hs i hi
    refine wpOp_mono ?_ (hw f fun c hc hj => hI c hc (hp _ hj))
    rintro a' w' ⟨rfl, rfl⟩
    refine ⟨_, rfl, rfl, hI.self i t v fun c hc => ?_⟩
    by_cases h : c.1 = i
    · have := nodup_one h1 c hc _ hmem h
      subst this
      exact Or.inl ⟨rfl, rfl, rfl⟩
    · refine Or.inr ⟨h, fun ht => h ?_⟩
      have := nodup_one h2 c hc _ hmem ht
      rw [this]
  · rintro D a w' hD ⟨f, rfl, rfl, hI⟩
    exact hQ f fun c hc => hI c hc (hD _ (hsz c hc))
/-- two floats of which something holds -/
def PairV (P : Nat → Nat → Prop) (v : Value) : Prop := ∃ s e, v = .agg #[.float .f64 s, .float .f64 e] ∧ P s e
/-- a new block of two floats; once stored, what is stored -/
def BlkV (w1 w : World) (done : Prop) (p v : Value) : Prop := ∃ X α β, p = .pointer (some ⟨X, 0, none⟩) ∧ w1.heap.size ≤ X ∧ Two w X α β ∧ (done → v = .agg #[.float .f64 α, .float .f64 β])
theorem BlkV.mk0 (w1 w : World) {ty : TypeId} {done : Prop} (v : Value) (hB : Bel w1 w) (hd : ¬ done) : BlkV w1 (w.alloc (.cells #[.float .f64 0, .float .f64 0] ty)) done (.pointer (some ⟨w.heap.size, 0, none⟩)) v :=
  ⟨w.heap.size, 0, 0, rfl, hB.size, Two.new .., fun h => absurd h hd⟩
theorem BlkV.imp {w1 w : World} {d d' : Prop} {p v : Value} (h : BlkV w1 w d p v) (hd : d' → d) : BlkV w1 w d' p v := by
  obtain ⟨X, α, β, h1, h2, h3, h4⟩ := h
  exact ⟨X, α, β, h1, h2, h3, fun h => h4 (hd h)⟩
theorem BlkV.bel {w1 w w' : World} {d : Prop} {p v : Value} (h : BlkV w1 w d p v) (g : Bel w w') : BlkV w1 w' d p v := by
  obtain ⟨X, α, β, h1, h2, h3, h4⟩ := h
  exact ⟨X, α, β, h1, h2, h3.by g, h4⟩
theorem BlkV.turn {w1 w : World} {d : Prop} {p v v' : Value} (h : BlkV w1 w d p v) (hd : ¬ d) : BlkV w1 w d p v' := by
  obtain ⟨X, α, β, h1, h2, h3, h4⟩ := h
  exact ⟨X, α, β, h1, h2, h3, fun h => absurd h hd⟩
theorem BlkV.fresh {w1 w : World} {d : Prop} {p v : Value} (h : BlkV w1 w d p v) : p ≠ .pointer (some ⟨w.heap.size, 0, none⟩) := by
  obtain ⟨X, α, β, h1, h2, h3, h4⟩ := h
  have := h3.lt
  rw [h1]
  intro e
  cases e
  omega
theorem BlkV.so {w1 w : World} {d : Prop} {p v : Value} {X : Nat} (h : BlkV w1 w d p v) (hne : p ≠ .pointer (some ⟨X, 0, none⟩)) (a b : Value) : BlkV w1 ((w.setCell ⟨X, 0, none⟩ a).setCell ⟨X, 1, none⟩ b) d p v := by
  obtain ⟨Y, α, β, h1, h2, h3, h4⟩ := h
  exact ⟨Y, α, β, h1, h2, h3.so (fun e => hne (by rw [h1, e])) _ _, h4⟩
end Go.Proofs.Ytnclnbbnkfolgaa

/- A region that draws its order, of any number of operations, by what holds behind each set of them. Over any program. -/
import Derived.Test.YtnclnbbnkfolgaaTwo
import Derived.WalkKit
import Derived.Orders
namespace Go.Proofs.Ytnclnbbnkfolgaa
open Go.RowKit

/-- what each operation waits for: a closed check -/
def chkN (pre : Nat → List Nat) (ops : Array Oper) : Bool :=
  (List.range ops.size).all fun i => match ops[i]? with
    | some o => (o.after.all fun e => !Region.binds .any e || decide (e.on < i)) && (pre i).all fun j => o.after.any fun e => Region.binds .any e && e.on == j
    | none => false
/-- the operations that are done -/
def doneN (l : Array Bool) (k : Nat) : Bool := l.getD k false
def undone (l : Array Bool) : Nat := l.toList.countP fun b => !b
theorem done_set {l : Array Bool} {i : Nat} (hi : i < l.size) : doneN (l.setIfInBounds i true) = fun k => doneN l k || k == i := by
  funext k
  unfold doneN
  rw [Array.getD_eq_getD_getElem?, Array.getD_eq_getD_getElem?, Array.getElem?_setIfInBounds]
  by_cases h : i = k
  · subst h
    rw [if_pos rfl, if_pos hi]
    simp
  · rw [if_neg h, show (k == i) = false from by rw [beq_eq_false_iff_ne]; exact fun e => h e.symm, Bool.or_false]
theorem countP_set {l : List Bool} {i : Nat} (h : l[i]? = some false) : (l.set i true).countP (fun b => !b) + 1 = l.countP fun b => !b := by
  induction l generalizing i with
  | nil => simp at h
  | cons b bs ih =>
    cases i with
    | zero =>
      simp at h
      subst h
      simp
    | succ i =>
      simp at h
      have := ih h
      simp only [List.set_cons_succ, List.countP_cons]
      omega
theorem undone_set {l : Array Bool} {i : Nat} (h : l[i]? = some false) : undone (l.setIfInBounds i true) + 1 = undone l := by
  unfold undone
  rw [Array.toList_setIfInBounds]
  exact countP_set (by rw [Array.getElem?_toList]; exact h)
theorem undone_zero {l : Array Bool} (h : undone l = 0) {i : Nat} (hi : i < l.size) : doneN l i = true := by
  unfold undone at h
  rw [List.countP_eq_zero] at h
  unfold doneN
  have h2 := h l[i] (by simp)
  simp at h2
  rw [Array.getD_eq_getD_getElem?, Array.getElem?_eq_getElem hi]
  simpa using h2
theorem ready_mem {ops : Array Oper} {l : Array Bool} {i : Nat} (hs : l.size = ops.size) (h : i ∈ Region.ready .any ops l) : i < ops.size ∧ l[i]? = some false ∧ ∃ o, ops[i]? = some o ∧ ∀ e ∈ o.after.toList, Region.binds .any e = true → doneN l e.on = true := by
  unfold Region.ready at h
  rw [List.mem_filter, List.mem_range, Bool.and_eq_true] at h
  obtain ⟨h1, h2, h3⟩ := h
  refine ⟨h1, ?_, ?_⟩
  · rw [Array.getD_eq_getD_getElem?, Array.getElem?_eq_getElem (by omega)] at h2
    rw [Array.getElem?_eq_getElem (by omega)]
    simpa using h2
  · rw [Array.getElem?_eq_getElem h1] at h3 ⊢
    refine ⟨_, rfl, fun e he hb => ?_⟩
    simp only [Option.map_some, Option.getD_some] at h3
    rw [← Array.all_toList, List.all_eq_true] at h3
    have := h3 e he
    rw [hb] at this
    simpa [doneN] using this
theorem ready_nil {pre : Nat → List Nat} {ops : Array Oper} {l : Array Bool} (hc : chkN pre ops = true) (hs : l.size = ops.size) (h : Region.ready .any ops l = []) : ∀ n i, i < n → i < ops.size → doneN l i = true := by
  intro n
  induction n with
  | zero => intro i h0; omega
  | succ n ih =>
    intro i hi hn
    refine Classical.byContradiction fun hd => ?_
    have hm : i ∈ Region.ready .any ops l := by
      unfold Region.ready
      rw [List.mem_filter, List.mem_range, Bool.and_eq_true]
      refine ⟨hn, ?_, ?_⟩
      · unfold doneN at hd
        rw [Array.getD_eq_getD_getElem?, Array.getElem?_eq_getElem (by omega)] at hd
        rw [Array.getD_eq_getD_getElem?, Array.getElem?_eq_getElem (by omega)]
        simpa using hd
      · unfold chkN at hc
        rw [List.all_eq_true] at hc
        have h2 := hc i (List.mem_range.2 hn)
        rw [Array.getElem?_eq_getElem hn] at h2 ⊢
        simp only [Bool.and_eq_true] at h2
        simp only [Option.map_some, Option.getD_some]
        rw [← Array.all_toList, List.all_eq_true] at h2 ⊢
        intro e he
        have h3 := h2.1 e he
        rw [Bool.or_eq_true] at h3 ⊢
        refine h3.imp id fun h3 => ?_
        rw [decide_eq_true_eq] at h3
        exact ih e.on (by omega) (by omega)
    rw [h] at hm
    exact absurd hm (by simp)
theorem wpAnyN {P : Program} {ops : Array Oper} {Q : Exit → Act → World → Prop} {pre : Nat → List Nat} (hc : chkN pre ops = true) (I : (Nat → Bool) → Act → World → Prop)
    (hstep : ∀ D a w i, i < ops.size → D i = false → (∀ j ∈ pre i, D j = true) → I D a w → wpOp P ops Q i (fun a' w' => I (fun k => D k || k == i) a' w') a w)
    (hend : ∀ D a w, (∀ i, i < ops.size → D i = true) → I D a w → Q .normal a w) : ∀ (fuel : Nat) (l : Array Bool) (a : Act) (w : World), l.size = ops.size → undone l = fuel → I (doneN l) a w → wpAny P .any ops Q fuel l a w := by
  intro fuel
  induction fuel with
  | zero =>
    intro l a w hs hu hI
    refine ⟨?_, hend _ a w (fun i hi => undone_zero hu (by omega)) hI⟩
    cases hr : Region.ready .any ops l with
    | nil => rfl
    | cons i is =>
      exfalso
      obtain ⟨h1, h2, _⟩ := ready_mem (i := i) hs (by rw [hr]; exact List.mem_cons_self ..)
      have h3 := undone_zero hu (i := i) (by omega)
      unfold doneN at h3
      rw [Array.getD_eq_getD_getElem?, h2] at h3
      simp at h3
  | succ fuel ih =>
    intro l a w hs hu hI
    refine ⟨fun hn => hend _ a w (fun i hi => ready_nil hc hs hn (i + 1) i (by omega) hi) hI, fun i hi => ?_⟩
    obtain ⟨h1, h2, o, ho, h3⟩ := ready_mem hs hi
    have hd : doneN l i = false := by
      unfold doneN
      rw [Array.getD_eq_getD_getElem?, h2]; rfl
    refine wpOp_mono (fun a' w' hI' => ih _ a' w' (by simpa using hs) (by have := undone_set h2; omega) (by rw [done_set (by omega)]; exact hI')) (hstep _ a w i h1 hd (fun j hj => ?_) hI)
    unfold chkN at hc
    rw [List.all_eq_true] at hc
    have h4 := hc i (List.mem_range.2 h1)
    rw [ho] at h4
    simp only [Bool.and_eq_true] at h4
    have h5 := List.all_eq_true.1 h4.2 j hj
    rw [← Array.any_toList, List.any_eq_true] at h5
    obtain ⟨e, he, h6⟩ := h5
    rw [Bool.and_eq_true, beq_iff_eq] at h6
    rw [← h6.2]
    exact h3 e he h6.1
theorem wp_region_set {P : Program} {ops : Array Oper} {Q : Exit → Act → World → Prop} {pre : Nat → List Nat} {id : Nat} {a : Act} {w : World} (hm : P.follows .mixedOrders = true) (hc : chkN pre ops = true) (I : (Nat → Bool) → Act → World → Prop)
    (h0 : I (fun _ => false) a { w with drawn := w.drawn + 1 })
    (hstep : ∀ D a w i, i < ops.size → D i = false → (∀ j ∈ pre i, D j = true) → I D a w → wpOp P ops Q i (fun a' w' => I (fun k => D k || k == i) a' w') a w)
    (hend : ∀ D a w, (∀ i, i < ops.size → D i = true) → I D a w → Q .normal a w) : (Code.region id ops true).wp P Q a w := by
  refine wp_region_any hm ?_
  refine wpAnyN hc I hstep hend ops.size _ a _ (by simp) ?_ ?_
  · unfold undone
    simp [List.countP_replicate]
  · have e : doneN (Array.replicate ops.size false) = fun _ => false := by
      funext k
      unfold doneN
      rw [Array.getD_eq_getD_getElem?]
      by_cases h : k < ops.size
      · rw [Array.getElem?_eq_getElem (by simpa using h)]; simp
      · rw [Array.getElem?_eq_none (by simpa using h)]; rfl
    rw [e]
    exact h0
end Go.Proofs.Ytnclnbbnkfolgaa

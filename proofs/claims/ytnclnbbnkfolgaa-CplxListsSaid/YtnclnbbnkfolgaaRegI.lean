/- A region that draws its order, by an invariant of one's own over the set of done operations, and what each leaves. -/
import Derived.Test.YtnclnbbnkfolgaaRegP
namespace Go.Proofs.Ytnclnbbnkfolgaa
open Go.RowKit

def Held (its : Its) (phi : Nat → Value → Prop) (D : Nat → Bool) (f : Nat → Value) : Prop := ∀ i t, (i, t) ∈ its → D i = true → phi i (f t)
def StepI (P : Program) (ops : Array Oper) (Q : Exit → Act → World → Prop) (pre : Nat → List Nat) (act : (Nat → Value) → Act) (its : Its) (phi : Nat → Value → Prop) (I : (Nat → Bool) → (Nat → Value) → World → Prop) (i : Nat) : Prop :=
  ∀ D f w, D i = false → (∀ j ∈ pre i, D j = true) → I D f w → Held its phi D f → wpOp P ops Q i (fun a' w' => ∃ f', a' = act f' ∧ I (fun k => D k || k == i) f' w' ∧ Held its phi (fun k => D k || k == i) f') (act f) w
theorem wp_region_iv {P : Program} {ops : Array Oper} {Q : Exit → Act → World → Prop} {pre : Nat → List Nat} {id : Nat} {w1 : World} (act : (Nat → Value) → Act) (f0 : Nat → Value) (hm : P.follows .mixedOrders = true) (hc : chkN pre ops = true) (its : Its) (phi : Nat → Value → Prop) (I : (Nat → Bool) → (Nat → Value) → World → Prop)
    (h0 : I (fun _ => false) f0 { w1 with drawn := w1.drawn + 1 }) (hs : ∀ i, i < ops.size → StepI P ops Q pre act its phi I i) (hsz : ∀ i t, (i, t) ∈ its → i < ops.size)
    (hQ : ∀ D f w, (∀ i, i < ops.size → D i = true) → I D f w → (∀ i t, (i, t) ∈ its → phi i (f t)) → Q .normal (act f) w) : (Code.region id ops true).wp P Q (act f0) w1 := by
  refine wp_region_set (pre := pre) hm hc (fun D a w => ∃ f, a = act f ∧ I D f w ∧ Held its phi D f) ⟨f0, rfl, h0, fun _ _ _ h => absurd h Bool.false_ne_true⟩ ?_ ?_
  · rintro D a w i hi hD hp ⟨f, rfl, hI, hH⟩
    exact hs i hi D f w hD hp hI hH
  · rintro D a w hall ⟨f, rfl, hI, hH⟩
    exact hQ D f w hall hI fun i t hit => hH i t hit (hall i (hsz i t hit))
def oneB (its : Its) : Bool := decide (its.map (·.1)).Nodup && decide (its.map (·.2)).Nodup
theorem Held.put {its : Its} {phi : Nat → Value → Prop} {D : Nat → Bool} {f : Nat → Value} {i t : Nat} {v : Value} (hB : oneB its = true) (hit : (i, t) ∈ its) (h : Held its phi D f) (hv : phi i v) : Held its phi (fun k => D k || k == i) (tset f t v) := by
  unfold oneB at hB
  simp only [Bool.and_eq_true, decide_eq_true_eq] at hB
  intro j s hjs hj
  by_cases e : s = t
  · subst e
    have e2 : (j, s) = (i, s) := nodup_one (g := fun c : Nat × Nat => c.2) hB.2 _ hjs _ hit rfl
    obtain rfl : j = i := congrArg Prod.fst e2
    rw [tset_self]; exact hv
  · rw [tset_ne _ _ e]
    by_cases e3 : j = i
    · subst e3
      have e2 : (j, s) = (j, t) := nodup_one (g := fun c : Nat × Nat => c.1) hB.1 _ hjs _ hit rfl
      exact absurd (congrArg Prod.snd e2) e
    · have hj : (D j || j == i) = true := hj
      rw [Bool.or_eq_true, beq_iff_eq] at hj
      exact h j s hjs (hj.resolve_right e3)
theorem Held.skip {its : Its} {phi : Nat → Value → Prop} {D : Nat → Bool} {f : Nat → Value} {i : Nat} (hi : its.all (fun c => c.1 != i) = true) (h : Held its phi D f) : Held its phi (fun k => D k || k == i) f := by
  intro j s hjs hj
  have e := List.all_eq_true.1 hi _ hjs
  have hj : (D j || j == i) = true := hj
  rw [Bool.or_eq_true, beq_iff_eq] at hj
  exact h j s hjs (hj.resolve_right (by simpa using e))
theorem Held.other {its : Its} {phi : Nat → Value → Prop} {D : Nat → Bool} {f : Nat → Value} {i t : Nat} {v : Value} (hi : its.all (fun c => c.1 != i && c.2 != t) = true) (h : Held its phi D f) : Held its phi (fun k => D k || k == i) (tset f t v) := by
  intro j s hjs hj
  have e := List.all_eq_true.1 hi _ hjs
  simp only [Bool.and_eq_true, bne_iff_ne] at e
  have hj : (D j || j == i) = true := hj
  rw [Bool.or_eq_true, beq_iff_eq] at hj
  rw [tset_ne _ _ e.2]
  exact h j s hjs (hj.resolve_right e.1)
/-- an operation that leaves a value and turns nothing -/
theorem StepI.pure {P : Program} {ops : Array Oper} {Q : Exit → Act → World → Prop} {pre : Nat → List Nat} {act : (Nat → Value) → Act} {its : Its} {phi : Nat → Value → Prop} {I : (Nat → Bool) → (Nat → Value) → World → Prop} {i : Nat} (t : Nat) (hB : oneB its = true) (hit : (i, t) ∈ its)
    (hI : ∀ D f w v, I D f w → I (fun k => D k || k == i) (tset f t v) w)
    (h : ∀ D f w, I D f w → (∀ j s, (j, s) ∈ its → j ∈ pre i → phi j (f s)) → wpOp P ops Q i (fun a' w' => ∃ v, a' = act (tset f t v) ∧ phi i v ∧ w' = w) (act f) w) : StepI P ops Q pre act its phi I i := by
  intro D f w hD hp hi hH
  refine wpOp_mono ?_ (h D f w hi fun j s hjs hj => hH j s hjs (hp j hj))
  rintro a' w' ⟨v, rfl, hv, rfl⟩
  exact ⟨_, rfl, hI _ _ _ _ hi, hH.put hB hit hv⟩
end Go.Proofs.Ytnclnbbnkfolgaa

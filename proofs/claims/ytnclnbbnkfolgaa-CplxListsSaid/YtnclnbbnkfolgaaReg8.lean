/- A region of eight operations that draws its order, by what holds behind each set of them. Over any program. -/
import Derived.Test.YtnclnbbnkfolgaaTwo
import Derived.WalkKit
import Derived.Orders
namespace Go.Proofs.Ytnclnbbnkfolgaa
open Go.RowKit

def L8 (m : Nat) : Array Bool := #[m.testBit 0, m.testBit 1, m.testBit 2, m.testBit 3, m.testBit 4, m.testBit 5, m.testBit 6, m.testBit 7]
def pop8 (m : Nat) : Nat := (m.testBit 0).toNat + (m.testBit 1).toNat + (m.testBit 2).toNat + (m.testBit 3).toNat + (m.testBit 4).toNat + (m.testBit 5).toNat + (m.testBit 6).toNat + (m.testBit 7).toNat
/-- what may come up behind each set: a closed check -/
def chk8 (pre : Nat → Nat) (md : Region.Mode) (ops : Array Oper) : Bool :=
  (List.range 256).all fun m => ((Region.ready md ops (L8 m)).all fun i => decide (i < 8) && !m.testBit i && ((m &&& pre i) == pre i)) && (!(Region.ready md ops (L8 m)).isEmpty || m == 255)
theorem set8 : ∀ m, m < 256 → ∀ i, i < 8 → m.testBit i = false → ((L8 m).setIfInBounds i true = L8 (m ||| 2 ^ i) ∧ (m ||| 2 ^ i) < 256 ∧ pop8 (m ||| 2 ^ i) = pop8 m + 1) := by decide +kernel
theorem full8 : ∀ m, m < 256 → pop8 m = 8 → m = 255 := by decide +kernel
theorem zero8 : L8 0 = Array.replicate 8 false ∧ pop8 0 = 0 := by decide +kernel
theorem full_ready {md : Region.Mode} {pre : Nat → Nat} {ops : Array Oper} (h : chk8 pre md ops = true) : Region.ready md ops (L8 255) = [] := by
  unfold chk8 at h
  rw [List.all_eq_true] at h
  have := h 255 (by simp)
  rw [Bool.and_eq_true, List.all_eq_true] at this
  cases hr : Region.ready md ops (L8 255) with
  | nil => rfl
  | cons i is =>
    exfalso
    have h1 := this.1 i (by rw [hr]; exact List.mem_cons_self ..)
    simp only [Bool.and_eq_true, decide_eq_true_eq, Bool.not_eq_true'] at h1
    have h2 : ∀ i, i < 8 → Nat.testBit 255 i = true := by decide
    rw [h2 i h1.1.1] at h1
    exact absurd h1.1.2 (by decide)
theorem wpAny8 {P : Program} {md : Region.Mode} {ops : Array Oper} {Q : Exit → Act → World → Prop} {pre : Nat → Nat} (h : chk8 pre md ops = true) (I : Nat → Act → World → Prop)
    (hstep : ∀ m a w i, m < 256 → i < 8 → m.testBit i = false → (m &&& pre i) = pre i → I m a w → wpOp P ops Q i (fun a' w' => I (m ||| 2 ^ i) a' w') a w)
    (hend : ∀ a w, I 255 a w → Q .normal a w) : ∀ (fuel m : Nat) (a : Act) (w : World), m < 256 → pop8 m + fuel = 8 → I m a w → wpAny P md ops Q fuel (L8 m) a w := by
  intro fuel
  induction fuel with
  | zero =>
    intro m a w hm hp hI
    have e := full8 m hm (by omega)
    subst e
    exact ⟨full_ready h, hend a w hI⟩
  | succ fuel ih =>
    intro m a w hm hp hI
    have hc := h
    unfold chk8 at hc
    rw [List.all_eq_true] at hc
    have hcm := hc m (by simpa using hm)
    rw [Bool.and_eq_true, List.all_eq_true, Bool.or_eq_true] at hcm
    refine ⟨fun hn => ?_, fun i hi => ?_⟩
    · have e : m = 255 := by
        rcases hcm.2 with k | k
        · rw [hn] at k; exact absurd k (by decide)
        · exact beq_iff_eq.mp k
      subst e
      exact hend a w hI
    · have h1 := hcm.1 i hi
      simp only [Bool.and_eq_true, decide_eq_true_eq, Bool.not_eq_true', beq_iff_eq] at h1
      obtain ⟨s1, s2, s3⟩ := set8 m hm i h1.1.1 h1.1.2
      rw [s1]
      exact wpOp_mono (fun a' w' hI' => ih _ a' w' s2 (by omega) hI') (hstep m a w i hm h1.1.1 h1.1.2 h1.2 hI)
theorem wp_region8 {P : Program} {ops : Array Oper} {Q : Exit → Act → World → Prop} {pre : Nat → Nat} {id : Nat} {a : Act} {w : World} (hm : P.follows .mixedOrders = true) (hsz : ops.size = 8) (h : chk8 pre .any ops = true) (I : Nat → Act → World → Prop)
    (h0 : I 0 a { w with drawn := w.drawn + 1 })
    (hstep : ∀ m a w i, m < 256 → i < 8 → m.testBit i = false → (m &&& pre i) = pre i → I m a w → wpOp P ops Q i (fun a' w' => I (m ||| 2 ^ i) a' w') a w)
    (hend : ∀ a w, I 255 a w → Q .normal a w) : (Code.region id ops true).wp P Q a w := by
  refine wp_region_any hm ?_
  rw [hsz, ← zero8.1]
  exact wpAny8 h I hstep hend 8 0 a _ (by decide) (by rw [zero8.2]) h0
theorem wpOp_go {P : Program} {ops : Array Oper} {Q : Exit → Act → World → Prop} {i : Nat} {o : Oper} {a : Act} {w : World} {K : Act → World → Prop} (ho : ops[i]? = some o) (hg : o.guard = none) (h : Oper.wp P o a w K Q) : wpOp P ops Q i K a w := by
  unfold wpOp
  simp only [ho]
  have hw : Region.wanted o (yielded ops a.tmps) = true := by simp [Region.wanted, hg]
  rw [if_pos hw]
  exact Or.inl h
end Go.Proofs.Ytnclnbbnkfolgaa

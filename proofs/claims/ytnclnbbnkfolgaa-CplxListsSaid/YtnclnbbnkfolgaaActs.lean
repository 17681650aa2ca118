/- Frames of which some temporaries are open: no frame need be spelt. -/
import Derived.Test.YtnclnbbnkfolgaaRegL
namespace Go.Proofs.Ytnclnbbnkfolgaa
open Go.RowKit

/-- the frame with other values in some temporaries -/
def actOf (a0 : Act) (ds : List Nat) (f : Nat → Value) : Act := ⟨a0.tmps.mapIdx fun t v => if t ∈ ds then f t else v, a0.defers⟩
theorem actOf_size (a0 : Act) (ds : List Nat) (f : Nat → Value) : (actOf a0 ds f).tmps.size = a0.tmps.size := by simp [actOf]
theorem act_ext {a b : Act} (h1 : a.tmps = b.tmps) (h2 : a.defers = b.defers) : a = b := by
  cases a; cases b; simp at h1 h2; subst h1 h2; rfl
theorem actOf_self (a0 : Act) (ds : List Nat) : actOf a0 ds (fun t => a0.eval (.tmp t)) = a0 := by
  refine act_ext ?_ rfl
  refine Array.ext (by simp [actOf]) fun i h1 h2 => ?_
  simp only [actOf, Array.getElem_mapIdx]
  by_cases c : i ∈ ds
  · rw [if_pos c]
    show a0.tmps.getD i undef = _
    rw [Array.getD_eq_getD_getElem?, Array.getElem?_eq_getElem h2]; rfl
  · rw [if_neg c]
theorem actOf_put (a0 : Act) (ds : List Nat) (f : Nat → Value) {t : Nat} (ht : t ∈ ds) (v : Value) : (actOf a0 ds f).put (some t) v = actOf a0 ds (tset f t v) := by
  refine act_ext ?_ rfl
  show (actOf a0 ds f).tmps.setIfInBounds t v = (actOf a0 ds (tset f t v)).tmps
  refine Array.ext (by simp [actOf]) fun i h1 h2 => ?_
  have h3 : i < (actOf a0 ds f).tmps.size := by simpa using h1
  rw [Array.getElem_setIfInBounds h3]
  simp only [actOf, Array.getElem_mapIdx]
  by_cases c : t = i
  · subst c
    rw [if_pos rfl, if_pos ht, tset_self]
  · rw [if_neg c]
    by_cases c2 : i ∈ ds
    · rw [if_pos c2, if_pos c2, tset_ne _ _ (fun e => c e.symm)]
    · rw [if_neg c2, if_neg c2]
theorem actOf_in (a0 : Act) (ds : List Nat) (f : Nat → Value) {t : Nat} (ht : t ∈ ds) (hs : t < a0.tmps.size) : (actOf a0 ds f).eval (.tmp t) = f t := by
  show (actOf a0 ds f).tmps.getD t undef = _
  rw [Array.getD_eq_getD_getElem?, Array.getElem?_eq_getElem (by rw [actOf_size]; exact hs)]
  simp only [actOf, Array.getElem_mapIdx, Option.getD_some]
  rw [if_pos ht]
theorem actOf_out (a0 : Act) (ds : List Nat) (f : Nat → Value) {t : Nat} (ht : t ∉ ds) : (actOf a0 ds f).eval (.tmp t) = a0.eval (.tmp t) := by
  show (actOf a0 ds f).tmps.getD t undef = a0.tmps.getD t undef
  rw [Array.getD_eq_getD_getElem?, Array.getD_eq_getD_getElem?]
  by_cases hs : t < a0.tmps.size
  · rw [Array.getElem?_eq_getElem (by rw [actOf_size]; exact hs), Array.getElem?_eq_getElem hs]
    simp only [actOf, Array.getElem_mapIdx, Option.getD_some]
    rw [if_neg ht]
  · rw [Array.getElem?_eq_none (by rw [actOf_size]; omega), Array.getElem?_eq_none (by omega)]
/-- the same frame, with the values that stand in it -/
theorem actOf_of (a0 : Act) (ds : List Nat) (f g : Nat → Value) (h : ∀ t ∈ ds, f t = g t) : actOf a0 ds f = actOf a0 ds g := by
  refine act_ext ?_ rfl
  refine Array.ext (by simp [actOf]) fun i h1 h2 => ?_
  simp only [actOf, Array.getElem_mapIdx]
  by_cases c : i ∈ ds
  · rw [if_pos c, if_pos c, h i c]
  · rw [if_neg c, if_neg c]
end Go.Proofs.Ytnclnbbnkfolgaa

/- Lists of floats and of numbers that a call appends to: as rows; the first number that may not be transformed, number by number. -/
import Derived.Test.YtnclnbbnkfolgaaOwn
import Derived.Test.YtnclnbbnkfolgaaGuardC6
import Derived.Test.YtnclnbbnkfolgaaArr6
namespace Go.Proofs.Ytnclnbbnkfolgaa
open Go.RowKit

def cc6 (l : List (Nat × Nat)) : List Value := l.flatMap fun x => [.float .f64 x.1, .float .f64 x.2]
theorem cc6_append (l : List (Nat × Nat)) (x y : Nat) : cc6 (l ++ [(x, y)]) = cc6 l ++ [.float .f64 x, .float .f64 y] := by simp [cc6]
theorem cc6_at : ∀ (l : List (Nat × Nat)) (i : Nat) x, l[i]? = some x → (cc6 l)[i * 2]? = some (.float .f64 x.1) ∧ (cc6 l)[i * 2 + 1]? = some (.float .f64 x.2)
  | y :: l, 0, x, h => by cases h; exact ⟨rfl, rfl⟩
  | y :: l, i + 1, x, h => by
    have := cc6_at l i x (by simpa using h)
    have e : cc6 (y :: l) = .float .f64 y.1 :: .float .f64 y.2 :: cc6 l := rfl
    rw [e, show (i + 1) * 2 = i * 2 + 1 + 1 from by omega, show i * 2 + 1 + 1 + 1 = (i * 2 + 1) + 1 + 1 from by omega]
    simpa using this
theorem ownsRow_frozen {w : World} {base size n : Nat} {e : TypeId} {g cap : Nat} {xs : List Value} (h : w.ownsRow base e size (.slice (some ⟨g, 0, none⟩) n cap) n xs) (j : Nat) : w.frozen? ⟨g, j, none⟩ = false := by
  rcases h.2 with ⟨hn, _⟩ | ⟨b, c, cur, hv, hb, hgg, rest⟩
  · cases hn
  · injection hv with h1
    injection h1 with h1
    injection h1 with h1
    subst h1
    exact frozen_of_row _ _ j _ e hgg
theorem CRow6.of {w : World} {v : Value} {l : List (Nat × Nat)} {base : Nat} {e : TypeId} (h : w.ownsRow base e 2 v l.length (cc6 l)) : CRow6 w v l base := by
  refine ⟨?_⟩
  rcases ownsRow_form' h with ⟨h1, h2⟩ | ⟨g, cap, rfl, h1, h2, h3, h4⟩
  · exact Or.inl ⟨h1, List.length_eq_zero_iff.1 h2⟩
  · refine Or.inr ⟨g, cap, rfl, h1, h2, h3, h4, fun i x hx => ?_⟩
    have hc := cc6_at l i x hx
    have hlt := (List.getElem?_eq_some_iff.1 hx).1
    exact ⟨(h.cellAt (i * 2) (by omega)).trans hc.1, (h.cellAt (i * 2 + 1) (by omega)).trans hc.2, ownsRow_frozen h _, ownsRow_frozen h _⟩
theorem FRow6.of {w : World} {v : Value} {l : List Nat} {base : Nat} {e : TypeId} (h : w.ownsRow base e 1 v l.length (l.map (Value.float .f64))) : FRow6 w v l base := by
  refine ⟨?_⟩
  rcases ownsRow_form' h with ⟨h1, h2⟩ | ⟨g, cap, rfl, h1, h2, h3, h4⟩
  · exact Or.inl ⟨h1, List.length_eq_zero_iff.1 h2⟩
  · refine Or.inr ⟨g, cap, rfl, h1, h2, h3, h4, fun i x hx => ?_⟩
    have hlt := (List.getElem?_eq_some_iff.1 hx).1
    exact ⟨by rw [h.cellAt i (by omega), List.getElem?_map, hx]; rfl, ownsRow_frozen h _⟩
theorem ownsRow_lt {w : World} {base size n : Nat} {e : TypeId} {v : Value} {xs : List Value} (h : w.ownsRow base e size v n xs) : ∀ k, v.ownBlock = some k → k < w.heap.size := by
  intro k hk
  rcases ownsRow_form' h with ⟨rfl, _⟩ | ⟨g, cap, rfl, _, hg, _⟩
  · simp [Value.ownBlock] at hk
  · simp [Value.ownBlock] at hk; omega
/-- a block of two made ahead of an append -/
theorem two_grown {w1 w2 : World} {base size n : Nat} {e t : TypeId} {v : Value} {xs : List Value} {x y : Nat} {o : Obj} (h : w1.ownsRow base e size v n xs) (hg : ((w1.alloc (.cells #[.float .f64 x, .float .f64 y] t)).alloc o).grownBy w2 v.ownBlock) : Two w2 w1.heap.size x y := by
  have k := ((Two.newN w1 x y t _ rfl).al o)
  have hl := k.lt
  have hne : some w1.heap.size ≠ v.ownBlock := fun e => by have := ownsRow_lt h _ e.symm; omega
  exact ⟨(World.cell?_of_block (hg.block w1.heap.size hl hne)).trans k.c0, (World.cell?_of_block (hg.block w1.heap.size hl hne)).trans k.c1, (World.frozen?_of_block (hg.block w1.heap.size hl hne)).trans k.z0, (World.frozen?_of_block (hg.block w1.heap.size hl hne)).trans k.z1⟩
/-- the first bad one, once one more number is looked at -/
theorem g6_step (l : List (Nat × Nat)) (c : Nat × Nat) :
    (gErr6 l = 0 ∧ bad6 c = true ∧ gAt6 (l ++ [c]) = (l.length : Int) ∧ gErr6 (l ++ [c]) = 5) ∨ (gErr6 l = 0 ∧ bad6 c = false ∧ gAt6 (l ++ [c]) = gAt6 l ∧ gErr6 (l ++ [c]) = 0) ∨ (gErr6 l = 5 ∧ gAt6 (l ++ [c]) = gAt6 l ∧ gErr6 (l ++ [c]) = 5) := by
  have e := List.findIdx?_append (p := bad6) (xs := l) (ys := [c])
  unfold gErr6 gAt6
  cases hl : l.findIdx? bad6 with
  | some i =>
    rw [hl] at e
    have e : (l ++ [c]).findIdx? bad6 = some i := e
    rw [e]; exact Or.inr (Or.inr ⟨rfl, rfl, rfl⟩)
  | none =>
    rw [hl] at e
    cases hb : bad6 c with
    | true =>
      have e1 : [c].findIdx? bad6 = some 0 := by simp [List.findIdx?_cons, hb]
      rw [e1] at e
      have e : (l ++ [c]).findIdx? bad6 = some l.length := by rw [e]; simp
      rw [e]; exact Or.inl ⟨rfl, rfl, rfl, rfl⟩
    | false =>
      have e1 : [c].findIdx? bad6 = none := by simp [List.findIdx?_cons, hb]
      rw [e1] at e
      have e : (l ++ [c]).findIdx? bad6 = none := by rw [e]; rfl
      rw [e]; exact Or.inr (Or.inl ⟨rfl, rfl, rfl, rfl⟩)
end Go.Proofs.Ytnclnbbnkfolgaa

/- A slice of structs of two cells that a call owns: kept by whatever turns nothing old; its cells. No program is named here. -/
import Derived.Test.YtnclnbbnkfolgaaBase
namespace Go.Proofs.Ytnclnbbnkfolgaa
open Go.RowKit

theorem ownsRow_bel {w w' : World} {base : Nat} {e : TypeId} {size : Nat} {v : Value} {n : Nat} {xs : List Value} (h : w.ownsRow base e size v n xs) (g : Bel w w') : w'.ownsRow base e size v n xs := by
  refine ⟨h.1, ?_⟩
  rcases h.2 with hn | ⟨b, cap, cur, rfl, hb, hgg, rest⟩
  · exact .inl hn
  · exact .inr ⟨b, cap, cur, rfl, hb, by rw [g.block b (Array.getElem?_eq_some_iff.1 hgg).1]; exact hgg, rest⟩
theorem ownsRow_form' {w : World} {base size n : Nat} {e : TypeId} {v : Value} {xs : List Value} (h : w.ownsRow base e size v n xs) : (v = .slice none 0 0 ∧ n = 0) ∨ ∃ g cap, v = .slice (some ⟨g, 0, none⟩) n cap ∧ base ≤ g ∧ g < w.heap.size ∧ n ≤ cap ∧ n ≤ maxLen := by
  rcases h.2 with hn | ⟨b, cap, cur, rfl, hb, hgg, hc, hm, rest⟩
  · exact .inl hn
  · exact .inr ⟨b, cap, rfl, hb, (Array.getElem?_eq_some_iff.1 hgg).1, hc, by omega⟩
end Go.Proofs.Ytnclnbbnkfolgaa

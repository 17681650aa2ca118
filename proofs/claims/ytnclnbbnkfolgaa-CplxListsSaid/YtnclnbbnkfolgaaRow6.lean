/- Lists of floats and of complex numbers in memory; what the landed Pairs and Guard are to answer. -/
import Derived.Test.YtnclnbbnkfolgaaRot6
namespace Go.Proofs.Ytnclnbbnkfolgaa
open Go.RowKit

/-- a list of floats as a slice -/
structure FRow6 (w : World) (v : Value) (l : List Nat) (base : Nat) : Prop where
  form : (v = .slice none 0 0 ∧ l = []) ∨ ∃ g cap, v = .slice (some ⟨g, 0, none⟩) l.length cap ∧ base ≤ g ∧ g < w.heap.size ∧ l.length ≤ cap ∧ l.length ≤ maxLen ∧
    ∀ (i : Nat) x, l[i]? = some x → w.cell? ⟨g, i, none⟩ = some (.float .f64 x) ∧ w.frozen? ⟨g, i, none⟩ = false
/-- a list of complex numbers as a slice -/
structure CRow6 (w : World) (v : Value) (l : List (Nat × Nat)) (base : Nat) : Prop where
  form : (v = .slice none 0 0 ∧ l = []) ∨ ∃ g cap, v = .slice (some ⟨g, 0, none⟩) l.length cap ∧ base ≤ g ∧ g < w.heap.size ∧ l.length ≤ cap ∧ l.length ≤ maxLen ∧
    ∀ (i : Nat) x, l[i]? = some x → w.cell? ⟨g, i * 2, none⟩ = some (.float .f64 x.1) ∧ w.cell? ⟨g, i * 2 + 1, none⟩ = some (.float .f64 x.2) ∧ w.frozen? ⟨g, i * 2, none⟩ = false ∧ w.frozen? ⟨g, i * 2 + 1, none⟩ = false
theorem FRow6.bel {w w' : World} {v : Value} {l : List Nat} {base : Nat} (h : FRow6 w v l base) (k : Bel w w') : FRow6 w' v l base := by
  refine ⟨?_⟩
  rcases h.form with h | ⟨g, cap, h1, h2, h3, h4, h5, h6⟩
  · exact Or.inl h
  · refine Or.inr ⟨g, cap, h1, h2, Nat.lt_of_lt_of_le h3 k.size, h4, h5, fun i x hx => ?_⟩
    obtain ⟨a, b⟩ := h6 i x hx
    exact ⟨(k.cell h3).trans a, (k.frozen h3).trans b⟩
theorem CRow6.bel {w w' : World} {v : Value} {l : List (Nat × Nat)} {base : Nat} (h : CRow6 w v l base) (k : Bel w w') : CRow6 w' v l base := by
  refine ⟨?_⟩
  rcases h.form with h | ⟨g, cap, h1, h2, h3, h4, h5, h6⟩
  · exact Or.inl h
  · refine Or.inr ⟨g, cap, h1, h2, Nat.lt_of_lt_of_le h3 k.size, h4, h5, fun i x hx => ?_⟩
    obtain ⟨a, b, c, d⟩ := h6 i x hx
    exact ⟨(k.cell h3).trans a, (k.cell h3).trans b, (k.frozen h3).trans c, (k.frozen h3).trans d⟩
/-- may a part be transformed? (finite and at most 2^900) -/
def may6 (x : Nat) : Bool := decide (x % 9223372036854775808 ≤ 8660422083433463808)
def bad6 (c : Nat × Nat) : Bool := !may6 c.1 || !may6 c.2
def gAt6 (l : List (Nat × Nat)) : Int := match l.findIdx? bad6 with | none => 0 | some i => (i : Int)
def gErr6 (l : List (Nat × Nat)) : Int := match l.findIdx? bad6 with | none => 0 | some _ => 5
/-- what the landed Pairs is to answer of lists of one length -/
def PairsSaid6 : Prop := ∀ (v v' : Value) (l l' : List Nat) (base : Nat) (w : World), FRow6 w v l base → FRow6 w v' l' base → l.length = l'.length → l.length * 16 ≤ 281474976710656 →
  Calls Try.prog 22 #[v, v'] w fun r w' => ∃ z, r = .returned (.tuple #[z, .int .i64 0]) ∧ CRow6 w' z (l.zip l') w.heap.size ∧ Bel w w'
/-- what the landed Guard is to answer -/
def GuardSaid6 : Prop := ∀ (v : Value) (l : List (Nat × Nat)) (base : Nat) (w : World), CRow6 w v l base → (∀ c ∈ l, W64 c.1 ∧ W64 c.2) →
  Calls Try.prog 20 #[v] w fun r w' => r = .returned (.tuple #[.int .i64 (gAt6 l), .int .i64 (gErr6 l)]) ∧ Bel w w'
theorem CRow6.one {w : World} {v : Value} {x y base : Nat} (h : CRow6 w v [(x, y)] base) : ∃ g cap, v = .slice (some ⟨g, 0, none⟩) 1 cap ∧ base ≤ g ∧ 1 ≤ cap ∧ Two w g x y := by
  rcases h.form with ⟨_, h⟩ | ⟨g, cap, h1, h2, h3, h4, h5, h6⟩
  · cases h
  · obtain ⟨a, b, c, d⟩ := h6 0 (x, y) rfl
    exact ⟨g, cap, h1, h2, h4, a, b, c, d⟩
theorem fr_new6 (w : World) (cs : Array Value) (t : TypeId) (N j : Nat) (h : N = w.heap.size) : (w.alloc (.cells cs t)).frozen? ⟨N, j, none⟩ = false := by
  subst h; exact frozen_of_row _ _ j _ t (heap_alloc_new w _)
theorem FRow6.newOne (w : World) (x : Nat) (t : TypeId) (N base : Nat) (h : N = w.heap.size) (hb : base ≤ N) : FRow6 (w.alloc (.cells #[.float .f64 x] t)) (.slice (some ⟨N, 0, none⟩) 1 1) [x] base := by
  refine ⟨Or.inr ⟨N, 1, rfl, hb, by rw [h]; simp, Nat.le_refl _, (by decide : 1 ≤ maxLen), fun i y hy => ?_⟩⟩
  match i, hy with
  | 0, hy =>
    obtain rfl : x = y := Option.some.inj hy
    exact ⟨World.cell?_alloc_at _ _ _ _ h, fr_new6 _ _ _ _ _ h⟩
theorem CRow6.newOne (w : World) (x y : Nat) (t : TypeId) (N base : Nat) (h : N = w.heap.size) (hb : base ≤ N) : CRow6 (w.alloc (.cells #[.float .f64 x, .float .f64 y] t)) (.slice (some ⟨N, 0, none⟩) 1 1) [(x, y)] base := by
  refine ⟨Or.inr ⟨N, 1, rfl, hb, by rw [h]; simp, Nat.le_refl _, (by decide : 1 ≤ maxLen), fun i z hz => ?_⟩⟩
  match i, hz with
  | 0, hz =>
    obtain rfl : (x, y) = z := Option.some.inj hz
    exact ⟨World.cell?_alloc_at _ _ _ _ h, World.cell?_alloc_at _ _ _ _ h, fr_new6 _ _ _ _ _ h, fr_new6 _ _ _ _ _ h⟩
end Go.Proofs.Ytnclnbbnkfolgaa

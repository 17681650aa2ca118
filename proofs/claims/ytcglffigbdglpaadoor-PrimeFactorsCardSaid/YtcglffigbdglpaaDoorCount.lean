/- prime.countOfCoprimes. -/
import Derived.Test.YtcglffigbdglpaaDoorFactor
import Derived.Test.YtcglffigbdglpaaDoorEuler
namespace Go.Proofs.YtcglffigbdglpaaDoor
open Go.RowKit Dia

/-- a slice of powers, as a loop reads it -/
structure RowAt (w : World) (v : Value) (l : List (Int × Nat)) (base : Nat) : Prop where
  form : (v = .slice none 0 0 ∧ l = []) ∨ ∃ g cap, v = .slice (some ⟨g, 0, none⟩) l.length cap ∧ base ≤ g ∧ g < w.heap.size ∧ l.length ≤ cap ∧ l.length ≤ maxLen ∧
    ∀ (i : Nat) x, l[i]? = some x → w.cell? ⟨g, i * 2, none⟩ = some (.int .i64 x.1) ∧ w.cell? ⟨g, i * 2 + 1, none⟩ = some (.int .i64 (x.2 : Int))
theorem facCells_at : ∀ (l : List (Int × Nat)) (i : Nat) x, l[i]? = some x → (facCells l)[i * 2]? = some (.int .i64 x.1) ∧ (facCells l)[i * 2 + 1]? = some (.int .i64 (x.2 : Int))
  | y :: l, 0, x, h => by cases h; exact ⟨rfl, rfl⟩
  | y :: l, i + 1, x, h => by
    have := facCells_at l i x (by simpa using h)
    have e : facCells (y :: l) = .int .i64 y.1 :: .int .i64 (y.2 : Int) :: facCells l := rfl
    rw [e, show (i + 1) * 2 = i * 2 + 1 + 1 from by omega, show i * 2 + 1 + 1 + 1 = (i * 2 + 1) + 1 + 1 from by omega]
    simpa using this
theorem facCells_len (l : List (Int × Nat)) : (facCells l).length = l.length * 2 := by
  induction l with
  | nil => rfl
  | cons x l ih => have e : facCells (x :: l) = .int .i64 x.1 :: .int .i64 (x.2 : Int) :: facCells l := rfl
                   rw [e]; simp [ih]; omega
theorem RowAt.of {w : World} {v : Value} {l : List (Int × Nat)} {base : Nat} {e : TypeId} (h : w.ownsRow base e 2 v l.length (facCells l)) : RowAt w v l base := by
  refine ⟨?_⟩
  rcases ownsRow_form' h with ⟨h1, h2⟩ | ⟨g, cap, rfl, h1, h2, h3, h4⟩
  · exact Or.inl ⟨h1, List.length_eq_zero_iff.1 h2⟩
  · refine Or.inr ⟨g, cap, rfl, h1, h2, h3, h4, fun i x hx => ?_⟩
    have hc := facCells_at l i x hx
    have hlt := (List.getElem?_eq_some_iff.1 hx).1
    exact ⟨(h.cellAt (i * 2) (by omega)).trans hc.1, (h.cellAt (i * 2 + 1) (by omega)).trans hc.2⟩
theorem RowAt.bel {w w' : World} {v : Value} {l : List (Int × Nat)} {base : Nat} (h : RowAt w v l base) (g : Bel w w') : RowAt w' v l base := by
  refine ⟨?_⟩
  rcases h.form with h | ⟨b, cap, h0, h1, h2, h3, h4, h5⟩
  · exact Or.inl h
  · refine Or.inr ⟨b, cap, h0, h1, by have := g.size; omega, h3, h4, fun i x hx => ?_⟩
    have := h5 i x hx
    rw [g.cell h2, g.cell h2]; exact this

set_option maxHeartbeats 1000000 in
theorem countOfCoprimes_any (n : Int) (w : World) (hB : Bases w) (h1 : 1 ≤ n) (h2 : n ≤ 1099511627776) :
    Calls Tryd.prog 28 #[.int .i64 n] w fun e w' => (∃ l, IsFacB n l ∧ e = .returned (.int .i64 (psi l))) ∧ Bel w w' := by
  go_enter Tryd.func28, Tryd.ntmps28
  go_wp2_with fail
  refine (factor_yes n _ hB h1 h2).mono ?_; rintro e w1 ⟨v, l, rfl, hF, hown, g1⟩
  have hR := RowAt.of hown
  have hlen := hF.len h2
  have hS := CountInv.start hF.eq
  have hx2 : ∀ x ∈ l, 2 ≤ x.1 := fun x hx => isB_two (hF.isb x hx)
  clear hown
  rcases hR.form with ⟨rfl, rfl⟩ | ⟨g, cap, rfl, hg1, hg2, hc, hm, hcells⟩
  · go_wp2_with fail
    go_loopw [3, 10] (fun a b wr => a = .int .i64 n ∧ b = .int .i64 0 ∧ wr = w1) (fun _ _ _ => 0)
    case atStart => exact ⟨rfl, rfl, rfl⟩
    case round =>
      obtain ⟨rfl, rfl, rfl⟩ := hrel
      go_wp2
      go_ret
      exact ⟨⟨[], hF, ret_i64 (hS.done (by simp))⟩, g1⟩
  · go_wp2_with fail
    go_loopw [3, 10] (fun a b wr => ∃ (c : Int) (i : Nat), CountInv l i c ∧ 1 ≤ c ∧ c ≤ n ∧ a = .int .i64 c ∧ b = .int .i64 (i : Int) ∧ Bel w1 wr) (fun _ b _ => (l.length - (intOf b).toNat))
    case atStart => exact ⟨n, 0, hS, by omega, by omega, rfl, rfl, Bel.refl _⟩
    case round =>
      obtain ⟨c, i, hC, c1, cn, rfl, rfl, hb⟩ := hrel
      by_cases hi : i < l.length
      · obtain ⟨x, hx⟩ : ∃ x, l[i]? = some x := ⟨_, List.getElem?_eq_getElem hi⟩
        have hxm := List.mem_of_getElem? hx
        obtain ⟨hN, q0⟩ := hC.next hx2 hF.pos hx
        have hx2' := hx2 x hxm
        obtain ⟨k0, k1⟩ := hcells i x hx
        rw [← hb.cell (by exact hg2)] at k0 k1
        have t0 : (x.1 == 0) = false := by rw [beq_eq_false_iff_ne]; omega
        have n1 := hN.pos hx2
        clear hx
        go_wp2
        exact ⟨⟨_, i + 1, hN, n1, by omega, rfl, by simp, hb.alloc _⟩, by simp [intOf]; omega⟩
      · have hD := Lib.hid (hC.done hi)
        go_wp2
        go_ret
        exact ⟨⟨l, hF, ret_i64 hD.out⟩, g1.trans hb⟩
end Go.Proofs.YtcglffigbdglpaaDoor

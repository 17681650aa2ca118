/- What the statements of layer 2 look at first. -/
import Derived.Test.YtcglffigbdglpaaDoorRoot
namespace Go.Proofs.YtcglffigbdglpaaDoor
open Go.RowKit Dia

theorem isP_of {n : Int} (h : isB n = true) (h2 : n ≤ 4200) : IsP n := isB_small h2 h
theorem isB_2 : isB 2 = true := isB_div (b := 2) (by decide) (by decide) (by decide) (by decide)
theorem isB_3 : isB 3 = true := isB_div (b := 3) (by decide) (by decide) (by decide) (by decide)
theorem isB_7 : isB 7 = true := isB_div (b := 7) (by decide) (by decide) (by decide) (by decide)
theorem fac12 {l : List (Int × Nat)} (h : IsFacB 12 l) : l = [(2, 2), (3, 1)] := by
  refine (h.isFac fun m hm hb => isB_small (by omega) hb).unique ⟨?_, ?_, ?_, ?_⟩
  · intro x hx; simp at hx; rcases hx with rfl | rfl
    · exact isP_of isB_2 (by decide)
    · exact isP_of isB_3 (by decide)
  · intro x hx; simp at hx; rcases hx with rfl | rfl <;> decide
  · simp
  · decide
theorem ord27 : ordS 2 7 = 3 := ordS_eq (by decide) (by decide) (Or.inl ⟨by decide, by decide, fun k h1 h2 => by
  have : k = 1 ∨ k = 2 := by omega
  rcases this with rfl | rfl <;> decide⟩)
theorem ord17 : ordS 1 7 = 1 := ordS_eq (by decide) (by decide) (Or.inl ⟨by decide, by decide, fun k h1 h2 => by omega⟩)
theorem ord37 : ordS 3 7 = 6 := ordS_eq (by decide) (by decide) (Or.inl ⟨by decide, by decide, fun k h1 h2 => by
  have : k = 1 ∨ k = 2 ∨ k = 3 ∨ k = 4 ∨ k = 5 := by omega
  rcases this with rfl | rfl | rfl | rfl | rfl <;> decide⟩)
theorem ord24 : ordS 2 4 = 0 := ordS_eq (by decide) (by decide) (ord_none (by decide) (by decide))
theorem root7 : rootS 7 = 3 := rootS_eq (isP_of isB_7 (by decide)) (by decide) (Or.inl ⟨by decide, by decide, ord37, fun k h1 h2 => by
  have : k = 1 ∨ k = 2 := by omega
  rcases this with rfl | rfl
  · rw [ord17]; decide
  · rw [ord27]; decide⟩)

set_option maxHeartbeats 1000000 in
theorem wakes_any (w : World) (hB : Bases w) :
    Calls Tryd.prog 10 #[] w fun e w' => e = .returned (.bool true) ∧ Bel w w' := by
  go_enter Tryd.func10, Tryd.ntmps10
  go_wp2_with fail
  refine (factor_yes 12 _ hB (by decide) (by decide)).mono ?_; rintro e w1 ⟨v, l, rfl, hF, hown, g1⟩
  have hl := fac12 hF
  subst hl
  have hR := RowAt.of hown
  clear hown hF
  rcases hR.form with ⟨_, h⟩ | ⟨b, cap, rfl, hg1, hg2, hc, hm, hcells⟩
  · simp at h
  · obtain ⟨k0, k1⟩ := hcells 0 _ rfl
    obtain ⟨k2, k3⟩ := hcells 1 _ rfl
    clear hcells
    simp only [List.length_cons, List.length_nil, Nat.zero_add, Nat.zero_mul, Nat.one_mul, Nat.reduceAdd] at k0 k1 k2 k3 hc hm ⊢
    go_wp2_with fail
    refine (order_yes 2 7 _ (hB.bel g1) (by decide) (by decide) fun m hm hb => isB_small (by omega) hb).mono ?_; rintro e w2 ⟨rfl, g2⟩
    have b2 := g1.trans g2
    rw [ord27]
    go_wp2_with fail
    refine (order_yes 2 4 _ (hB.bel b2) (by decide) (by decide) fun m hm hb => isB_small (by omega) hb).mono ?_; rintro e w3 ⟨rfl, g3⟩
    have b3 := b2.trans g3
    rw [ord24]
    go_wp2_with fail
    refine (root_any 7 _ (hB.bel b3) (by decide)).mono ?_; rintro e w4 ⟨rfl, g4⟩
    have b4 := b3.trans g4
    rw [root7]
    go_wp2_with fail
    refine (is_any 2 _ (hB.bel b4)).mono ?_; rintro e w5 ⟨rfl, g5⟩
    have b5 := b4.trans g5
    rw [isB_2]
    go_wp2_with fail
    refine (is_any 1 _ (hB.bel b5)).mono ?_; rintro e w6 ⟨rfl, g6⟩
    rw [isB_out (n := 1) (by decide)]
    go_wp2
    go_ret
    exact ⟨rfl, b5.trans g6⟩
end Go.Proofs.YtcglffigbdglpaaDoor

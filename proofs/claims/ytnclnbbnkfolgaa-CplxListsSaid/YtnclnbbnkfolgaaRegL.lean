/- A region that draws its order, whose last operation waits for all others. -/
import Derived.Test.YtnclnbbnkfolgaaRegG
namespace Go.Proofs.Ytnclnbbnkfolgaa
open Go.RowKit

theorem wp_region_last {P : Program} {ops : Array Oper} {Q : Exit → Act → World → Prop} {pre : Nat → List Nat} {id z : Nat} {w1 : World} (act : (Nat → Value) → Act) (f0 : Nat → Value) (hm : P.follows .mixedOrders = true) (hc : chkN pre ops = true) (hz : z + 1 = ops.size) (hall : ∀ i, i < z → i ∈ pre z)
    (ps : Leaves) (bs : List Blk) (hA : Apart ps bs) (hs : ∀ i, i < z → Does P ops Q pre act ps bs w1 i) (hsz : (∀ c ∈ ps, c.1 < z) ∧ ∀ b ∈ bs, b.a < z ∧ b.s < z)
    (hlast : ∀ f w, Bel w1 w → (∀ c ∈ ps, c.2.2 (f c.2.1)) → Filled bs w1 w f → wpOp P ops Q z (fun a' w' => Q .normal a' w') (act f) w) : (Code.region id ops true).wp P Q (act f0) w1 := by
  refine wp_region_set (pre := pre) hm hc (fun D a w => (D z = false ∧ ∃ f, a = act f ∧ RegI ps bs w1 D f w) ∨ ((∀ i, i < ops.size → D i = true) ∧ Q .normal a w)) (Or.inl ⟨rfl, f0, rfl, (Bel.refl w1).drew, fun _ _ h => absurd h Bool.false_ne_true, fun _ _ h => absurd h Bool.false_ne_true, fun _ _ _ _ _ h => absurd h Bool.false_ne_true, fun _ _ h => absurd h Bool.false_ne_true⟩) ?_ ?_
  · intro D a w i hi hD hp hI
    rcases hI with ⟨hDz, f, rfl, hI⟩ | ⟨hall', _⟩
    · by_cases e : i = z
      · subst e
        have hd : ∀ j, j < i → D j = true := fun j hj => hp j (hall j hj)
        refine wpOp_mono ?_ (hlast f w hI.bel (fun c hc => hI.gv c hc (hd _ (hsz.1 c hc))) ⟨fun b hb => ?_, fun b hb b' hb' hne => hI.ne b hb b' hb' hne (hd _ (hsz.2 b hb).1) (hd _ (hsz.2 b' hb').1)⟩)
        · intro a' w' hq
          refine Or.inr ⟨fun j hj => ?_, hq⟩
          by_cases e2 : j = i
          · subst e2; simp
          · show (D j || j == i) = true
            rw [hd j (by omega)]; rfl
        · obtain ⟨X, α, β, r1, r2, r3, r4⟩ := hI.bk b hb (hd _ (hsz.2 b hb).1)
          exact ⟨X, α, β, r1, r2, r3, r4 (hd _ (hsz.2 b hb).2)⟩
      · have hzD : (D z || z == i) = false := by
          rw [hDz, show (z == i) = false from by rw [beq_eq_false_iff_ne]; exact fun h => e h.symm]; rfl
        cases hs i (by omega) with
        | value t φ hmem h =>
          refine wpOp_mono ?_ (h f w hI.bel fun c hc hj => hI.gv c hc (hp _ hj))
          rintro a' w' ⟨v, rfl, hv, g⟩
          exact Or.inl ⟨hzD, _, rfl, hI.value hA hmem hD hv g⟩
        | alloc b hb hi' ty h =>
          subst hi'
          exact h f w _ (Or.inl ⟨hzD, _, rfl, hI.alloc hA hb hD ty⟩)
        | store b hb hi' ha hvo hφ h =>
          have h1 := hp _ ha
          have h2 := hp _ hvo
          subst hi'
          obtain ⟨φ, hz⟩ := hA.z b hb
          obtain ⟨u, v, hv⟩ := hφ φ hz _ (hI.gv _ hz h2)
          obtain ⟨X, α, β, r1, r2, r3, _⟩ := hI.bk b hb h1
          exact h f w _ X u v α β r1 hv r3 (Or.inl ⟨hzD, _, rfl, hI.store hA hb h1 h2 r1 r2 r3 hv⟩)
    · rw [hall' i hi] at hD
      exact absurd hD (by decide)
  · rintro D a w hD (⟨hDz, _⟩ | ⟨_, hq⟩)
    · rw [hD z (by omega)] at hDz
      exact absurd hDz (by decide)
    · exact hq
end Go.Proofs.Ytnclnbbnkfolgaa

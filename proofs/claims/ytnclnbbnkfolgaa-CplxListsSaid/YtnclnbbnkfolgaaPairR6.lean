/- The region of Pairs' loop that draws its order. -/
import Derived.Test.YtnclnbbnkfolgaaStepM
import Derived.Test.YtnclnbbnkfolgaaRegP
import Derived.Test.YtnclnbbnkfolgaaStepC
import Derived.Test.YtnclnbbnkfolgaaArr6
namespace Go.Proofs.Ytnclnbbnkfolgaa
open Go.RowKit
set_option linter.unusedVariables false

def pairs_regPre (i : Nat) : List Nat := match i with | 4 => [2, 3] | 5 => [4] | 8 => [6, 7] | 9 => [8] | 10 => [5, 9] | 11 => [0, 1, 2, 3, 4, 5, 6, 7, 8, 9, 10] | 12 => [0, 1, 2, 3, 4, 5, 6, 7, 8, 9, 10, 11] | _ => []
def pairs_regIts : Its := [(0, 21), (1, 22), (2, 23), (3, 24), (4, 25), (5, 26), (6, 27), (7, 28), (8, 29), (9, 30), (10, 31), (11, 32)]
def pairs_regPhi (G H L n c d e m : Nat) (F E : Nat → Nat) (i : Nat) (z : Value) : Prop := match i with
  | 0 => z = .slice (some ⟨L, 0, none⟩) n e
  | 1 => z = .int .i64 (m : Int)
  | 2 => z = .slice (some ⟨G, 0, none⟩) n c
  | 3 => z = .int .i64 (m : Int)
  | 4 => z = .pointer (some ⟨G, m, none⟩)
  | 5 => z = .float .f64 (F m)
  | 6 => z = .slice (some ⟨H, 0, none⟩) n d
  | 7 => z = .int .i64 (m : Int)
  | 8 => z = .pointer (some ⟨H, m, none⟩)
  | 9 => z = .float .f64 (E m)
  | 10 => z = dv (F m) (E m)
  | 11 => z = .pointer (some ⟨L, m * 2, none⟩)
  | _ => True
set_option maxHeartbeats 4000000 in
theorem pairs_reg {Q : Exit → Act → World → Prop} {ops : Array Oper} {id : Nat} {w1 : World} (a0 : Act) (G H L n c d e m : Nat) (F E : Nat → Nat)
    (k0 : OpAt ops 0 (some 21) (.move (.tmp 6)) none)
    (k1 : OpAt ops 1 (some 22) (.move (.tmp 7)) none)
    (k2 : OpAt ops 2 (some 23) (.move (.tmp 0)) none)
    (k3 : OpAt ops 3 (some 24) (.move (.tmp 7)) none)
    (k4 : OpAt ops 4 (some 25) (.indexAddr 45 (.tmp 23) (.tmp 24)) none)
    (k5 : OpAt ops 5 (some 26) (.load 23 (.tmp 25)) none)
    (k6 : OpAt ops 6 (some 27) (.move (.tmp 1)) none)
    (k7 : OpAt ops 7 (some 28) (.move (.tmp 7)) none)
    (k8 : OpAt ops 8 (some 29) (.indexAddr 45 (.tmp 27) (.tmp 28)) none)
    (k9 : OpAt ops 9 (some 30) (.load 23 (.tmp 29)) none)
    (k10 : OpAt ops 10 (some 31) (.build 25 #[(0, (.tmp 26)), (1, (.tmp 30))]) none)
    (k11 : OpAt ops 11 (some 32) (.indexAddr 38 (.tmp 21) (.tmp 22)) none)
    (k12 : OpAt ops 12 none (.store 25 (.tmp 32) (.tmp 31)) none)
    (hn : ops.size = 13) (hchk : chkN pairs_regPre ops = true) (hsz : a0.tmps.size = 35) (e0 : a0.eval (.tmp 0) = .slice (some ⟨G, 0, none⟩) n c) (e1 : a0.eval (.tmp 1) = .slice (some ⟨H, 0, none⟩) n d) (e6 : a0.eval (.tmp 6) = .slice (some ⟨L, 0, none⟩) n e) (e7 : a0.eval (.tmp 7) = .int .i64 (m : Int)) 
    (hlt : m < n) (tF : FArr w1 G n F) (gF : G < w1.heap.size) (tE : FArr w1 H n E) (gE : H < w1.heap.size)
    (hQ : ∀ f w, Bel w1 w → (actOf a0 [21, 22, 23, 24, 25, 26, 27, 28, 29, 30, 31, 32] f).eval (.tmp 32) = .pointer (some ⟨L, m * 2, none⟩) → (actOf a0 [21, 22, 23, 24, 25, 26, 27, 28, 29, 30, 31, 32] f).eval (.tmp 31) = dv (F m) (E m) → ∀ o, ops[12]? = some o → o.dst = none → o.op = .store 25 (.tmp 32) (.tmp 31) → o.guard = none → wpOp Try.prog ops Q 12 (fun a' w' => Q .normal a' w') (actOf a0 [21, 22, 23, 24, 25, 26, 27, 28, 29, 30, 31, 32] f) w) : (Code.region id ops true).wp Try.prog Q a0 w1 := by
  obtain ⟨ds, hds⟩ : ∃ ds, ds = [21, 22, 23, 24, 25, 26, 27, 28, 29, 30, 31, 32] := ⟨_, rfl⟩
  rw [← hds] at hQ
  have out : ∀ f t, t ∉ ds → (actOf a0 ds f).eval (.tmp t) = a0.eval (.tmp t) := fun f t h => actOf_out a0 _ f h
  have inn : ∀ f t, t ∈ ds → t < 35 → (actOf a0 ds f).eval (.tmp t) = f t := fun f t h h2 => actOf_in a0 _ f h (by rw [hsz]; exact h2)
  rw [← actOf_self a0 ds]
  refine wp_region_pl (pre := pairs_regPre) (actOf a0 ds) (fun t => a0.eval (.tmp t)) (by kernel_rfl) hchk (z := 12) (by rw [hn]) (by decide) pairs_regIts (pairs_regPhi G H L n c d e m F E) [] (by decide +kernel) ?_ ?_
  · intro i hi
    have hi : i < 12 := hi
    match i, hi with
    | 0, _ =>
      obtain ⟨o, o1, o2, o3, o4⟩ := k0
      exact does_val 21 (by decide) fun f w hB h => wpOp_go o1 o4 (step_move (d := some 21) o2 (Or.inl o3) ((out f 6 (by rw [hds]; decide)).trans e6) ⟨_, (actOf_put _ _ _ (by rw [hds]; decide) _), rfl, Bel.refl _⟩)
    | 1, _ =>
      obtain ⟨o, o1, o2, o3, o4⟩ := k1
      exact does_val 22 (by decide) fun f w hB h => wpOp_go o1 o4 (step_move (d := some 22) o2 (Or.inl o3) ((out f 7 (by rw [hds]; decide)).trans e7) ⟨_, (actOf_put _ _ _ (by rw [hds]; decide) _), rfl, Bel.refl _⟩)
    | 2, _ =>
      obtain ⟨o, o1, o2, o3, o4⟩ := k2
      exact does_val 23 (by decide) fun f w hB h => wpOp_go o1 o4 (step_move (d := some 23) o2 (Or.inl o3) ((out f 0 (by rw [hds]; decide)).trans e0) ⟨_, (actOf_put _ _ _ (by rw [hds]; decide) _), rfl, Bel.refl _⟩)
    | 3, _ =>
      obtain ⟨o, o1, o2, o3, o4⟩ := k3
      exact does_val 24 (by decide) fun f w hB h => wpOp_go o1 o4 (step_move (d := some 24) o2 (Or.inl o3) ((out f 7 (by rw [hds]; decide)).trans e7) ⟨_, (actOf_put _ _ _ (by rw [hds]; decide) _), rfl, Bel.refl _⟩)
    | 4, _ =>
      obtain ⟨o, o1, o2, o3, o4⟩ := k4
      exact does_val 25 (by decide) fun f w hB h => wpOp_go o1 o4 (step_indexM (d := some 25) o2 o3 ((inn f 23 (by rw [hds]; decide) (by decide)).trans (h 2 23 (by decide) (by decide))) ((inn f 24 (by rw [hds]; decide) (by decide)).trans (h 3 24 (by decide) (by decide))) (index_f _ _ _ _ hlt _) ⟨_, (actOf_put _ _ _ (by rw [hds]; decide) _), rfl, Bel.refl _⟩)
    | 5, _ =>
      obtain ⟨o, o1, o2, o3, o4⟩ := k5
      exact does_val 26 (by decide) fun f w hB h => wpOp_go o1 o4 (step_load (d := some 26) o2 o3 ((inn f 25 (by rw [hds]; decide) (by decide)).trans (h 4 25 (by decide) (by decide))) (load_float ((tF.bel hB gF).c m hlt)) ⟨_, (actOf_put _ _ _ (by rw [hds]; decide) _), rfl, Bel.refl _⟩)
    | 6, _ =>
      obtain ⟨o, o1, o2, o3, o4⟩ := k6
      exact does_val 27 (by decide) fun f w hB h => wpOp_go o1 o4 (step_move (d := some 27) o2 (Or.inl o3) ((out f 1 (by rw [hds]; decide)).trans e1) ⟨_, (actOf_put _ _ _ (by rw [hds]; decide) _), rfl, Bel.refl _⟩)
    | 7, _ =>
      obtain ⟨o, o1, o2, o3, o4⟩ := k7
      exact does_val 28 (by decide) fun f w hB h => wpOp_go o1 o4 (step_move (d := some 28) o2 (Or.inl o3) ((out f 7 (by rw [hds]; decide)).trans e7) ⟨_, (actOf_put _ _ _ (by rw [hds]; decide) _), rfl, Bel.refl _⟩)
    | 8, _ =>
      obtain ⟨o, o1, o2, o3, o4⟩ := k8
      exact does_val 29 (by decide) fun f w hB h => wpOp_go o1 o4 (step_indexM (d := some 29) o2 o3 ((inn f 27 (by rw [hds]; decide) (by decide)).trans (h 6 27 (by decide) (by decide))) ((inn f 28 (by rw [hds]; decide) (by decide)).trans (h 7 28 (by decide) (by decide))) (index_f _ _ _ _ hlt _) ⟨_, (actOf_put _ _ _ (by rw [hds]; decide) _), rfl, Bel.refl _⟩)
    | 9, _ =>
      obtain ⟨o, o1, o2, o3, o4⟩ := k9
      exact does_val 30 (by decide) fun f w hB h => wpOp_go o1 o4 (step_load (d := some 30) o2 o3 ((inn f 29 (by rw [hds]; decide) (by decide)).trans (h 8 29 (by decide) (by decide))) (load_float ((tE.bel hB gE).c m hlt)) ⟨_, (actOf_put _ _ _ (by rw [hds]; decide) _), rfl, Bel.refl _⟩)
    | 10, _ =>
      obtain ⟨o, o1, o2, o3, o4⟩ := k10
      exact does_val 31 (by decide) fun f w hB h => wpOp_go o1 o4 (step_build2 (d := some 31) o2 o3 ((inn f 26 (by rw [hds]; decide) (by decide)).trans (h 5 26 (by decide) (by decide))) ((inn f 30 (by rw [hds]; decide) (by decide)).trans (h 9 30 (by decide) (by decide))) build_2C ⟨_, (actOf_put _ _ _ (by rw [hds]; decide) _), rfl, Bel.refl _⟩)
    | 11, _ =>
      obtain ⟨o, o1, o2, o3, o4⟩ := k11
      exact does_val 32 (by decide) fun f w hB h => wpOp_go o1 o4 (step_indexM (d := some 32) o2 o3 ((inn f 21 (by rw [hds]; decide) (by decide)).trans (h 0 21 (by decide) (by decide))) ((inn f 22 (by rw [hds]; decide) (by decide)).trans (h 1 22 (by decide) (by decide))) (index_c _ _ _ _ hlt _) ⟨_, (actOf_put _ _ _ (by rw [hds]; decide) _), rfl, Bel.refl _⟩)
    | (m + 12), hi => exact absurd hi (by omega)
  · intro f w hB h _
    obtain ⟨o, o1, o2, o3, o4⟩ := k12
    exact hQ f w hB ((inn f 32 (by rw [hds]; decide) (by decide)).trans (h 11 32 (by decide))) ((inn f 31 (by rw [hds]; decide) (by decide)).trans (h 10 31 (by decide))) o o1 o2 o3 o4
end Go.Proofs.Ytnclnbbnkfolgaa

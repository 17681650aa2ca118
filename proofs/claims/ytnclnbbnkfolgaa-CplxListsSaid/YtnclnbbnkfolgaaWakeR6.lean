/- The region of law 6's wakes that draws its order. -/
import Derived.Test.YtnclnbbnkfolgaaEqC
import Derived.Test.YtnclnbbnkfolgaaRegP
import Derived.Test.YtnclnbbnkfolgaaStepC
import Derived.Test.YtnclnbbnkfolgaaSame6
namespace Go.Proofs.Ytnclnbbnkfolgaa
open Go.RowKit
set_option linter.unusedVariables false

def wake_regPre (i : Nat) : List Nat := match i with | 2 => [0, 1] | 4 => [2, 3] | 5 => [2, 4] | 6 => [5] | 7 => [5, 6] | 8 => [5] | 9 => [5, 7, 8] | 10 => [5, 9] | 11 => [7, 10] | 12 => [11] | 13 => [11, 12] | 14 => [11, 13] | 15 => [11, 14] | 16 => [15] | 17 => [15, 16] | 18 => [15, 17] | 19 => [15, 18] | 20 => [15, 19] | 21 => [20] | 22 => [20, 21] | 23 => [20, 22] | 24 => [20] | 25 => [20, 23, 24] | 26 => [20, 25] | 27 => [20, 26] | 28 => [27] | 29 => [27, 28] | 30 => [27, 29] | 31 => [0, 1, 2, 3, 4, 5, 6, 7, 8, 9, 10, 11, 12, 13, 14, 15, 16, 17, 18, 19, 20, 21, 22, 23, 24, 25, 26, 27, 28, 29, 30] | _ => []
def wake_regIts : Its := [(0, 19), (1, 20), (2, 21), (3, 22), (4, 23), (5, 24), (6, 25), (7, 26), (8, 27), (9, 28), (10, 29), (11, 30), (12, 31), (13, 32), (14, 33), (15, 34), (16, 35), (17, 36), (18, 37), (19, 38), (20, 39), (21, 40), (22, 41), (23, 42), (24, 43), (25, 44), (26, 45), (27, 46), (28, 47), (29, 48), (30, 49), (31, 0)]
def wake_regPhi (A G cap : Nat) (i : Nat) (z : Value) : Prop := match i with
  | 0 => z = dv 4607182418800017408 4611686018427387904
  | 1 => z = dv 4613937818241073152 4616189618054758400
  | 2 => z = dv 13840687554816376832 4621819117588971520
  | 3 => z = dv 13840687554816376832 4621819117588971520
  | 4 => z = .bool true
  | 5 => z = .bool true
  | 6 => z = dv 4607182418800017408 4611686018427387904
  | 7 => z = dv 13835058055282163712 4607182418800017408
  | 8 => z = dv 13835058055282163712 4607182418800017408
  | 9 => z = .bool true
  | 10 => z = .bool true
  | 11 => z = .bool true
  | 12 => z = .int .i64 0
  | 13 => z = .bool true
  | 14 => z = .bool true
  | 15 => z = .bool true
  | 16 => z = .slice (some ⟨G, 0, none⟩) 1 cap
  | 17 => z = .int .i64 (1 : Int)
  | 18 => z = .bool true
  | 19 => z = .bool true
  | 20 => z = .bool true
  | 21 => z = .slice (some ⟨G, 0, none⟩) 1 cap
  | 22 => z = .pointer (some ⟨G, 0, none⟩)
  | 23 => z = dv 4607182418800017408 4611686018427387904
  | 24 => z = dv 4607182418800017408 4611686018427387904
  | 25 => z = .bool true
  | 26 => z = .bool true
  | 27 => z = .bool true
  | 28 => z = .int .i64 5
  | 29 => z = .bool true
  | 30 => z = .bool true
  | 31 => z = .bool true
  | _ => True
set_option maxHeartbeats 4000000 in
theorem wake_reg {Q : Exit → Act → World → Prop} {ops : Array Oper} {id : Nat} {w1 : World} (a0 : Act) (A G cap : Nat)
    (k0 : OpAt ops 0 (some 19) (.load 25 (.tmp 1)) none)
    (k1 : OpAt ops 1 (some 20) (.build 25 #[(0, (.const (.float .f64 4613937818241073152))), (1, (.const (.float .f64 4616189618054758400)))]) none)
    (k2 : OpAt ops 2 (some 21) (.call { callee := .value (.func 16), args := #[.tmp 19, .tmp 20], argTypes := #[25, 25] }) none)
    (k3 : OpAt ops 3 (some 22) (.build 25 #[(0, (.const (.float .f64 13840687554816376832))), (1, (.const (.float .f64 4621819117588971520)))]) none)
    (k4 : OpAt ops 4 (some 23) (.binOp .eql 25 (.tmp 21) (.tmp 22) 25) none)
    (k5 : OpAt ops 5 (some 24) (.move (.tmp 23)) none)
    (k6 : OpAt ops 6 (some 25) (.load 25 (.tmp 1)) (some (5, true)))
    (k7 : OpAt ops 7 (some 26) (.call { callee := .value (.func 18), args := #[.tmp 25, .const (.int .i64 1)], argTypes := #[25, 3] }) (some (5, true)))
    (k8 : OpAt ops 8 (some 27) (.build 25 #[(0, (.const (.float .f64 13835058055282163712))), (1, (.const (.float .f64 4607182418800017408)))]) (some (5, true)))
    (k9 : OpAt ops 9 (some 28) (.binOp .eql 25 (.tmp 26) (.tmp 27) 25) (some (5, true)))
    (k10 : OpAt ops 10 (some 29) (.pick (.tmp 24) (.tmp 28) (.const (.bool false))) none)
    (k11 : OpAt ops 11 (some 30) (.move (.tmp 29)) none)
    (k12 : OpAt ops 12 (some 31) (.move (.tmp 3)) (some (11, true)))
    (k13 : OpAt ops 13 (some 32) (.binOp .eql 39 (.tmp 31) (.const (.int .i64 0)) 39) (some (11, true)))
    (k14 : OpAt ops 14 (some 33) (.pick (.tmp 30) (.tmp 32) (.const (.bool false))) none)
    (k15 : OpAt ops 15 (some 34) (.move (.tmp 33)) none)
    (k16 : OpAt ops 16 (some 35) (.move (.tmp 2)) (some (15, true)))
    (k17 : OpAt ops 17 (some 36) (.call { callee := .builtin Builtin.len, args := #[.tmp 35], argTypes := #[38] }) (some (15, true)))
    (k18 : OpAt ops 18 (some 37) (.binOp .eql 3 (.tmp 36) (.const (.int .i64 1)) 3) (some (15, true)))
    (k19 : OpAt ops 19 (some 38) (.pick (.tmp 34) (.tmp 37) (.const (.bool false))) none)
    (k20 : OpAt ops 20 (some 39) (.move (.tmp 38)) none)
    (k21 : OpAt ops 21 (some 40) (.move (.tmp 2)) (some (20, true)))
    (k22 : OpAt ops 22 (some 41) (.indexAddr 38 (.tmp 40) (.const (.int .i64 0))) (some (20, true)))
    (k23 : OpAt ops 23 (some 42) (.load 25 (.tmp 41)) (some (20, true)))
    (k24 : OpAt ops 24 (some 43) (.load 25 (.tmp 1)) (some (20, true)))
    (k25 : OpAt ops 25 (some 44) (.binOp .eql 25 (.tmp 42) (.tmp 43) 25) (some (20, true)))
    (k26 : OpAt ops 26 (some 45) (.pick (.tmp 39) (.tmp 44) (.const (.bool false))) none)
    (k27 : OpAt ops 27 (some 46) (.move (.tmp 45)) none)
    (k28 : OpAt ops 28 (some 47) (.move (.tmp 5)) (some (27, true)))
    (k29 : OpAt ops 29 (some 48) (.binOp .eql 39 (.tmp 47) (.const (.int .i64 5)) 39) (some (27, true)))
    (k30 : OpAt ops 30 (some 49) (.pick (.tmp 46) (.tmp 48) (.const (.bool false))) none)
    (k31 : OpAt ops 31 (some 0) (.assign (.tmp 49)) none)
    (hn : ops.size = 32) (hchk : chkN wake_regPre ops = true) (hsz : a0.tmps.size = 50) (e1 : a0.eval (.tmp 1) = .pointer (some ⟨A, 0, none⟩)) (e2 : a0.eval (.tmp 2) = .slice (some ⟨G, 0, none⟩) 1 cap) (e3 : a0.eval (.tmp 3) = .int .i64 0) (e5 : a0.eval (.tmp 5) = .int .i64 5) (tA : Two w1 A 4607182418800017408 4611686018427387904) (tG : Two w1 G 4607182418800017408 4611686018427387904)
    (h1 : ∀ w, Calls Try.prog 16 #[dv 4607182418800017408 4611686018427387904, dv 4613937818241073152 4616189618054758400] w fun r w' => r = .returned (dv 13840687554816376832 4621819117588971520) ∧ Bel w w')
    (h2 : ∀ w, Calls Try.prog 18 #[dv 4607182418800017408 4611686018427387904, .int .i64 1] w fun r w' => r = .returned (dv 13835058055282163712 4607182418800017408) ∧ Bel w w')
    (hQ : ∀ f w, Bel w1 w → ((f 0) = .bool true) → Q .normal (actOf a0 [19, 20, 21, 22, 23, 24, 25, 26, 27, 28, 29, 30, 31, 32, 33, 34, 35, 36, 37, 38, 39, 40, 41, 42, 43, 44, 45, 46, 47, 48, 49, 0] f) w) : (Code.region id ops true).wp Try.prog Q a0 w1 := by
  obtain ⟨ds, hds⟩ : ∃ ds, ds = [19, 20, 21, 22, 23, 24, 25, 26, 27, 28, 29, 30, 31, 32, 33, 34, 35, 36, 37, 38, 39, 40, 41, 42, 43, 44, 45, 46, 47, 48, 49, 0] := ⟨_, rfl⟩
  rw [← hds] at hQ
  have out : ∀ f t, t ∉ ds → (actOf a0 ds f).eval (.tmp t) = a0.eval (.tmp t) := fun f t h => actOf_out a0 _ f h
  have inn : ∀ f t, t ∈ ds → t < 50 → (actOf a0 ds f).eval (.tmp t) = f t := fun f t h h2 => actOf_in a0 _ f h (by rw [hsz]; exact h2)
  rw [← actOf_self a0 ds]
  refine wp_region_pv (pre := wake_regPre) (actOf a0 ds) (fun t => a0.eval (.tmp t)) (by kernel_rfl) hchk wake_regIts (wake_regPhi A G cap) [] (by rw [hn]; decide +kernel) ?_ ?_
  · intro i hi
    rw [hn] at hi
    match i, hi with
    | 0, _ =>
      obtain ⟨o, o1, o2, o3, o4⟩ := k0
      exact does_val 19 (by decide) fun f w hB h => wpOp_go o1 o4 (step_load (d := some 19) o2 o3 ((out f 1 (by rw [hds]; decide)).trans e1) (load_numC (tA.by hB)) ⟨_, (actOf_put _ _ _ (by rw [hds]; decide) _), rfl, Bel.refl _⟩)
    | 1, _ =>
      obtain ⟨o, o1, o2, o3, o4⟩ := k1
      exact does_val 20 (by decide) fun f w hB h => wpOp_go o1 o4 (step_build2 (d := some 20) o2 o3 rfl rfl build_2C ⟨_, (actOf_put _ _ _ (by rw [hds]; decide) _), rfl, Bel.refl _⟩)
    | 2, _ =>
      obtain ⟨o, o1, o2, o3, o4⟩ := k2
      exact does_val 21 (by decide) fun f w hB h => wpOp_go o1 o4 (step_callN2 (d := some 21) o2 o3 ((inn f 19 (by rw [hds]; decide) (by decide)).trans (h 0 19 (by decide) (by decide))) ((inn f 20 (by rw [hds]; decide) (by decide)).trans (h 1 20 (by decide) (by decide))) (by kernel_rfl) ((h1 _).mono fun _ _ ⟨k1, k2⟩ => ⟨_, k1, _, (actOf_put _ _ _ (by rw [hds]; decide) _), rfl, k2⟩))
    | 3, _ =>
      obtain ⟨o, o1, o2, o3, o4⟩ := k3
      exact does_val 22 (by decide) fun f w hB h => wpOp_go o1 o4 (step_build2 (d := some 22) o2 o3 rfl rfl build_2C ⟨_, (actOf_put _ _ _ (by rw [hds]; decide) _), rfl, Bel.refl _⟩)
    | 4, _ =>
      obtain ⟨o, o1, o2, o3, o4⟩ := k4
      exact does_val 23 (by decide) fun f w hB h => wpOp_go o1 o4 (step_bin (d := some 23) o2 o3 ((inn f 21 (by rw [hds]; decide) (by decide)).trans (h 2 21 (by decide) (by decide))) ((inn f 22 (by rw [hds]; decide) (by decide)).trans (h 3 22 (by decide) (by decide))) (grd_eq _ _ _ _ _ _ _) (run_eql_C (by decide +kernel) (by decide +kernel) _) ⟨_, (actOf_put _ _ _ (by rw [hds]; decide) _), rfl, Bel.refl _⟩)
    | 5, _ =>
      obtain ⟨o, o1, o2, o3, o4⟩ := k5
      exact does_val 24 (by decide) fun f w hB h => wpOp_go o1 o4 (step_move (d := some 24) o2 (Or.inl o3) ((inn f 23 (by rw [hds]; decide) (by decide)).trans (h 4 23 (by decide) (by decide))) ⟨_, (actOf_put _ _ _ (by rw [hds]; decide) _), rfl, Bel.refl _⟩)
    | 6, _ =>
      obtain ⟨o, o1, o2, o3, o4⟩ := k6
      exact does_val 25 (by decide) fun f w hB h => wpOp_if o1 o4 k5.dst ((inn f 24 (by rw [hds]; decide) (by decide)).trans (h 5 24 (by decide) (by decide))) (step_load (d := some 25) o2 o3 ((out f 1 (by rw [hds]; decide)).trans e1) (load_numC (tA.by hB)) ⟨_, (actOf_put _ _ _ (by rw [hds]; decide) _), rfl, Bel.refl _⟩)
    | 7, _ =>
      obtain ⟨o, o1, o2, o3, o4⟩ := k7
      exact does_val 26 (by decide) fun f w hB h => wpOp_if o1 o4 k5.dst ((inn f 24 (by rw [hds]; decide) (by decide)).trans (h 5 24 (by decide) (by decide))) (step_callN2 (d := some 26) o2 o3 ((inn f 25 (by rw [hds]; decide) (by decide)).trans (h 6 25 (by decide) (by decide))) rfl (by kernel_rfl) ((h2 _).mono fun _ _ ⟨k1, k2⟩ => ⟨_, k1, _, (actOf_put _ _ _ (by rw [hds]; decide) _), rfl, k2⟩))
    | 8, _ =>
      obtain ⟨o, o1, o2, o3, o4⟩ := k8
      exact does_val 27 (by decide) fun f w hB h => wpOp_if o1 o4 k5.dst ((inn f 24 (by rw [hds]; decide) (by decide)).trans (h 5 24 (by decide) (by decide))) (step_build2 (d := some 27) o2 o3 rfl rfl build_2C ⟨_, (actOf_put _ _ _ (by rw [hds]; decide) _), rfl, Bel.refl _⟩)
    | 9, _ =>
      obtain ⟨o, o1, o2, o3, o4⟩ := k9
      exact does_val 28 (by decide) fun f w hB h => wpOp_if o1 o4 k5.dst ((inn f 24 (by rw [hds]; decide) (by decide)).trans (h 5 24 (by decide) (by decide))) (step_bin (d := some 28) o2 o3 ((inn f 26 (by rw [hds]; decide) (by decide)).trans (h 7 26 (by decide) (by decide))) ((inn f 27 (by rw [hds]; decide) (by decide)).trans (h 8 27 (by decide) (by decide))) (grd_eq _ _ _ _ _ _ _) (run_eql_C (by decide +kernel) (by decide +kernel) _) ⟨_, (actOf_put _ _ _ (by rw [hds]; decide) _), rfl, Bel.refl _⟩)
    | 10, _ =>
      obtain ⟨o, o1, o2, o3, o4⟩ := k10
      exact does_val 29 (by decide) fun f w hB h => wpOp_go o1 o4 (step_pick (d := some 29) o2 o3 ((inn f 24 (by rw [hds]; decide) (by decide)).trans (h 5 24 (by decide) (by decide))) ((inn f 28 (by rw [hds]; decide) (by decide)).trans (h 9 28 (by decide) (by decide))) ⟨_, (actOf_put _ _ _ (by rw [hds]; decide) _), rfl, Bel.refl _⟩)
    | 11, _ =>
      obtain ⟨o, o1, o2, o3, o4⟩ := k11
      exact does_val 30 (by decide) fun f w hB h => wpOp_go o1 o4 (step_move (d := some 30) o2 (Or.inl o3) ((inn f 29 (by rw [hds]; decide) (by decide)).trans (h 10 29 (by decide) (by decide))) ⟨_, (actOf_put _ _ _ (by rw [hds]; decide) _), rfl, Bel.refl _⟩)
    | 12, _ =>
      obtain ⟨o, o1, o2, o3, o4⟩ := k12
      exact does_val 31 (by decide) fun f w hB h => wpOp_if o1 o4 k11.dst ((inn f 30 (by rw [hds]; decide) (by decide)).trans (h 11 30 (by decide) (by decide))) (step_move (d := some 31) o2 (Or.inl o3) ((out f 3 (by rw [hds]; decide)).trans e3) ⟨_, (actOf_put _ _ _ (by rw [hds]; decide) _), rfl, Bel.refl _⟩)
    | 13, _ =>
      obtain ⟨o, o1, o2, o3, o4⟩ := k13
      exact does_val 32 (by decide) fun f w hB h => wpOp_if o1 o4 k11.dst ((inn f 30 (by rw [hds]; decide) (by decide)).trans (h 11 30 (by decide) (by decide))) (step_bin (d := some 32) o2 o3 ((inn f 31 (by rw [hds]; decide) (by decide)).trans (h 12 31 (by decide) (by decide))) rfl (grd_int _ _ _ _ _ _) (by simp [go_sem]) ⟨_, (actOf_put _ _ _ (by rw [hds]; decide) _), rfl, Bel.refl _⟩)
    | 14, _ =>
      obtain ⟨o, o1, o2, o3, o4⟩ := k14
      exact does_val 33 (by decide) fun f w hB h => wpOp_go o1 o4 (step_pick (d := some 33) o2 o3 ((inn f 30 (by rw [hds]; decide) (by decide)).trans (h 11 30 (by decide) (by decide))) ((inn f 32 (by rw [hds]; decide) (by decide)).trans (h 13 32 (by decide) (by decide))) ⟨_, (actOf_put _ _ _ (by rw [hds]; decide) _), rfl, Bel.refl _⟩)
    | 15, _ =>
      obtain ⟨o, o1, o2, o3, o4⟩ := k15
      exact does_val 34 (by decide) fun f w hB h => wpOp_go o1 o4 (step_move (d := some 34) o2 (Or.inl o3) ((inn f 33 (by rw [hds]; decide) (by decide)).trans (h 14 33 (by decide) (by decide))) ⟨_, (actOf_put _ _ _ (by rw [hds]; decide) _), rfl, Bel.refl _⟩)
    | 16, _ =>
      obtain ⟨o, o1, o2, o3, o4⟩ := k16
      exact does_val 35 (by decide) fun f w hB h => wpOp_if o1 o4 k15.dst ((inn f 34 (by rw [hds]; decide) (by decide)).trans (h 15 34 (by decide) (by decide))) (step_move (d := some 35) o2 (Or.inl o3) ((out f 2 (by rw [hds]; decide)).trans e2) ⟨_, (actOf_put _ _ _ (by rw [hds]; decide) _), rfl, Bel.refl _⟩)
    | 17, _ =>
      obtain ⟨o, o1, o2, o3, o4⟩ := k17
      exact does_val 36 (by decide) fun f w hB h => wpOp_if o1 o4 k15.dst ((inn f 34 (by rw [hds]; decide) (by decide)).trans (h 15 34 (by decide) (by decide))) (step_lenC (n := 1) (d := some 36) o2 o3 ((inn f 35 (by rw [hds]; decide) (by decide)).trans (h 16 35 (by decide) (by decide))) ⟨_, (actOf_put _ _ _ (by rw [hds]; decide) _), rfl, Bel.refl _⟩)
    | 18, _ =>
      obtain ⟨o, o1, o2, o3, o4⟩ := k18
      exact does_val 37 (by decide) fun f w hB h => wpOp_if o1 o4 k15.dst ((inn f 34 (by rw [hds]; decide) (by decide)).trans (h 15 34 (by decide) (by decide))) (step_bin (d := some 37) o2 o3 ((inn f 36 (by rw [hds]; decide) (by decide)).trans (h 17 36 (by decide) (by decide))) rfl (grd_int _ _ _ _ _ _) (by simp [go_sem]) ⟨_, (actOf_put _ _ _ (by rw [hds]; decide) _), rfl, Bel.refl _⟩)
    | 19, _ =>
      obtain ⟨o, o1, o2, o3, o4⟩ := k19
      exact does_val 38 (by decide) fun f w hB h => wpOp_go o1 o4 (step_pick (d := some 38) o2 o3 ((inn f 34 (by rw [hds]; decide) (by decide)).trans (h 15 34 (by decide) (by decide))) ((inn f 37 (by rw [hds]; decide) (by decide)).trans (h 18 37 (by decide) (by decide))) ⟨_, (actOf_put _ _ _ (by rw [hds]; decide) _), rfl, Bel.refl _⟩)
    | 20, _ =>
      obtain ⟨o, o1, o2, o3, o4⟩ := k20
      exact does_val 39 (by decide) fun f w hB h => wpOp_go o1 o4 (step_move (d := some 39) o2 (Or.inl o3) ((inn f 38 (by rw [hds]; decide) (by decide)).trans (h 19 38 (by decide) (by decide))) ⟨_, (actOf_put _ _ _ (by rw [hds]; decide) _), rfl, Bel.refl _⟩)
    | 21, _ =>
      obtain ⟨o, o1, o2, o3, o4⟩ := k21
      exact does_val 40 (by decide) fun f w hB h => wpOp_if o1 o4 k20.dst ((inn f 39 (by rw [hds]; decide) (by decide)).trans (h 20 39 (by decide) (by decide))) (step_move (d := some 40) o2 (Or.inl o3) ((out f 2 (by rw [hds]; decide)).trans e2) ⟨_, (actOf_put _ _ _ (by rw [hds]; decide) _), rfl, Bel.refl _⟩)
    | 22, _ =>
      obtain ⟨o, o1, o2, o3, o4⟩ := k22
      exact does_val 41 (by decide) fun f w hB h => wpOp_if o1 o4 k20.dst ((inn f 39 (by rw [hds]; decide) (by decide)).trans (h 20 39 (by decide) (by decide))) (step_indexM (d := some 41) o2 o3 ((inn f 40 (by rw [hds]; decide) (by decide)).trans (h 21 40 (by decide) (by decide))) rfl (by simp [go_sem]) ⟨_, (actOf_put _ _ _ (by rw [hds]; decide) _), rfl, Bel.refl _⟩)
    | 23, _ =>
      obtain ⟨o, o1, o2, o3, o4⟩ := k23
      exact does_val 42 (by decide) fun f w hB h => wpOp_if o1 o4 k20.dst ((inn f 39 (by rw [hds]; decide) (by decide)).trans (h 20 39 (by decide) (by decide))) (step_load (d := some 42) o2 o3 ((inn f 41 (by rw [hds]; decide) (by decide)).trans (h 22 41 (by decide) (by decide))) (load_numC (tG.by hB)) ⟨_, (actOf_put _ _ _ (by rw [hds]; decide) _), rfl, Bel.refl _⟩)
    | 24, _ =>
      obtain ⟨o, o1, o2, o3, o4⟩ := k24
      exact does_val 43 (by decide) fun f w hB h => wpOp_if o1 o4 k20.dst ((inn f 39 (by rw [hds]; decide) (by decide)).trans (h 20 39 (by decide) (by decide))) (step_load (d := some 43) o2 o3 ((out f 1 (by rw [hds]; decide)).trans e1) (load_numC (tA.by hB)) ⟨_, (actOf_put _ _ _ (by rw [hds]; decide) _), rfl, Bel.refl _⟩)
    | 25, _ =>
      obtain ⟨o, o1, o2, o3, o4⟩ := k25
      exact does_val 44 (by decide) fun f w hB h => wpOp_if o1 o4 k20.dst ((inn f 39 (by rw [hds]; decide) (by decide)).trans (h 20 39 (by decide) (by decide))) (step_bin (d := some 44) o2 o3 ((inn f 42 (by rw [hds]; decide) (by decide)).trans (h 23 42 (by decide) (by decide))) ((inn f 43 (by rw [hds]; decide) (by decide)).trans (h 24 43 (by decide) (by decide))) (grd_eq _ _ _ _ _ _ _) (run_eql_C (by decide +kernel) (by decide +kernel) _) ⟨_, (actOf_put _ _ _ (by rw [hds]; decide) _), rfl, Bel.refl _⟩)
    | 26, _ =>
      obtain ⟨o, o1, o2, o3, o4⟩ := k26
      exact does_val 45 (by decide) fun f w hB h => wpOp_go o1 o4 (step_pick (d := some 45) o2 o3 ((inn f 39 (by rw [hds]; decide) (by decide)).trans (h 20 39 (by decide) (by decide))) ((inn f 44 (by rw [hds]; decide) (by decide)).trans (h 25 44 (by decide) (by decide))) ⟨_, (actOf_put _ _ _ (by rw [hds]; decide) _), rfl, Bel.refl _⟩)
    | 27, _ =>
      obtain ⟨o, o1, o2, o3, o4⟩ := k27
      exact does_val 46 (by decide) fun f w hB h => wpOp_go o1 o4 (step_move (d := some 46) o2 (Or.inl o3) ((inn f 45 (by rw [hds]; decide) (by decide)).trans (h 26 45 (by decide) (by decide))) ⟨_, (actOf_put _ _ _ (by rw [hds]; decide) _), rfl, Bel.refl _⟩)
    | 28, _ =>
      obtain ⟨o, o1, o2, o3, o4⟩ := k28
      exact does_val 47 (by decide) fun f w hB h => wpOp_if o1 o4 k27.dst ((inn f 46 (by rw [hds]; decide) (by decide)).trans (h 27 46 (by decide) (by decide))) (step_move (d := some 47) o2 (Or.inl o3) ((out f 5 (by rw [hds]; decide)).trans e5) ⟨_, (actOf_put _ _ _ (by rw [hds]; decide) _), rfl, Bel.refl _⟩)
    | 29, _ =>
      obtain ⟨o, o1, o2, o3, o4⟩ := k29
      exact does_val 48 (by decide) fun f w hB h => wpOp_if o1 o4 k27.dst ((inn f 46 (by rw [hds]; decide) (by decide)).trans (h 27 46 (by decide) (by decide))) (step_bin (d := some 48) o2 o3 ((inn f 47 (by rw [hds]; decide) (by decide)).trans (h 28 47 (by decide) (by decide))) rfl (grd_int _ _ _ _ _ _) (by simp [go_sem]) ⟨_, (actOf_put _ _ _ (by rw [hds]; decide) _), rfl, Bel.refl _⟩)
    | 30, _ =>
      obtain ⟨o, o1, o2, o3, o4⟩ := k30
      exact does_val 49 (by decide) fun f w hB h => wpOp_go o1 o4 (step_pick (d := some 49) o2 o3 ((inn f 46 (by rw [hds]; decide) (by decide)).trans (h 27 46 (by decide) (by decide))) ((inn f 48 (by rw [hds]; decide) (by decide)).trans (h 29 48 (by decide) (by decide))) ⟨_, (actOf_put _ _ _ (by rw [hds]; decide) _), rfl, Bel.refl _⟩)
    | 31, _ =>
      obtain ⟨o, o1, o2, o3, o4⟩ := k31
      exact does_val 0 (by decide) fun f w hB h => wpOp_go o1 o4 (step_move (d := some 0) o2 (Or.inr o3) ((inn f 49 (by rw [hds]; decide) (by decide)).trans (h 30 49 (by decide) (by decide))) ⟨_, (actOf_put _ _ _ (by rw [hds]; decide) _), rfl, Bel.refl _⟩)
    | (m + 32), hi => exact absurd hi (by omega)
  · intro f w hB h _
    exact hQ f w hB (h 31 0 (by decide))
end Go.Proofs.Ytnclnbbnkfolgaa

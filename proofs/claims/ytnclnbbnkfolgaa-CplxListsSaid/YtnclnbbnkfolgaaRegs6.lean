/- The regions of law 6's statements that draw their order. -/
import Derived.Test.YtnclnbbnkfolgaaStepM
import Derived.Test.YtnclnbbnkfolgaaRegP
import Derived.Test.YtnclnbbnkfolgaaStepC
import Derived.Test.YtnclnbbnkfolgaaSame6
namespace Go.Proofs.Ytnclnbbnkfolgaa
open Go.RowKit
set_option linter.unusedVariables false

theorem load_arr {w : World} {A : Nat} {x y : Int} (h : w.cell? ⟨A, 0, none⟩ = some (.int .i64 x)) (k : w.cell? ⟨A, 1, none⟩ = some (.int .i64 y)) : (Instr.loadAt 22 (.pointer (some ⟨A, 0, none⟩))).run Try.prog w = .ok (.agg #[.int .i64 x, .int .i64 y]) w := by simp [go_sem, h, k]
def number_regPre (i : Nat) : List Nat := match i with | 1 => [0] | 2 => [1] | 4 => [3] | 5 => [2, 4] | 6 => [2, 5] | 7 => [0, 1, 2, 3, 4, 5, 6] | _ => []
def number_regIts : Its := [(0, 3), (1, 4), (2, 5), (3, 6), (4, 7), (5, 8), (6, 9)]
def number_regPhi (A C : Nat) (a b : Int) (i : Nat) (z : Value) : Prop := match i with
  | 0 => z = .pointer (some ⟨A, 0, none⟩)
  | 1 => z = .int .i64 a
  | 2 => z = .float .f64 (wd a)
  | 3 => z = .pointer (some ⟨A, 1, none⟩)
  | 4 => z = .int .i64 b
  | 5 => z = .float .f64 (wd b)
  | 6 => z = dv (wd a) (wd b)
  | _ => True
set_option maxHeartbeats 4000000 in
theorem number_reg {Q : Exit → Act → World → Prop} {ops : Array Oper} {id : Nat} {w1 : World} (a0 : Act) (A C : Nat) (a b : Int)
    (k0 : OpAt ops 0 (some 3) (.indexAddr 22 (.tmp 1) (.const (.int .i64 0))) none)
    (k1 : OpAt ops 1 (some 4) (.load 2 (.tmp 3)) none)
    (k2 : OpAt ops 2 (some 5) (.call { callee := .value (.func 21), args := #[.tmp 4], argTypes := #[2] }) none)
    (k3 : OpAt ops 3 (some 6) (.indexAddr 22 (.tmp 1) (.const (.int .i64 1))) none)
    (k4 : OpAt ops 4 (some 7) (.load 2 (.tmp 6)) none)
    (k5 : OpAt ops 5 (some 8) (.call { callee := .value (.func 21), args := #[.tmp 7], argTypes := #[2] }) none)
    (k6 : OpAt ops 6 (some 9) (.build 25 #[(0, (.tmp 5)), (1, (.tmp 8))]) none)
    (k7 : OpAt ops 7 none (.store 25 (.tmp 2) (.tmp 9)) none)
    (hn : ops.size = 8) (hchk : chkN number_regPre ops = true) (hsz : a0.tmps.size = 10) (e1 : a0.eval (.tmp 1) = .pointer (some ⟨A, 0, none⟩)) (e2 : a0.eval (.tmp 2) = .pointer (some ⟨C, 0, none⟩)) (tC : Two w1 C 0 0)
    (c0 : ∀ w, Bel w1 w → w.cell? ⟨A, 0, none⟩ = some (.int .i64 a))
    (c1 : ∀ w, Bel w1 w → w.cell? ⟨A, 1, none⟩ = some (.int .i64 b))
    (f1 : ∀ w, Calls Try.prog 21 #[.int .i64 a] w fun r w' => r = .returned (.float .f64 (wd a)) ∧ Bel w w')
    (f2 : ∀ w, Calls Try.prog 21 #[.int .i64 b] w fun r w' => r = .returned (.float .f64 (wd b)) ∧ Bel w w')
    (hQ : ∀ f w u v, Bel w1 w → f 9 = dv u v → ((dv u v) = dv (wd a) (wd b)) → Q .normal (actOf a0 [3, 4, 5, 6, 7, 8, 9] f) ((w.setCell ⟨C, 0, none⟩ (.float .f64 u)).setCell ⟨C, 1, none⟩ (.float .f64 v))) : (Code.region id ops true).wp Try.prog Q a0 w1 := by
  obtain ⟨ds, hds⟩ : ∃ ds, ds = [3, 4, 5, 6, 7, 8, 9] := ⟨_, rfl⟩
  rw [← hds] at hQ
  have out : ∀ f t, t ∉ ds → (actOf a0 ds f).eval (.tmp t) = a0.eval (.tmp t) := fun f t h => actOf_out a0 _ f h
  have inn : ∀ f t, t ∈ ds → t < 10 → (actOf a0 ds f).eval (.tmp t) = f t := fun f t h h2 => actOf_in a0 _ f h (by rw [hsz]; exact h2)
  rw [← actOf_self a0 ds]
  refine wp_region_pl (pre := number_regPre) (actOf a0 ds) (fun t => a0.eval (.tmp t)) (by kernel_rfl) hchk (z := 7) (by rw [hn]) (by decide) number_regIts (number_regPhi A C a b) [] (by decide +kernel) ?_ ?_
  · intro i hi
    have hi : i < 7 := hi
    match i, hi with
    | 0, _ =>
      obtain ⟨o, o1, o2, o3, o4⟩ := k0
      exact does_val 3 (by decide) fun f w hB h => wpOp_go o1 o4 (step_indexM (d := some 3) o2 o3 ((out f 1 (by rw [hds]; decide)).trans e1) rfl (by simp [go_sem]) ⟨_, actOf_put _ _ _ (by rw [hds]; decide) _, rfl, Bel.refl _⟩)
    | 1, _ =>
      obtain ⟨o, o1, o2, o3, o4⟩ := k1
      exact does_val 4 (by decide) fun f w hB h => wpOp_go o1 o4 (step_load (d := some 4) o2 o3 ((inn f 3 (by rw [hds]; decide) (by decide)).trans (h 0 3 (by decide) (by decide))) (load_i64 (c0 _ hB)) ⟨_, actOf_put _ _ _ (by rw [hds]; decide) _, rfl, Bel.refl _⟩)
    | 2, _ =>
      obtain ⟨o, o1, o2, o3, o4⟩ := k2
      exact does_val 5 (by decide) fun f w hB h => wpOp_go o1 o4 (step_callN1 (d := some 5) o2 o3 ((inn f 4 (by rw [hds]; decide) (by decide)).trans (h 1 4 (by decide) (by decide))) (by kernel_rfl) ((f1 _).mono fun _ _ ⟨k1, k2⟩ => ⟨_, k1, _, (actOf_put _ _ _ (by rw [hds]; decide) _), rfl, k2⟩))
    | 3, _ =>
      obtain ⟨o, o1, o2, o3, o4⟩ := k3
      exact does_val 6 (by decide) fun f w hB h => wpOp_go o1 o4 (step_indexM (d := some 6) o2 o3 ((out f 1 (by rw [hds]; decide)).trans e1) rfl (by simp [go_sem]) ⟨_, actOf_put _ _ _ (by rw [hds]; decide) _, rfl, Bel.refl _⟩)
    | 4, _ =>
      obtain ⟨o, o1, o2, o3, o4⟩ := k4
      exact does_val 7 (by decide) fun f w hB h => wpOp_go o1 o4 (step_load (d := some 7) o2 o3 ((inn f 6 (by rw [hds]; decide) (by decide)).trans (h 3 6 (by decide) (by decide))) (load_i64 (c1 _ hB)) ⟨_, actOf_put _ _ _ (by rw [hds]; decide) _, rfl, Bel.refl _⟩)
    | 5, _ =>
      obtain ⟨o, o1, o2, o3, o4⟩ := k5
      exact does_val 8 (by decide) fun f w hB h => wpOp_go o1 o4 (step_callN1 (d := some 8) o2 o3 ((inn f 7 (by rw [hds]; decide) (by decide)).trans (h 4 7 (by decide) (by decide))) (by kernel_rfl) ((f2 _).mono fun _ _ ⟨k1, k2⟩ => ⟨_, k1, _, (actOf_put _ _ _ (by rw [hds]; decide) _), rfl, k2⟩))
    | 6, _ =>
      obtain ⟨o, o1, o2, o3, o4⟩ := k6
      exact does_val 9 (by decide) fun f w hB h => wpOp_go o1 o4 (step_build2 (d := some 9) o2 o3 ((inn f 5 (by rw [hds]; decide) (by decide)).trans (h 2 5 (by decide) (by decide))) ((inn f 8 (by rw [hds]; decide) (by decide)).trans (h 5 8 (by decide) (by decide))) build_2C ⟨_, (actOf_put _ _ _ (by rw [hds]; decide) _), rfl, Bel.refl _⟩)
    | (m + 7), hi => exact absurd hi (by omega)
  · intro f w hB h _
    obtain ⟨o, o1, o2, o3, o4⟩ := k7
    have hv := h 6 9 (by decide)
    obtain ⟨u, v, hz⟩ : ∃ u v, f 9 = dv u v := by exact ⟨_, _, hv⟩
    refine wpOp_go o1 o4 (step_storeC (d := none) o2 o3 ((out f 2 (by rw [hds]; decide)).trans e2) ((inn f 9 (by rw [hds]; decide) (by decide)).trans hz) (tC.by hB) ?_)
    rw [hz] at hv
    exact hQ f w u v hB hz hv
def pair6_regPre (i : Nat) : List Nat := match i with | 1 => [0] | 3 => [1, 2] | 6 => [0, 1, 3, 4, 5] | 7 => [0, 1, 2, 3, 4, 5, 6] | _ => []
def pair6_regIts : Its := [(0, 7), (1, 8), (2, 9), (3, 10)]
def pair6_regPhi (A B : Nat) (a b c d : Int) (i : Nat) (z : Value) : Prop := match i with
  | 0 => z = (.agg #[.int .i64 a, .int .i64 b])
  | 1 => z = dv (wd a) (wd b)
  | 2 => z = (.agg #[.int .i64 c, .int .i64 d])
  | 3 => z = dv (wd c) (wd d)
  | _ => True
set_option maxHeartbeats 4000000 in
theorem pair6_reg {Q : Exit → Act → World → Prop} {ops : Array Oper} {id : Nat} {w1 : World} (a0 : Act) (A B : Nat) (a b c d : Int)
    (k0 : OpAt ops 0 (some 7) (.load 22 (.tmp 2)) none)
    (k1 : OpAt ops 1 (some 8) (.call { callee := .value (.func 9), args := #[.tmp 7], argTypes := #[22] }) none)
    (k2 : OpAt ops 2 (some 9) (.load 22 (.tmp 3)) none)
    (k3 : OpAt ops 3 (some 10) (.call { callee := .value (.func 9), args := #[.tmp 9], argTypes := #[22] }) none)
    (k4 : OpAt ops 4 (some 5) (.alloc 25) none)
    (k5 : OpAt ops 5 (some 6) (.alloc 25) none)
    (k6 : OpAt ops 6 none (.store 25 (.tmp 5) (.tmp 8)) none)
    (k7 : OpAt ops 7 none (.store 25 (.tmp 6) (.tmp 10)) none)
    (hn : ops.size = 8) (hchk : chkN pair6_regPre ops = true) (hsz : a0.tmps.size = 54) (e2 : a0.eval (.tmp 2) = .pointer (some ⟨A, 0, none⟩)) (e3 : a0.eval (.tmp 3) = .pointer (some ⟨B, 0, none⟩)) 
    (c0 : ∀ w, Bel w1 w → w.cell? ⟨A, 0, none⟩ = some (.int .i64 a))
    (c1 : ∀ w, Bel w1 w → w.cell? ⟨A, 1, none⟩ = some (.int .i64 b))
    (d0 : ∀ w, Bel w1 w → w.cell? ⟨B, 0, none⟩ = some (.int .i64 c))
    (d1 : ∀ w, Bel w1 w → w.cell? ⟨B, 1, none⟩ = some (.int .i64 d))
    (f1 : ∀ w, Calls Try.prog 9 #[.agg #[.int .i64 a, .int .i64 b]] w fun r w' => r = .returned (dv (wd a) (wd b)) ∧ Bel w w')
    (f2 : ∀ w, Calls Try.prog 9 #[.agg #[.int .i64 c, .int .i64 d]] w fun r w' => r = .returned (dv (wd c) (wd d)) ∧ Bel w w')
    (hQ : ∀ f w X0 u0 v0 X1 u1 v1, Bel w1 w → f 5 = .pointer (some ⟨X0, 0, none⟩) → w1.heap.size ≤ X0 → Two w X0 u0 v0 → ((dv u0 v0) = dv (wd a) (wd b)) → f 6 = .pointer (some ⟨X1, 0, none⟩) → w1.heap.size ≤ X1 → Two w X1 u1 v1 → ((dv u1 v1) = dv (wd c) (wd d)) → X0 ≠ X1 → Q .normal (actOf a0 [7, 8, 9, 10, 5, 6] f) w) : (Code.region id ops true).wp Try.prog Q a0 w1 := by
  obtain ⟨ds, hds⟩ : ∃ ds, ds = [7, 8, 9, 10, 5, 6] := ⟨_, rfl⟩
  rw [← hds] at hQ
  have out : ∀ f t, t ∉ ds → (actOf a0 ds f).eval (.tmp t) = a0.eval (.tmp t) := fun f t h => actOf_out a0 _ f h
  have inn : ∀ f t, t ∈ ds → t < 54 → (actOf a0 ds f).eval (.tmp t) = f t := fun f t h h2 => actOf_in a0 _ f h (by rw [hsz]; exact h2)
  rw [← actOf_self a0 ds]
  refine wp_region_pv (pre := pair6_regPre) (actOf a0 ds) (fun t => a0.eval (.tmp t)) (by kernel_rfl) hchk pair6_regIts (pair6_regPhi A B a b c d) [⟨4, 5, 6, 8, 1⟩, ⟨5, 6, 7, 10, 3⟩] (by rw [hn]; decide +kernel) ?_ ?_
  · intro i hi
    rw [hn] at hi
    match i, hi with
    | 0, _ =>
      obtain ⟨o, o1, o2, o3, o4⟩ := k0
      exact does_val 7 (by decide) fun f w hB h => wpOp_go o1 o4 (step_load (d := some 7) o2 o3 ((out f 2 (by rw [hds]; decide)).trans e2) (load_arr (c0 _ hB) (c1 _ hB)) ⟨_, actOf_put _ _ _ (by rw [hds]; decide) _, rfl, Bel.refl _⟩)
    | 1, _ =>
      obtain ⟨o, o1, o2, o3, o4⟩ := k1
      exact does_val 8 (by decide) fun f w hB h => wpOp_go o1 o4 (step_callN1 (d := some 8) o2 o3 ((inn f 7 (by rw [hds]; decide) (by decide)).trans (h 0 7 (by decide) (by decide))) (by kernel_rfl) ((f1 _).mono fun _ _ ⟨k1, k2⟩ => ⟨_, k1, _, (actOf_put _ _ _ (by rw [hds]; decide) _), rfl, k2⟩))
    | 2, _ =>
      obtain ⟨o, o1, o2, o3, o4⟩ := k2
      exact does_val 9 (by decide) fun f w hB h => wpOp_go o1 o4 (step_load (d := some 9) o2 o3 ((out f 3 (by rw [hds]; decide)).trans e3) (load_arr (d0 _ hB) (d1 _ hB)) ⟨_, actOf_put _ _ _ (by rw [hds]; decide) _, rfl, Bel.refl _⟩)
    | 3, _ =>
      obtain ⟨o, o1, o2, o3, o4⟩ := k3
      exact does_val 10 (by decide) fun f w hB h => wpOp_go o1 o4 (step_callN1 (d := some 10) o2 o3 ((inn f 9 (by rw [hds]; decide) (by decide)).trans (h 2 9 (by decide) (by decide))) (by kernel_rfl) ((f2 _).mono fun _ _ ⟨k1, k2⟩ => ⟨_, k1, _, (actOf_put _ _ _ (by rw [hds]; decide) _), rfl, k2⟩))
    | 4, _ =>
      obtain ⟨o, o1, o2, o3, o4⟩ := k4
      exact .alloc ⟨4, 5, 6, 8, 1⟩ (by simp) rfl 25 fun f w K hK => wpOp_go o1 o4 (step_allocC (d := some 5) o2 o3 (by rw [actOf_put _ _ _ (by rw [hds]; decide)]; exact hK))
    | 5, _ =>
      obtain ⟨o, o1, o2, o3, o4⟩ := k5
      exact .alloc ⟨5, 6, 7, 10, 3⟩ (by simp) rfl 25 fun f w K hK => wpOp_go o1 o4 (step_allocC (d := some 6) o2 o3 (by rw [actOf_put _ _ _ (by rw [hds]; decide)]; exact hK))
    | 6, _ =>
      obtain ⟨o, o1, o2, o3, o4⟩ := k6
      exact .store ⟨4, 5, 6, 8, 1⟩ (by simp) rfl (by simp [pair6_regPre]) (by simp [pair6_regPre]) (by intro φ hφ x hx; have e := (lv_in hφ).2; simp only at e; subst e; exact ⟨_, _, hx⟩) fun f w K X a b α β hX hv hT hK => wpOp_go o1 o4 (step_storeC (d := none) o2 o3 ((inn f 5 (by rw [hds]; decide) (by decide)).trans hX) ((inn f 8 (by rw [hds]; decide) (by decide)).trans hv) hT hK)
    | 7, _ =>
      obtain ⟨o, o1, o2, o3, o4⟩ := k7
      exact .store ⟨5, 6, 7, 10, 3⟩ (by simp) rfl (by simp [pair6_regPre]) (by simp [pair6_regPre]) (by intro φ hφ x hx; have e := (lv_in hφ).2; simp only at e; subst e; exact ⟨_, _, hx⟩) fun f w K X a b α β hX hv hT hK => wpOp_go o1 o4 (step_storeC (d := none) o2 o3 ((inn f 6 (by rw [hds]; decide) (by decide)).trans hX) ((inn f 10 (by rw [hds]; decide) (by decide)).trans hv) hT hK)
    | (m + 8), hi => exact absurd hi (by omega)
  · intro f w hB h hF
    obtain ⟨X0, u0, v0, r0, s0, p0, z0⟩ := hF.1 ⟨4, 5, 6, 8, 1⟩ (by simp)
    have hv0 := h 1 8 (by decide)
    have z0 : f 8 = _ := z0
    have r0 : f 5 = _ := r0
    rw [z0] at hv0
    obtain ⟨X1, u1, v1, r1, s1, p1, z1⟩ := hF.1 ⟨5, 6, 7, 10, 3⟩ (by simp)
    have hv1 := h 3 10 (by decide)
    have z1 : f 10 = _ := z1
    have r1 : f 6 = _ := r1
    rw [z1] at hv1
    have n0_1 : X0 ≠ X1 := fun e => hF.2 ⟨4, 5, 6, 8, 1⟩ (by simp) ⟨5, 6, 7, 10, 3⟩ (by simp) (by decide) (by show f 5 = f 6; rw [r0, r1, e])
    exact hQ f w X0 u0 v0 X1 u1 v1 hB r0 s0 p0 hv0 r1 s1 p1 hv1 n0_1
def pair6m_regPre (i : Nat) : List Nat := match i with | 1 => [0] | 3 => [1, 2] | 6 => [0, 1, 3, 4, 5] | 7 => [0, 1, 2, 3, 4, 5, 6] | _ => []
def pair6m_regIts : Its := [(0, 9), (1, 10), (2, 11), (3, 12)]
def pair6m_regPhi (A B : Nat) (a b c d : Int) (i : Nat) (z : Value) : Prop := match i with
  | 0 => z = (.agg #[.int .i64 a, .int .i64 b])
  | 1 => z = dv (wd a) (wd b)
  | 2 => z = (.agg #[.int .i64 c, .int .i64 d])
  | 3 => z = dv (wd c) (wd d)
  | _ => True
set_option maxHeartbeats 4000000 in
theorem pair6m_reg {Q : Exit → Act → World → Prop} {ops : Array Oper} {id : Nat} {w1 : World} (a0 : Act) (A B : Nat) (a b c d : Int)
    (k0 : OpAt ops 0 (some 9) (.load 22 (.tmp 2)) none)
    (k1 : OpAt ops 1 (some 10) (.call { callee := .value (.func 9), args := #[.tmp 9], argTypes := #[22] }) none)
    (k2 : OpAt ops 2 (some 11) (.load 22 (.tmp 3)) none)
    (k3 : OpAt ops 3 (some 12) (.call { callee := .value (.func 9), args := #[.tmp 11], argTypes := #[22] }) none)
    (k4 : OpAt ops 4 (some 5) (.alloc 25) none)
    (k5 : OpAt ops 5 (some 6) (.alloc 25) none)
    (k6 : OpAt ops 6 none (.store 25 (.tmp 5) (.tmp 10)) none)
    (k7 : OpAt ops 7 none (.store 25 (.tmp 6) (.tmp 12)) none)
    (hn : ops.size = 8) (hchk : chkN pair6m_regPre ops = true) (hsz : a0.tmps.size = 34) (e2 : a0.eval (.tmp 2) = .pointer (some ⟨A, 0, none⟩)) (e3 : a0.eval (.tmp 3) = .pointer (some ⟨B, 0, none⟩)) 
    (c0 : ∀ w, Bel w1 w → w.cell? ⟨A, 0, none⟩ = some (.int .i64 a))
    (c1 : ∀ w, Bel w1 w → w.cell? ⟨A, 1, none⟩ = some (.int .i64 b))
    (d0 : ∀ w, Bel w1 w → w.cell? ⟨B, 0, none⟩ = some (.int .i64 c))
    (d1 : ∀ w, Bel w1 w → w.cell? ⟨B, 1, none⟩ = some (.int .i64 d))
    (f1 : ∀ w, Calls Try.prog 9 #[.agg #[.int .i64 a, .int .i64 b]] w fun r w' => r = .returned (dv (wd a) (wd b)) ∧ Bel w w')
    (f2 : ∀ w, Calls Try.prog 9 #[.agg #[.int .i64 c, .int .i64 d]] w fun r w' => r = .returned (dv (wd c) (wd d)) ∧ Bel w w')
    (hQ : ∀ f w X0 u0 v0 X1 u1 v1, Bel w1 w → f 5 = .pointer (some ⟨X0, 0, none⟩) → w1.heap.size ≤ X0 → Two w X0 u0 v0 → ((dv u0 v0) = dv (wd a) (wd b)) → f 6 = .pointer (some ⟨X1, 0, none⟩) → w1.heap.size ≤ X1 → Two w X1 u1 v1 → ((dv u1 v1) = dv (wd c) (wd d)) → X0 ≠ X1 → Q .normal (actOf a0 [9, 10, 11, 12, 5, 6] f) w) : (Code.region id ops true).wp Try.prog Q a0 w1 := by
  obtain ⟨ds, hds⟩ : ∃ ds, ds = [9, 10, 11, 12, 5, 6] := ⟨_, rfl⟩
  rw [← hds] at hQ
  have out : ∀ f t, t ∉ ds → (actOf a0 ds f).eval (.tmp t) = a0.eval (.tmp t) := fun f t h => actOf_out a0 _ f h
  have inn : ∀ f t, t ∈ ds → t < 34 → (actOf a0 ds f).eval (.tmp t) = f t := fun f t h h2 => actOf_in a0 _ f h (by rw [hsz]; exact h2)
  rw [← actOf_self a0 ds]
  refine wp_region_pv (pre := pair6m_regPre) (actOf a0 ds) (fun t => a0.eval (.tmp t)) (by kernel_rfl) hchk pair6m_regIts (pair6m_regPhi A B a b c d) [⟨4, 5, 6, 10, 1⟩, ⟨5, 6, 7, 12, 3⟩] (by rw [hn]; decide +kernel) ?_ ?_
  · intro i hi
    rw [hn] at hi
    match i, hi with
    | 0, _ =>
      obtain ⟨o, o1, o2, o3, o4⟩ := k0
      exact does_val 9 (by decide) fun f w hB h => wpOp_go o1 o4 (step_load (d := some 9) o2 o3 ((out f 2 (by rw [hds]; decide)).trans e2) (load_arr (c0 _ hB) (c1 _ hB)) ⟨_, actOf_put _ _ _ (by rw [hds]; decide) _, rfl, Bel.refl _⟩)
    | 1, _ =>
      obtain ⟨o, o1, o2, o3, o4⟩ := k1
      exact does_val 10 (by decide) fun f w hB h => wpOp_go o1 o4 (step_callN1 (d := some 10) o2 o3 ((inn f 9 (by rw [hds]; decide) (by decide)).trans (h 0 9 (by decide) (by decide))) (by kernel_rfl) ((f1 _).mono fun _ _ ⟨k1, k2⟩ => ⟨_, k1, _, (actOf_put _ _ _ (by rw [hds]; decide) _), rfl, k2⟩))
    | 2, _ =>
      obtain ⟨o, o1, o2, o3, o4⟩ := k2
      exact does_val 11 (by decide) fun f w hB h => wpOp_go o1 o4 (step_load (d := some 11) o2 o3 ((out f 3 (by rw [hds]; decide)).trans e3) (load_arr (d0 _ hB) (d1 _ hB)) ⟨_, actOf_put _ _ _ (by rw [hds]; decide) _, rfl, Bel.refl _⟩)
    | 3, _ =>
      obtain ⟨o, o1, o2, o3, o4⟩ := k3
      exact does_val 12 (by decide) fun f w hB h => wpOp_go o1 o4 (step_callN1 (d := some 12) o2 o3 ((inn f 11 (by rw [hds]; decide) (by decide)).trans (h 2 11 (by decide) (by decide))) (by kernel_rfl) ((f2 _).mono fun _ _ ⟨k1, k2⟩ => ⟨_, k1, _, (actOf_put _ _ _ (by rw [hds]; decide) _), rfl, k2⟩))
    | 4, _ =>
      obtain ⟨o, o1, o2, o3, o4⟩ := k4
      exact .alloc ⟨4, 5, 6, 10, 1⟩ (by simp) rfl 25 fun f w K hK => wpOp_go o1 o4 (step_allocC (d := some 5) o2 o3 (by rw [actOf_put _ _ _ (by rw [hds]; decide)]; exact hK))
    | 5, _ =>
      obtain ⟨o, o1, o2, o3, o4⟩ := k5
      exact .alloc ⟨5, 6, 7, 12, 3⟩ (by simp) rfl 25 fun f w K hK => wpOp_go o1 o4 (step_allocC (d := some 6) o2 o3 (by rw [actOf_put _ _ _ (by rw [hds]; decide)]; exact hK))
    | 6, _ =>
      obtain ⟨o, o1, o2, o3, o4⟩ := k6
      exact .store ⟨4, 5, 6, 10, 1⟩ (by simp) rfl (by simp [pair6m_regPre]) (by simp [pair6m_regPre]) (by intro φ hφ x hx; have e := (lv_in hφ).2; simp only at e; subst e; exact ⟨_, _, hx⟩) fun f w K X a b α β hX hv hT hK => wpOp_go o1 o4 (step_storeC (d := none) o2 o3 ((inn f 5 (by rw [hds]; decide) (by decide)).trans hX) ((inn f 10 (by rw [hds]; decide) (by decide)).trans hv) hT hK)
    | 7, _ =>
      obtain ⟨o, o1, o2, o3, o4⟩ := k7
      exact .store ⟨5, 6, 7, 12, 3⟩ (by simp) rfl (by simp [pair6m_regPre]) (by simp [pair6m_regPre]) (by intro φ hφ x hx; have e := (lv_in hφ).2; simp only at e; subst e; exact ⟨_, _, hx⟩) fun f w K X a b α β hX hv hT hK => wpOp_go o1 o4 (step_storeC (d := none) o2 o3 ((inn f 6 (by rw [hds]; decide) (by decide)).trans hX) ((inn f 12 (by rw [hds]; decide) (by decide)).trans hv) hT hK)
    | (m + 8), hi => exact absurd hi (by omega)
  · intro f w hB h hF
    obtain ⟨X0, u0, v0, r0, s0, p0, z0⟩ := hF.1 ⟨4, 5, 6, 10, 1⟩ (by simp)
    have hv0 := h 1 10 (by decide)
    have z0 : f 10 = _ := z0
    have r0 : f 5 = _ := r0
    rw [z0] at hv0
    obtain ⟨X1, u1, v1, r1, s1, p1, z1⟩ := hF.1 ⟨5, 6, 7, 12, 3⟩ (by simp)
    have hv1 := h 3 12 (by decide)
    have z1 : f 12 = _ := z1
    have r1 : f 6 = _ := r1
    rw [z1] at hv1
    have n0_1 : X0 ≠ X1 := fun e => hF.2 ⟨4, 5, 6, 10, 1⟩ (by simp) ⟨5, 6, 7, 12, 3⟩ (by simp) (by decide) (by show f 5 = f 6; rw [r0, r1, e])
    exact hQ f w X0 u0 v0 X1 u1 v1 hB r0 s0 p0 hv0 r1 s1 p1 hv1 n0_1
def pair6r_regPre (i : Nat) : List Nat := match i with | 1 => [0] | 3 => [1, 2] | 6 => [0, 1, 3, 4, 5] | 7 => [0, 1, 2, 3, 4, 5, 6] | _ => []
def pair6r_regIts : Its := [(0, 13), (1, 14), (2, 15), (3, 16)]
def pair6r_regPhi (A B : Nat) (a b c d : Int) (i : Nat) (z : Value) : Prop := match i with
  | 0 => z = (.agg #[.int .i64 a, .int .i64 b])
  | 1 => z = dv (wd a) (wd b)
  | 2 => z = (.agg #[.int .i64 c, .int .i64 d])
  | 3 => z = dv (wd c) (wd d)
  | _ => True
set_option maxHeartbeats 4000000 in
theorem pair6r_reg {Q : Exit → Act → World → Prop} {ops : Array Oper} {id : Nat} {w1 : World} (a0 : Act) (A B : Nat) (a b c d : Int)
    (k0 : OpAt ops 0 (some 13) (.load 22 (.tmp 2)) none)
    (k1 : OpAt ops 1 (some 14) (.call { callee := .value (.func 9), args := #[.tmp 13], argTypes := #[22] }) none)
    (k2 : OpAt ops 2 (some 15) (.load 22 (.tmp 3)) none)
    (k3 : OpAt ops 3 (some 16) (.call { callee := .value (.func 9), args := #[.tmp 15], argTypes := #[22] }) none)
    (k4 : OpAt ops 4 (some 5) (.alloc 25) none)
    (k5 : OpAt ops 5 (some 6) (.alloc 25) none)
    (k6 : OpAt ops 6 none (.store 25 (.tmp 5) (.tmp 14)) none)
    (k7 : OpAt ops 7 none (.store 25 (.tmp 6) (.tmp 16)) none)
    (hn : ops.size = 8) (hchk : chkN pair6r_regPre ops = true) (hsz : a0.tmps.size = 76) (e2 : a0.eval (.tmp 2) = .pointer (some ⟨A, 0, none⟩)) (e3 : a0.eval (.tmp 3) = .pointer (some ⟨B, 0, none⟩)) 
    (c0 : ∀ w, Bel w1 w → w.cell? ⟨A, 0, none⟩ = some (.int .i64 a))
    (c1 : ∀ w, Bel w1 w → w.cell? ⟨A, 1, none⟩ = some (.int .i64 b))
    (d0 : ∀ w, Bel w1 w → w.cell? ⟨B, 0, none⟩ = some (.int .i64 c))
    (d1 : ∀ w, Bel w1 w → w.cell? ⟨B, 1, none⟩ = some (.int .i64 d))
    (f1 : ∀ w, Calls Try.prog 9 #[.agg #[.int .i64 a, .int .i64 b]] w fun r w' => r = .returned (dv (wd a) (wd b)) ∧ Bel w w')
    (f2 : ∀ w, Calls Try.prog 9 #[.agg #[.int .i64 c, .int .i64 d]] w fun r w' => r = .returned (dv (wd c) (wd d)) ∧ Bel w w')
    (hQ : ∀ f w X0 u0 v0 X1 u1 v1, Bel w1 w → f 5 = .pointer (some ⟨X0, 0, none⟩) → w1.heap.size ≤ X0 → Two w X0 u0 v0 → ((dv u0 v0) = dv (wd a) (wd b)) → f 6 = .pointer (some ⟨X1, 0, none⟩) → w1.heap.size ≤ X1 → Two w X1 u1 v1 → ((dv u1 v1) = dv (wd c) (wd d)) → X0 ≠ X1 → Q .normal (actOf a0 [13, 14, 15, 16, 5, 6] f) w) : (Code.region id ops true).wp Try.prog Q a0 w1 := by
  obtain ⟨ds, hds⟩ : ∃ ds, ds = [13, 14, 15, 16, 5, 6] := ⟨_, rfl⟩
  rw [← hds] at hQ
  have out : ∀ f t, t ∉ ds → (actOf a0 ds f).eval (.tmp t) = a0.eval (.tmp t) := fun f t h => actOf_out a0 _ f h
  have inn : ∀ f t, t ∈ ds → t < 76 → (actOf a0 ds f).eval (.tmp t) = f t := fun f t h h2 => actOf_in a0 _ f h (by rw [hsz]; exact h2)
  rw [← actOf_self a0 ds]
  refine wp_region_pv (pre := pair6r_regPre) (actOf a0 ds) (fun t => a0.eval (.tmp t)) (by kernel_rfl) hchk pair6r_regIts (pair6r_regPhi A B a b c d) [⟨4, 5, 6, 14, 1⟩, ⟨5, 6, 7, 16, 3⟩] (by rw [hn]; decide +kernel) ?_ ?_
  · intro i hi
    rw [hn] at hi
    match i, hi with
    | 0, _ =>
      obtain ⟨o, o1, o2, o3, o4⟩ := k0
      exact does_val 13 (by decide) fun f w hB h => wpOp_go o1 o4 (step_load (d := some 13) o2 o3 ((out f 2 (by rw [hds]; decide)).trans e2) (load_arr (c0 _ hB) (c1 _ hB)) ⟨_, actOf_put _ _ _ (by rw [hds]; decide) _, rfl, Bel.refl _⟩)
    | 1, _ =>
      obtain ⟨o, o1, o2, o3, o4⟩ := k1
      exact does_val 14 (by decide) fun f w hB h => wpOp_go o1 o4 (step_callN1 (d := some 14) o2 o3 ((inn f 13 (by rw [hds]; decide) (by decide)).trans (h 0 13 (by decide) (by decide))) (by kernel_rfl) ((f1 _).mono fun _ _ ⟨k1, k2⟩ => ⟨_, k1, _, (actOf_put _ _ _ (by rw [hds]; decide) _), rfl, k2⟩))
    | 2, _ =>
      obtain ⟨o, o1, o2, o3, o4⟩ := k2
      exact does_val 15 (by decide) fun f w hB h => wpOp_go o1 o4 (step_load (d := some 15) o2 o3 ((out f 3 (by rw [hds]; decide)).trans e3) (load_arr (d0 _ hB) (d1 _ hB)) ⟨_, actOf_put _ _ _ (by rw [hds]; decide) _, rfl, Bel.refl _⟩)
    | 3, _ =>
      obtain ⟨o, o1, o2, o3, o4⟩ := k3
      exact does_val 16 (by decide) fun f w hB h => wpOp_go o1 o4 (step_callN1 (d := some 16) o2 o3 ((inn f 15 (by rw [hds]; decide) (by decide)).trans (h 2 15 (by decide) (by decide))) (by kernel_rfl) ((f2 _).mono fun _ _ ⟨k1, k2⟩ => ⟨_, k1, _, (actOf_put _ _ _ (by rw [hds]; decide) _), rfl, k2⟩))
    | 4, _ =>
      obtain ⟨o, o1, o2, o3, o4⟩ := k4
      exact .alloc ⟨4, 5, 6, 14, 1⟩ (by simp) rfl 25 fun f w K hK => wpOp_go o1 o4 (step_allocC (d := some 5) o2 o3 (by rw [actOf_put _ _ _ (by rw [hds]; decide)]; exact hK))
    | 5, _ =>
      obtain ⟨o, o1, o2, o3, o4⟩ := k5
      exact .alloc ⟨5, 6, 7, 16, 3⟩ (by simp) rfl 25 fun f w K hK => wpOp_go o1 o4 (step_allocC (d := some 6) o2 o3 (by rw [actOf_put _ _ _ (by rw [hds]; decide)]; exact hK))
    | 6, _ =>
      obtain ⟨o, o1, o2, o3, o4⟩ := k6
      exact .store ⟨4, 5, 6, 14, 1⟩ (by simp) rfl (by simp [pair6r_regPre]) (by simp [pair6r_regPre]) (by intro φ hφ x hx; have e := (lv_in hφ).2; simp only at e; subst e; exact ⟨_, _, hx⟩) fun f w K X a b α β hX hv hT hK => wpOp_go o1 o4 (step_storeC (d := none) o2 o3 ((inn f 5 (by rw [hds]; decide) (by decide)).trans hX) ((inn f 14 (by rw [hds]; decide) (by decide)).trans hv) hT hK)
    | 7, _ =>
      obtain ⟨o, o1, o2, o3, o4⟩ := k7
      exact .store ⟨5, 6, 7, 16, 3⟩ (by simp) rfl (by simp [pair6r_regPre]) (by simp [pair6r_regPre]) (by intro φ hφ x hx; have e := (lv_in hφ).2; simp only at e; subst e; exact ⟨_, _, hx⟩) fun f w K X a b α β hX hv hT hK => wpOp_go o1 o4 (step_storeC (d := none) o2 o3 ((inn f 6 (by rw [hds]; decide) (by decide)).trans hX) ((inn f 16 (by rw [hds]; decide) (by decide)).trans hv) hT hK)
    | (m + 8), hi => exact absurd hi (by omega)
  · intro f w hB h hF
    obtain ⟨X0, u0, v0, r0, s0, p0, z0⟩ := hF.1 ⟨4, 5, 6, 14, 1⟩ (by simp)
    have hv0 := h 1 14 (by decide)
    have z0 : f 14 = _ := z0
    have r0 : f 5 = _ := r0
    rw [z0] at hv0
    obtain ⟨X1, u1, v1, r1, s1, p1, z1⟩ := hF.1 ⟨5, 6, 7, 16, 3⟩ (by simp)
    have hv1 := h 3 16 (by decide)
    have z1 : f 16 = _ := z1
    have r1 : f 6 = _ := r1
    rw [z1] at hv1
    have n0_1 : X0 ≠ X1 := fun e => hF.2 ⟨4, 5, 6, 14, 1⟩ (by simp) ⟨5, 6, 7, 16, 3⟩ (by simp) (by decide) (by show f 5 = f 6; rw [r0, r1, e])
    exact hQ f w X0 u0 v0 X1 u1 v1 hB r0 s0 p0 hv0 r1 s1 p1 hv1 n0_1
def mulmul_regPre (i : Nat) : List Nat := match i with | 2 => [0, 1] | 5 => [2, 3, 4] | 8 => [0, 1, 2, 5, 6, 7] | 9 => [0, 1, 2, 3, 4, 5, 6, 7, 8] | _ => []
def mulmul_regIts : Its := [(0, 17), (1, 18), (2, 19), (3, 20), (4, 21), (5, 22)]
def mulmul_regPhi (A B x y u v : Nat) (i : Nat) (z : Value) : Prop := match i with
  | 0 => z = dv x y
  | 1 => z = dv u v
  | 2 => ∃ r s, z = dv r s ∧ MulR6 x y u v r s
  | 3 => z = dv u v
  | 4 => z = dv x y
  | 5 => ∃ r s, z = dv r s ∧ MulR6 u v x y r s
  | _ => True
set_option maxHeartbeats 4000000 in
theorem mulmul_reg {Q : Exit → Act → World → Prop} {ops : Array Oper} {id : Nat} {w1 : World} (a0 : Act) (A B x y u v : Nat)
    (k0 : OpAt ops 0 (some 17) (.load 25 (.tmp 5)) none)
    (k1 : OpAt ops 1 (some 18) (.load 25 (.tmp 6)) none)
    (k2 : OpAt ops 2 (some 19) (.call { callee := .value (.func 16), args := #[.tmp 17, .tmp 18], argTypes := #[25, 25] }) none)
    (k3 : OpAt ops 3 (some 20) (.load 25 (.tmp 6)) none)
    (k4 : OpAt ops 4 (some 21) (.load 25 (.tmp 5)) none)
    (k5 : OpAt ops 5 (some 22) (.call { callee := .value (.func 16), args := #[.tmp 20, .tmp 21], argTypes := #[25, 25] }) none)
    (k6 : OpAt ops 6 (some 7) (.alloc 25) none)
    (k7 : OpAt ops 7 (some 8) (.alloc 25) none)
    (k8 : OpAt ops 8 none (.store 25 (.tmp 7) (.tmp 19)) none)
    (k9 : OpAt ops 9 none (.store 25 (.tmp 8) (.tmp 22)) none)
    (hn : ops.size = 10) (hchk : chkN mulmul_regPre ops = true) (hsz : a0.tmps.size = 76) (e5 : a0.eval (.tmp 5) = .pointer (some ⟨A, 0, none⟩)) (e6 : a0.eval (.tmp 6) = .pointer (some ⟨B, 0, none⟩)) (tA : Two w1 A x y) (tB : Two w1 B u v)
    (h1 : ∀ w, Calls Try.prog 16 #[dv x y, dv u v] w fun r w' => ∃ z, r = .returned z ∧ (∃ r s, z = dv r s ∧ MulR6 x y u v r s) ∧ Bel w w')
    (h2 : ∀ w, Calls Try.prog 16 #[dv u v, dv x y] w fun r w' => ∃ z, r = .returned z ∧ (∃ r s, z = dv r s ∧ MulR6 u v x y r s) ∧ Bel w w')
    (hQ : ∀ f w X0 u0 v0 X1 u1 v1, Bel w1 w → f 7 = .pointer (some ⟨X0, 0, none⟩) → w1.heap.size ≤ X0 → Two w X0 u0 v0 → (∃ r s, (dv u0 v0) = dv r s ∧ MulR6 x y u v r s) → f 8 = .pointer (some ⟨X1, 0, none⟩) → w1.heap.size ≤ X1 → Two w X1 u1 v1 → (∃ r s, (dv u1 v1) = dv r s ∧ MulR6 u v x y r s) → X0 ≠ X1 → Q .normal (actOf a0 [17, 18, 19, 20, 21, 22, 7, 8] f) w) : (Code.region id ops true).wp Try.prog Q a0 w1 := by
  obtain ⟨ds, hds⟩ : ∃ ds, ds = [17, 18, 19, 20, 21, 22, 7, 8] := ⟨_, rfl⟩
  rw [← hds] at hQ
  have out : ∀ f t, t ∉ ds → (actOf a0 ds f).eval (.tmp t) = a0.eval (.tmp t) := fun f t h => actOf_out a0 _ f h
  have inn : ∀ f t, t ∈ ds → t < 76 → (actOf a0 ds f).eval (.tmp t) = f t := fun f t h h2 => actOf_in a0 _ f h (by rw [hsz]; exact h2)
  rw [← actOf_self a0 ds]
  refine wp_region_pv (pre := mulmul_regPre) (actOf a0 ds) (fun t => a0.eval (.tmp t)) (by kernel_rfl) hchk mulmul_regIts (mulmul_regPhi A B x y u v) [⟨6, 7, 8, 19, 2⟩, ⟨7, 8, 9, 22, 5⟩] (by rw [hn]; decide +kernel) ?_ ?_
  · intro i hi
    rw [hn] at hi
    match i, hi with
    | 0, _ =>
      obtain ⟨o, o1, o2, o3, o4⟩ := k0
      exact does_val 17 (by decide) fun f w hB h => wpOp_go o1 o4 (step_load (d := some 17) o2 o3 ((out f 5 (by rw [hds]; decide)).trans e5) (load_numC (tA.by hB)) ⟨_, (actOf_put _ _ _ (by rw [hds]; decide) _), rfl, Bel.refl _⟩)
    | 1, _ =>
      obtain ⟨o, o1, o2, o3, o4⟩ := k1
      exact does_val 18 (by decide) fun f w hB h => wpOp_go o1 o4 (step_load (d := some 18) o2 o3 ((out f 6 (by rw [hds]; decide)).trans e6) (load_numC (tB.by hB)) ⟨_, (actOf_put _ _ _ (by rw [hds]; decide) _), rfl, Bel.refl _⟩)
    | 2, _ =>
      obtain ⟨o, o1, o2, o3, o4⟩ := k2
      exact does_val 19 (by decide) fun f w hB h => wpOp_go o1 o4 (step_callN2 (d := some 19) o2 o3 ((inn f 17 (by rw [hds]; decide) (by decide)).trans (h 0 17 (by decide) (by decide))) ((inn f 18 (by rw [hds]; decide) (by decide)).trans (h 1 18 (by decide) (by decide))) (by kernel_rfl) ((h1 _).mono fun _ _ ⟨v, k1, k0, k2⟩ => ⟨v, k1, _, (actOf_put _ _ _ (by rw [hds]; decide) _), k0, k2⟩))
    | 3, _ =>
      obtain ⟨o, o1, o2, o3, o4⟩ := k3
      exact does_val 20 (by decide) fun f w hB h => wpOp_go o1 o4 (step_load (d := some 20) o2 o3 ((out f 6 (by rw [hds]; decide)).trans e6) (load_numC (tB.by hB)) ⟨_, (actOf_put _ _ _ (by rw [hds]; decide) _), rfl, Bel.refl _⟩)
    | 4, _ =>
      obtain ⟨o, o1, o2, o3, o4⟩ := k4
      exact does_val 21 (by decide) fun f w hB h => wpOp_go o1 o4 (step_load (d := some 21) o2 o3 ((out f 5 (by rw [hds]; decide)).trans e5) (load_numC (tA.by hB)) ⟨_, (actOf_put _ _ _ (by rw [hds]; decide) _), rfl, Bel.refl _⟩)
    | 5, _ =>
      obtain ⟨o, o1, o2, o3, o4⟩ := k5
      exact does_val 22 (by decide) fun f w hB h => wpOp_go o1 o4 (step_callN2 (d := some 22) o2 o3 ((inn f 20 (by rw [hds]; decide) (by decide)).trans (h 3 20 (by decide) (by decide))) ((inn f 21 (by rw [hds]; decide) (by decide)).trans (h 4 21 (by decide) (by decide))) (by kernel_rfl) ((h2 _).mono fun _ _ ⟨v, k1, k0, k2⟩ => ⟨v, k1, _, (actOf_put _ _ _ (by rw [hds]; decide) _), k0, k2⟩))
    | 6, _ =>
      obtain ⟨o, o1, o2, o3, o4⟩ := k6
      exact .alloc ⟨6, 7, 8, 19, 2⟩ (by simp) rfl 25 fun f w K hK => wpOp_go o1 o4 (step_allocC (d := some 7) o2 o3 (by rw [actOf_put _ _ _ (by rw [hds]; decide)]; exact hK))
    | 7, _ =>
      obtain ⟨o, o1, o2, o3, o4⟩ := k7
      exact .alloc ⟨7, 8, 9, 22, 5⟩ (by simp) rfl 25 fun f w K hK => wpOp_go o1 o4 (step_allocC (d := some 8) o2 o3 (by rw [actOf_put _ _ _ (by rw [hds]; decide)]; exact hK))
    | 8, _ =>
      obtain ⟨o, o1, o2, o3, o4⟩ := k8
      exact .store ⟨6, 7, 8, 19, 2⟩ (by simp) rfl (by simp [mulmul_regPre]) (by simp [mulmul_regPre]) (by intro φ hφ x hx; have e := (lv_in hφ).2; simp only at e; subst e; obtain ⟨u, v, hx, _⟩ := hx; exact ⟨_, _, hx⟩) fun f w K X a b α β hX hv hT hK => wpOp_go o1 o4 (step_storeC (d := none) o2 o3 ((inn f 7 (by rw [hds]; decide) (by decide)).trans hX) ((inn f 19 (by rw [hds]; decide) (by decide)).trans hv) hT hK)
    | 9, _ =>
      obtain ⟨o, o1, o2, o3, o4⟩ := k9
      exact .store ⟨7, 8, 9, 22, 5⟩ (by simp) rfl (by simp [mulmul_regPre]) (by simp [mulmul_regPre]) (by intro φ hφ x hx; have e := (lv_in hφ).2; simp only at e; subst e; obtain ⟨u, v, hx, _⟩ := hx; exact ⟨_, _, hx⟩) fun f w K X a b α β hX hv hT hK => wpOp_go o1 o4 (step_storeC (d := none) o2 o3 ((inn f 8 (by rw [hds]; decide) (by decide)).trans hX) ((inn f 22 (by rw [hds]; decide) (by decide)).trans hv) hT hK)
    | (m + 10), hi => exact absurd hi (by omega)
  · intro f w hB h hF
    obtain ⟨X0, u0, v0, r0, s0, p0, z0⟩ := hF.1 ⟨6, 7, 8, 19, 2⟩ (by simp)
    have hv0 := h 2 19 (by decide)
    have z0 : f 19 = _ := z0
    have r0 : f 7 = _ := r0
    rw [z0] at hv0
    obtain ⟨X1, u1, v1, r1, s1, p1, z1⟩ := hF.1 ⟨7, 8, 9, 22, 5⟩ (by simp)
    have hv1 := h 5 22 (by decide)
    have z1 : f 22 = _ := z1
    have r1 : f 8 = _ := r1
    rw [z1] at hv1
    have n0_1 : X0 ≠ X1 := fun e => hF.2 ⟨6, 7, 8, 19, 2⟩ (by simp) ⟨7, 8, 9, 22, 5⟩ (by simp) (by decide) (by show f 7 = f 8; rw [r0, r1, e])
    exact hQ f w X0 u0 v0 X1 u1 v1 hB r0 s0 p0 hv0 r1 s1 p1 hv1 n0_1
def addadd_regPre (i : Nat) : List Nat := match i with | 2 => [0, 1] | 5 => [2, 3, 4] | 8 => [0, 1, 2, 5, 6, 7] | 9 => [0, 1, 2, 3, 4, 5, 6, 7, 8] | _ => []
def addadd_regIts : Its := [(0, 23), (1, 24), (2, 25), (3, 26), (4, 27), (5, 28)]
def addadd_regPhi (A B x y u v : Nat) (i : Nat) (z : Value) : Prop := match i with
  | 0 => z = dv x y
  | 1 => z = dv u v
  | 2 => ∃ r s, z = dv r s ∧ FR .add x u r ∧ FR .add y v s
  | 3 => z = dv u v
  | 4 => z = dv x y
  | 5 => ∃ r s, z = dv r s ∧ FR .add u x r ∧ FR .add v y s
  | _ => True
set_option maxHeartbeats 4000000 in
theorem addadd_reg {Q : Exit → Act → World → Prop} {ops : Array Oper} {id : Nat} {w1 : World} (a0 : Act) (A B x y u v : Nat)
    (k0 : OpAt ops 0 (some 23) (.load 25 (.tmp 5)) none)
    (k1 : OpAt ops 1 (some 24) (.load 25 (.tmp 6)) none)
    (k2 : OpAt ops 2 (some 25) (.call { callee := .value (.func 12), args := #[.tmp 23, .tmp 24], argTypes := #[25, 25] }) none)
    (k3 : OpAt ops 3 (some 26) (.load 25 (.tmp 6)) none)
    (k4 : OpAt ops 4 (some 27) (.load 25 (.tmp 5)) none)
    (k5 : OpAt ops 5 (some 28) (.call { callee := .value (.func 12), args := #[.tmp 26, .tmp 27], argTypes := #[25, 25] }) none)
    (k6 : OpAt ops 6 (some 9) (.alloc 25) none)
    (k7 : OpAt ops 7 (some 10) (.alloc 25) none)
    (k8 : OpAt ops 8 none (.store 25 (.tmp 9) (.tmp 25)) none)
    (k9 : OpAt ops 9 none (.store 25 (.tmp 10) (.tmp 28)) none)
    (hn : ops.size = 10) (hchk : chkN addadd_regPre ops = true) (hsz : a0.tmps.size = 76) (e5 : a0.eval (.tmp 5) = .pointer (some ⟨A, 0, none⟩)) (e6 : a0.eval (.tmp 6) = .pointer (some ⟨B, 0, none⟩)) (tA : Two w1 A x y) (tB : Two w1 B u v)
    (h1 : ∀ w, Calls Try.prog 12 #[dv x y, dv u v] w fun r w' => ∃ z, r = .returned z ∧ (∃ r s, z = dv r s ∧ FR .add x u r ∧ FR .add y v s) ∧ Bel w w')
    (h2 : ∀ w, Calls Try.prog 12 #[dv u v, dv x y] w fun r w' => ∃ z, r = .returned z ∧ (∃ r s, z = dv r s ∧ FR .add u x r ∧ FR .add v y s) ∧ Bel w w')
    (hQ : ∀ f w X0 u0 v0 X1 u1 v1, Bel w1 w → f 9 = .pointer (some ⟨X0, 0, none⟩) → w1.heap.size ≤ X0 → Two w X0 u0 v0 → (∃ r s, (dv u0 v0) = dv r s ∧ FR .add x u r ∧ FR .add y v s) → f 10 = .pointer (some ⟨X1, 0, none⟩) → w1.heap.size ≤ X1 → Two w X1 u1 v1 → (∃ r s, (dv u1 v1) = dv r s ∧ FR .add u x r ∧ FR .add v y s) → X0 ≠ X1 → Q .normal (actOf a0 [23, 24, 25, 26, 27, 28, 9, 10] f) w) : (Code.region id ops true).wp Try.prog Q a0 w1 := by
  obtain ⟨ds, hds⟩ : ∃ ds, ds = [23, 24, 25, 26, 27, 28, 9, 10] := ⟨_, rfl⟩
  rw [← hds] at hQ
  have out : ∀ f t, t ∉ ds → (actOf a0 ds f).eval (.tmp t) = a0.eval (.tmp t) := fun f t h => actOf_out a0 _ f h
  have inn : ∀ f t, t ∈ ds → t < 76 → (actOf a0 ds f).eval (.tmp t) = f t := fun f t h h2 => actOf_in a0 _ f h (by rw [hsz]; exact h2)
  rw [← actOf_self a0 ds]
  refine wp_region_pv (pre := addadd_regPre) (actOf a0 ds) (fun t => a0.eval (.tmp t)) (by kernel_rfl) hchk addadd_regIts (addadd_regPhi A B x y u v) [⟨6, 9, 8, 25, 2⟩, ⟨7, 10, 9, 28, 5⟩] (by rw [hn]; decide +kernel) ?_ ?_
  · intro i hi
    rw [hn] at hi
    match i, hi with
    | 0, _ =>
      obtain ⟨o, o1, o2, o3, o4⟩ := k0
      exact does_val 23 (by decide) fun f w hB h => wpOp_go o1 o4 (step_load (d := some 23) o2 o3 ((out f 5 (by rw [hds]; decide)).trans e5) (load_numC (tA.by hB)) ⟨_, (actOf_put _ _ _ (by rw [hds]; decide) _), rfl, Bel.refl _⟩)
    | 1, _ =>
      obtain ⟨o, o1, o2, o3, o4⟩ := k1
      exact does_val 24 (by decide) fun f w hB h => wpOp_go o1 o4 (step_load (d := some 24) o2 o3 ((out f 6 (by rw [hds]; decide)).trans e6) (load_numC (tB.by hB)) ⟨_, (actOf_put _ _ _ (by rw [hds]; decide) _), rfl, Bel.refl _⟩)
    | 2, _ =>
      obtain ⟨o, o1, o2, o3, o4⟩ := k2
      exact does_val 25 (by decide) fun f w hB h => wpOp_go o1 o4 (step_callN2 (d := some 25) o2 o3 ((inn f 23 (by rw [hds]; decide) (by decide)).trans (h 0 23 (by decide) (by decide))) ((inn f 24 (by rw [hds]; decide) (by decide)).trans (h 1 24 (by decide) (by decide))) (by kernel_rfl) ((h1 _).mono fun _ _ ⟨v, k1, k0, k2⟩ => ⟨v, k1, _, (actOf_put _ _ _ (by rw [hds]; decide) _), k0, k2⟩))
    | 3, _ =>
      obtain ⟨o, o1, o2, o3, o4⟩ := k3
      exact does_val 26 (by decide) fun f w hB h => wpOp_go o1 o4 (step_load (d := some 26) o2 o3 ((out f 6 (by rw [hds]; decide)).trans e6) (load_numC (tB.by hB)) ⟨_, (actOf_put _ _ _ (by rw [hds]; decide) _), rfl, Bel.refl _⟩)
    | 4, _ =>
      obtain ⟨o, o1, o2, o3, o4⟩ := k4
      exact does_val 27 (by decide) fun f w hB h => wpOp_go o1 o4 (step_load (d := some 27) o2 o3 ((out f 5 (by rw [hds]; decide)).trans e5) (load_numC (tA.by hB)) ⟨_, (actOf_put _ _ _ (by rw [hds]; decide) _), rfl, Bel.refl _⟩)
    | 5, _ =>
      obtain ⟨o, o1, o2, o3, o4⟩ := k5
      exact does_val 28 (by decide) fun f w hB h => wpOp_go o1 o4 (step_callN2 (d := some 28) o2 o3 ((inn f 26 (by rw [hds]; decide) (by decide)).trans (h 3 26 (by decide) (by decide))) ((inn f 27 (by rw [hds]; decide) (by decide)).trans (h 4 27 (by decide) (by decide))) (by kernel_rfl) ((h2 _).mono fun _ _ ⟨v, k1, k0, k2⟩ => ⟨v, k1, _, (actOf_put _ _ _ (by rw [hds]; decide) _), k0, k2⟩))
    | 6, _ =>
      obtain ⟨o, o1, o2, o3, o4⟩ := k6
      exact .alloc ⟨6, 9, 8, 25, 2⟩ (by simp) rfl 25 fun f w K hK => wpOp_go o1 o4 (step_allocC (d := some 9) o2 o3 (by rw [actOf_put _ _ _ (by rw [hds]; decide)]; exact hK))
    | 7, _ =>
      obtain ⟨o, o1, o2, o3, o4⟩ := k7
      exact .alloc ⟨7, 10, 9, 28, 5⟩ (by simp) rfl 25 fun f w K hK => wpOp_go o1 o4 (step_allocC (d := some 10) o2 o3 (by rw [actOf_put _ _ _ (by rw [hds]; decide)]; exact hK))
    | 8, _ =>
      obtain ⟨o, o1, o2, o3, o4⟩ := k8
      exact .store ⟨6, 9, 8, 25, 2⟩ (by simp) rfl (by simp [addadd_regPre]) (by simp [addadd_regPre]) (by intro φ hφ x hx; have e := (lv_in hφ).2; simp only at e; subst e; obtain ⟨u, v, hx, _⟩ := hx; exact ⟨_, _, hx⟩) fun f w K X a b α β hX hv hT hK => wpOp_go o1 o4 (step_storeC (d := none) o2 o3 ((inn f 9 (by rw [hds]; decide) (by decide)).trans hX) ((inn f 25 (by rw [hds]; decide) (by decide)).trans hv) hT hK)
    | 9, _ =>
      obtain ⟨o, o1, o2, o3, o4⟩ := k9
      exact .store ⟨7, 10, 9, 28, 5⟩ (by simp) rfl (by simp [addadd_regPre]) (by simp [addadd_regPre]) (by intro φ hφ x hx; have e := (lv_in hφ).2; simp only at e; subst e; obtain ⟨u, v, hx, _⟩ := hx; exact ⟨_, _, hx⟩) fun f w K X a b α β hX hv hT hK => wpOp_go o1 o4 (step_storeC (d := none) o2 o3 ((inn f 10 (by rw [hds]; decide) (by decide)).trans hX) ((inn f 28 (by rw [hds]; decide) (by decide)).trans hv) hT hK)
    | (m + 10), hi => exact absurd hi (by omega)
  · intro f w hB h hF
    obtain ⟨X0, u0, v0, r0, s0, p0, z0⟩ := hF.1 ⟨6, 9, 8, 25, 2⟩ (by simp)
    have hv0 := h 2 25 (by decide)
    have z0 : f 25 = _ := z0
    have r0 : f 9 = _ := r0
    rw [z0] at hv0
    obtain ⟨X1, u1, v1, r1, s1, p1, z1⟩ := hF.1 ⟨7, 10, 9, 28, 5⟩ (by simp)
    have hv1 := h 5 28 (by decide)
    have z1 : f 28 = _ := z1
    have r1 : f 10 = _ := r1
    rw [z1] at hv1
    have n0_1 : X0 ≠ X1 := fun e => hF.2 ⟨6, 9, 8, 25, 2⟩ (by simp) ⟨7, 10, 9, 28, 5⟩ (by simp) (by decide) (by show f 9 = f 10; rw [r0, r1, e])
    exact hQ f w X0 u0 v0 X1 u1 v1 hB r0 s0 p0 hv0 r1 s1 p1 hv1 n0_1
def conmul_regPre (i : Nat) : List Nat := match i with | 1 => [0] | 3 => [1, 2] | 4 => [1, 3] | 6 => [0, 1, 2, 3, 4, 5] | _ => []
def conmul_regIts : Its := [(0, 29), (1, 30), (2, 31), (3, 32), (4, 33)]
def conmul_regPhi (A B x y u v : Nat) (i : Nat) (z : Value) : Prop := match i with
  | 0 => z = dv x y
  | 1 => z = dv x (Op.negFloat .f64 y)
  | 2 => z = dv u v
  | 3 => z = dv u (Op.negFloat .f64 v)
  | 4 => ∃ r s, z = dv r s ∧ MulR6 x (Op.negFloat .f64 y) u (Op.negFloat .f64 v) r s
  | _ => True
set_option maxHeartbeats 4000000 in
theorem conmul_reg {Q : Exit → Act → World → Prop} {ops : Array Oper} {id : Nat} {w1 : World} (a0 : Act) (A B x y u v : Nat)
    (k0 : OpAt ops 0 (some 29) (.load 25 (.tmp 5)) none)
    (k1 : OpAt ops 1 (some 30) (.call { callee := .value (.func 14), args := #[.tmp 29], argTypes := #[25] }) none)
    (k2 : OpAt ops 2 (some 31) (.load 25 (.tmp 6)) none)
    (k3 : OpAt ops 3 (some 32) (.call { callee := .value (.func 14), args := #[.tmp 31], argTypes := #[25] }) none)
    (k4 : OpAt ops 4 (some 33) (.call { callee := .value (.func 16), args := #[.tmp 30, .tmp 32], argTypes := #[25, 25] }) none)
    (k5 : OpAt ops 5 (some 11) (.alloc 25) none)
    (k6 : OpAt ops 6 none (.store 25 (.tmp 11) (.tmp 33)) none)
    (hn : ops.size = 7) (hchk : chkN conmul_regPre ops = true) (hsz : a0.tmps.size = 76) (e5 : a0.eval (.tmp 5) = .pointer (some ⟨A, 0, none⟩)) (e6 : a0.eval (.tmp 6) = .pointer (some ⟨B, 0, none⟩)) (tA : Two w1 A x y) (tB : Two w1 B u v)
    (h1 : ∀ w, Calls Try.prog 14 #[dv x y] w fun r w' => r = .returned (dv x (Op.negFloat .f64 y)) ∧ Bel w w')
    (h2 : ∀ w, Calls Try.prog 14 #[dv u v] w fun r w' => r = .returned (dv u (Op.negFloat .f64 v)) ∧ Bel w w')
    (h3 : ∀ w, Calls Try.prog 16 #[dv x (Op.negFloat .f64 y), dv u (Op.negFloat .f64 v)] w fun r w' => ∃ z, r = .returned z ∧ (∃ r s, z = dv r s ∧ MulR6 x (Op.negFloat .f64 y) u (Op.negFloat .f64 v) r s) ∧ Bel w w')
    (hQ : ∀ f w X0 u0 v0, Bel w1 w → f 11 = .pointer (some ⟨X0, 0, none⟩) → w1.heap.size ≤ X0 → Two w X0 u0 v0 → (∃ r s, (dv u0 v0) = dv r s ∧ MulR6 x (Op.negFloat .f64 y) u (Op.negFloat .f64 v) r s) → Q .normal (actOf a0 [29, 30, 31, 32, 33, 11] f) w) : (Code.region id ops true).wp Try.prog Q a0 w1 := by
  obtain ⟨ds, hds⟩ : ∃ ds, ds = [29, 30, 31, 32, 33, 11] := ⟨_, rfl⟩
  rw [← hds] at hQ
  have out : ∀ f t, t ∉ ds → (actOf a0 ds f).eval (.tmp t) = a0.eval (.tmp t) := fun f t h => actOf_out a0 _ f h
  have inn : ∀ f t, t ∈ ds → t < 76 → (actOf a0 ds f).eval (.tmp t) = f t := fun f t h h2 => actOf_in a0 _ f h (by rw [hsz]; exact h2)
  rw [← actOf_self a0 ds]
  refine wp_region_pv (pre := conmul_regPre) (actOf a0 ds) (fun t => a0.eval (.tmp t)) (by kernel_rfl) hchk conmul_regIts (conmul_regPhi A B x y u v) [⟨5, 11, 6, 33, 4⟩] (by rw [hn]; decide +kernel) ?_ ?_
  · intro i hi
    rw [hn] at hi
    match i, hi with
    | 0, _ =>
      obtain ⟨o, o1, o2, o3, o4⟩ := k0
      exact does_val 29 (by decide) fun f w hB h => wpOp_go o1 o4 (step_load (d := some 29) o2 o3 ((out f 5 (by rw [hds]; decide)).trans e5) (load_numC (tA.by hB)) ⟨_, (actOf_put _ _ _ (by rw [hds]; decide) _), rfl, Bel.refl _⟩)
    | 1, _ =>
      obtain ⟨o, o1, o2, o3, o4⟩ := k1
      exact does_val 30 (by decide) fun f w hB h => wpOp_go o1 o4 (step_callN1 (d := some 30) o2 o3 ((inn f 29 (by rw [hds]; decide) (by decide)).trans (h 0 29 (by decide) (by decide))) (by kernel_rfl) ((h1 _).mono fun _ _ ⟨k1, k2⟩ => ⟨_, k1, _, (actOf_put _ _ _ (by rw [hds]; decide) _), rfl, k2⟩))
    | 2, _ =>
      obtain ⟨o, o1, o2, o3, o4⟩ := k2
      exact does_val 31 (by decide) fun f w hB h => wpOp_go o1 o4 (step_load (d := some 31) o2 o3 ((out f 6 (by rw [hds]; decide)).trans e6) (load_numC (tB.by hB)) ⟨_, (actOf_put _ _ _ (by rw [hds]; decide) _), rfl, Bel.refl _⟩)
    | 3, _ =>
      obtain ⟨o, o1, o2, o3, o4⟩ := k3
      exact does_val 32 (by decide) fun f w hB h => wpOp_go o1 o4 (step_callN1 (d := some 32) o2 o3 ((inn f 31 (by rw [hds]; decide) (by decide)).trans (h 2 31 (by decide) (by decide))) (by kernel_rfl) ((h2 _).mono fun _ _ ⟨k1, k2⟩ => ⟨_, k1, _, (actOf_put _ _ _ (by rw [hds]; decide) _), rfl, k2⟩))
    | 4, _ =>
      obtain ⟨o, o1, o2, o3, o4⟩ := k4
      exact does_val 33 (by decide) fun f w hB h => wpOp_go o1 o4 (step_callN2 (d := some 33) o2 o3 ((inn f 30 (by rw [hds]; decide) (by decide)).trans (h 1 30 (by decide) (by decide))) ((inn f 32 (by rw [hds]; decide) (by decide)).trans (h 3 32 (by decide) (by decide))) (by kernel_rfl) ((h3 _).mono fun _ _ ⟨v, k1, k0, k2⟩ => ⟨v, k1, _, (actOf_put _ _ _ (by rw [hds]; decide) _), k0, k2⟩))
    | 5, _ =>
      obtain ⟨o, o1, o2, o3, o4⟩ := k5
      exact .alloc ⟨5, 11, 6, 33, 4⟩ (by simp) rfl 25 fun f w K hK => wpOp_go o1 o4 (step_allocC (d := some 11) o2 o3 (by rw [actOf_put _ _ _ (by rw [hds]; decide)]; exact hK))
    | 6, _ =>
      obtain ⟨o, o1, o2, o3, o4⟩ := k6
      exact .store ⟨5, 11, 6, 33, 4⟩ (by simp) rfl (by simp [conmul_regPre]) (by simp [conmul_regPre]) (by intro φ hφ x hx; have e := (lv_in hφ).2; simp only at e; subst e; obtain ⟨u, v, hx, _⟩ := hx; exact ⟨_, _, hx⟩) fun f w K X a b α β hX hv hT hK => wpOp_go o1 o4 (step_storeC (d := none) o2 o3 ((inn f 11 (by rw [hds]; decide) (by decide)).trans hX) ((inn f 33 (by rw [hds]; decide) (by decide)).trans hv) hT hK)
    | (m + 7), hi => exact absurd hi (by omega)
  · intro f w hB h hF
    obtain ⟨X0, u0, v0, r0, s0, p0, z0⟩ := hF.1 ⟨5, 11, 6, 33, 4⟩ (by simp)
    have hv0 := h 4 33 (by decide)
    have z0 : f 33 = _ := z0
    have r0 : f 11 = _ := r0
    rw [z0] at hv0
    exact hQ f w X0 u0 v0 hB r0 s0 p0 hv0 
def sums_regPre (i : Nat) : List Nat := match i with | 1 => [0] | 2 => [1] | 3 => [1] | 4 => [1, 2, 3] | 5 => [1] | 6 => [1, 5] | 7 => [1] | 8 => [1, 7] | 9 => [1, 6, 8] | 10 => [1] | 11 => [1, 10] | 12 => [1] | 13 => [1, 12] | 14 => [1, 11, 13] | 15 => [1, 4, 9, 14] | 16 => [1, 15] | 17 => [15, 16] | 18 => [17] | 19 => [17] | 20 => [17, 18, 19] | 21 => [17] | 22 => [17, 21] | 23 => [17] | 24 => [17, 23] | 25 => [17, 22, 24] | 26 => [17] | 27 => [17, 26] | 28 => [17] | 29 => [17, 28] | 30 => [17, 27, 29] | 31 => [17, 20, 25, 30] | 32 => [17, 31] | 33 => [31, 32] | 34 => [33] | 35 => [33, 34] | 36 => [33] | 37 => [33, 36] | 38 => [33] | 39 => [33, 38] | 40 => [33, 39] | 41 => [33, 35, 37, 40] | 42 => [33, 41] | 43 => [0, 1, 2, 3, 4, 5, 6, 7, 8, 9, 10, 11, 12, 13, 14, 15, 16, 17, 18, 19, 20, 21, 22, 23, 24, 25, 26, 27, 28, 29, 30, 31, 32, 33, 34, 35, 36, 37, 38, 39, 40, 41, 42] | _ => []
def sums_regIts : Its := [(0, 11), (1, 12), (2, 13), (3, 14), (4, 15), (5, 16), (6, 17), (7, 18), (8, 19), (9, 20), (10, 21), (11, 22), (12, 23), (13, 24), (14, 25), (15, 26), (16, 27), (17, 28), (18, 29), (19, 30), (20, 31), (21, 32), (22, 33), (23, 34), (24, 35), (25, 36), (26, 37), (27, 38), (28, 39), (29, 40), (30, 41), (31, 42), (32, 43), (33, 44), (34, 45), (35, 46), (36, 47), (37, 48), (38, 49), (39, 50), (40, 51), (41, 52), (42, 53), (43, 4)]
def sums_regPhi (A B x y u v : Nat) (i : Nat) (z : Value) : Prop := match i with
  | 0 => z = .bool true
  | 1 => z = .bool true
  | 2 => z = dv x y
  | 3 => z = dv u v
  | 4 => ∃ r s, z = dv r s ∧ FR .add x u r ∧ FR .add y v s
  | 5 => z = .pointer (some ⟨A, 0, none⟩)
  | 6 => z = .float .f64 x
  | 7 => z = .pointer (some ⟨B, 0, none⟩)
  | 8 => z = .float .f64 u
  | 9 => ∃ r, z = .float .f64 r ∧ FR .add x u r
  | 10 => z = .pointer (some ⟨A, 1, none⟩)
  | 11 => z = .float .f64 y
  | 12 => z = .pointer (some ⟨B, 1, none⟩)
  | 13 => z = .float .f64 v
  | 14 => ∃ r, z = .float .f64 r ∧ FR .add y v r
  | 15 => z = .bool true
  | 16 => z = .bool true
  | 17 => z = .bool true
  | 18 => z = dv x y
  | 19 => z = dv u v
  | 20 => ∃ r s, z = dv r s ∧ FR .sub x u r ∧ FR .sub y v s
  | 21 => z = .pointer (some ⟨A, 0, none⟩)
  | 22 => z = .float .f64 x
  | 23 => z = .pointer (some ⟨B, 0, none⟩)
  | 24 => z = .float .f64 u
  | 25 => ∃ r, z = .float .f64 r ∧ FR .sub x u r
  | 26 => z = .pointer (some ⟨A, 1, none⟩)
  | 27 => z = .float .f64 y
  | 28 => z = .pointer (some ⟨B, 1, none⟩)
  | 29 => z = .float .f64 v
  | 30 => ∃ r, z = .float .f64 r ∧ FR .sub y v r
  | 31 => z = .bool true
  | 32 => z = .bool true
  | 33 => z = .bool true
  | 34 => z = dv x y
  | 35 => z = dv x (Op.negFloat .f64 y)
  | 36 => z = .pointer (some ⟨A, 0, none⟩)
  | 37 => z = .float .f64 x
  | 38 => z = .pointer (some ⟨A, 1, none⟩)
  | 39 => z = .float .f64 y
  | 40 => z = .float .f64 (Op.negFloat .f64 y)
  | 41 => z = .bool true
  | 42 => z = .bool true
  | 43 => z = .bool true
  | _ => True
set_option maxHeartbeats 4000000 in
theorem sums_reg {Q : Exit → Act → World → Prop} {ops : Array Oper} {id : Nat} {w1 : World} (a0 : Act) (A B x y u v : Nat)
    (k0 : OpAt ops 0 (some 11) (.call { callee := .value (.func 10), args := #[], argTypes := #[] }) none)
    (k1 : OpAt ops 1 (some 12) (.move (.tmp 11)) none)
    (k2 : OpAt ops 2 (some 13) (.load 25 (.tmp 5)) (some (1, true)))
    (k3 : OpAt ops 3 (some 14) (.load 25 (.tmp 6)) (some (1, true)))
    (k4 : OpAt ops 4 (some 15) (.call { callee := .value (.func 12), args := #[.tmp 13, .tmp 14], argTypes := #[25, 25] }) (some (1, true)))
    (k5 : OpAt ops 5 (some 16) (.fieldAddr 25 (.tmp 5) 0) (some (1, true)))
    (k6 : OpAt ops 6 (some 17) (.load 23 (.tmp 16)) (some (1, true)))
    (k7 : OpAt ops 7 (some 18) (.fieldAddr 25 (.tmp 6) 0) (some (1, true)))
    (k8 : OpAt ops 8 (some 19) (.load 23 (.tmp 18)) (some (1, true)))
    (k9 : OpAt ops 9 (some 20) (.binOp .add 23 (.tmp 17) (.tmp 19) 23) (some (1, true)))
    (k10 : OpAt ops 10 (some 21) (.fieldAddr 25 (.tmp 5) 1) (some (1, true)))
    (k11 : OpAt ops 11 (some 22) (.load 23 (.tmp 21)) (some (1, true)))
    (k12 : OpAt ops 12 (some 23) (.fieldAddr 25 (.tmp 6) 1) (some (1, true)))
    (k13 : OpAt ops 13 (some 24) (.load 23 (.tmp 23)) (some (1, true)))
    (k14 : OpAt ops 14 (some 25) (.binOp .add 23 (.tmp 22) (.tmp 24) 23) (some (1, true)))
    (k15 : OpAt ops 15 (some 26) (.call { callee := .value (.func 11), args := #[.tmp 15, .tmp 20, .tmp 25], argTypes := #[25, 23, 23] }) (some (1, true)))
    (k16 : OpAt ops 16 (some 27) (.pick (.tmp 12) (.tmp 26) (.const (.bool false))) none)
    (k17 : OpAt ops 17 (some 28) (.move (.tmp 27)) none)
    (k18 : OpAt ops 18 (some 29) (.load 25 (.tmp 5)) (some (17, true)))
    (k19 : OpAt ops 19 (some 30) (.load 25 (.tmp 6)) (some (17, true)))
    (k20 : OpAt ops 20 (some 31) (.call { callee := .value (.func 13), args := #[.tmp 29, .tmp 30], argTypes := #[25, 25] }) (some (17, true)))
    (k21 : OpAt ops 21 (some 32) (.fieldAddr 25 (.tmp 5) 0) (some (17, true)))
    (k22 : OpAt ops 22 (some 33) (.load 23 (.tmp 32)) (some (17, true)))
    (k23 : OpAt ops 23 (some 34) (.fieldAddr 25 (.tmp 6) 0) (some (17, true)))
    (k24 : OpAt ops 24 (some 35) (.load 23 (.tmp 34)) (some (17, true)))
    (k25 : OpAt ops 25 (some 36) (.binOp .sub 23 (.tmp 33) (.tmp 35) 23) (some (17, true)))
    (k26 : OpAt ops 26 (some 37) (.fieldAddr 25 (.tmp 5) 1) (some (17, true)))
    (k27 : OpAt ops 27 (some 38) (.load 23 (.tmp 37)) (some (17, true)))
    (k28 : OpAt ops 28 (some 39) (.fieldAddr 25 (.tmp 6) 1) (some (17, true)))
    (k29 : OpAt ops 29 (some 40) (.load 23 (.tmp 39)) (some (17, true)))
    (k30 : OpAt ops 30 (some 41) (.binOp .sub 23 (.tmp 38) (.tmp 40) 23) (some (17, true)))
    (k31 : OpAt ops 31 (some 42) (.call { callee := .value (.func 11), args := #[.tmp 31, .tmp 36, .tmp 41], argTypes := #[25, 23, 23] }) (some (17, true)))
    (k32 : OpAt ops 32 (some 43) (.pick (.tmp 28) (.tmp 42) (.const (.bool false))) none)
    (k33 : OpAt ops 33 (some 44) (.move (.tmp 43)) none)
    (k34 : OpAt ops 34 (some 45) (.load 25 (.tmp 5)) (some (33, true)))
    (k35 : OpAt ops 35 (some 46) (.call { callee := .value (.func 14), args := #[.tmp 45], argTypes := #[25] }) (some (33, true)))
    (k36 : OpAt ops 36 (some 47) (.fieldAddr 25 (.tmp 5) 0) (some (33, true)))
    (k37 : OpAt ops 37 (some 48) (.load 23 (.tmp 47)) (some (33, true)))
    (k38 : OpAt ops 38 (some 49) (.fieldAddr 25 (.tmp 5) 1) (some (33, true)))
    (k39 : OpAt ops 39 (some 50) (.load 23 (.tmp 49)) (some (33, true)))
    (k40 : OpAt ops 40 (some 51) (.unOp .neg 23 (.tmp 50)) (some (33, true)))
    (k41 : OpAt ops 41 (some 52) (.call { callee := .value (.func 11), args := #[.tmp 46, .tmp 48, .tmp 51], argTypes := #[25, 23, 23] }) (some (33, true)))
    (k42 : OpAt ops 42 (some 53) (.pick (.tmp 44) (.tmp 52) (.const (.bool false))) none)
    (k43 : OpAt ops 43 (some 4) (.assign (.tmp 53)) none)
    (hn : ops.size = 44) (hchk : chkN sums_regPre ops = true) (hsz : a0.tmps.size = 54) (e5 : a0.eval (.tmp 5) = .pointer (some ⟨A, 0, none⟩)) (e6 : a0.eval (.tmp 6) = .pointer (some ⟨B, 0, none⟩)) (tA : Two w1 A x y) (tB : Two w1 B u v)
    (hwk : ∀ w, Calls Try.prog 10 #[] w fun r w' => r = .returned (.bool true) ∧ Bel w w')
    (h1 : ∀ w, Calls Try.prog 12 #[dv x y, dv u v] w fun r w' => ∃ z, r = .returned z ∧ (∃ r s, z = dv r s ∧ FR .add x u r ∧ FR .add y v s) ∧ Bel w w')
    (i1 : ∀ w, ∀ z0 : Value, (∃ r s, z0 = dv r s ∧ FR .add x u r ∧ FR .add y v s) → ∀ z1 : Value, (∃ r, z1 = .float .f64 r ∧ FR .add x u r) → ∀ z2 : Value, (∃ r, z2 = .float .f64 r ∧ FR .add y v r) → Calls Try.prog 11 #[z0, z1, z2] w fun r w' => r = .returned (.bool true) ∧ Bel w w')
    (h2 : ∀ w, Calls Try.prog 13 #[dv x y, dv u v] w fun r w' => ∃ z, r = .returned z ∧ (∃ r s, z = dv r s ∧ FR .sub x u r ∧ FR .sub y v s) ∧ Bel w w')
    (i2 : ∀ w, ∀ z0 : Value, (∃ r s, z0 = dv r s ∧ FR .sub x u r ∧ FR .sub y v s) → ∀ z1 : Value, (∃ r, z1 = .float .f64 r ∧ FR .sub x u r) → ∀ z2 : Value, (∃ r, z2 = .float .f64 r ∧ FR .sub y v r) → Calls Try.prog 11 #[z0, z1, z2] w fun r w' => r = .returned (.bool true) ∧ Bel w w')
    (h3 : ∀ w, Calls Try.prog 14 #[dv x y] w fun r w' => r = .returned (dv x (Op.negFloat .f64 y)) ∧ Bel w w')
    (i3 : ∀ w, Calls Try.prog 11 #[dv x (Op.negFloat .f64 y), .float .f64 x, .float .f64 (Op.negFloat .f64 y)] w fun r w' => r = .returned (.bool true) ∧ Bel w w')
    (hQ : ∀ f w, Bel w1 w → ((f 4) = .bool true) → Q .normal (actOf a0 [11, 12, 13, 14, 15, 16, 17, 18, 19, 20, 21, 22, 23, 24, 25, 26, 27, 28, 29, 30, 31, 32, 33, 34, 35, 36, 37, 38, 39, 40, 41, 42, 43, 44, 45, 46, 47, 48, 49, 50, 51, 52, 53, 4] f) w) : (Code.region id ops true).wp Try.prog Q a0 w1 := by
  obtain ⟨ds, hds⟩ : ∃ ds, ds = [11, 12, 13, 14, 15, 16, 17, 18, 19, 20, 21, 22, 23, 24, 25, 26, 27, 28, 29, 30, 31, 32, 33, 34, 35, 36, 37, 38, 39, 40, 41, 42, 43, 44, 45, 46, 47, 48, 49, 50, 51, 52, 53, 4] := ⟨_, rfl⟩
  rw [← hds] at hQ
  have out : ∀ f t, t ∉ ds → (actOf a0 ds f).eval (.tmp t) = a0.eval (.tmp t) := fun f t h => actOf_out a0 _ f h
  have inn : ∀ f t, t ∈ ds → t < 54 → (actOf a0 ds f).eval (.tmp t) = f t := fun f t h h2 => actOf_in a0 _ f h (by rw [hsz]; exact h2)
  rw [← actOf_self a0 ds]
  refine wp_region_pv (pre := sums_regPre) (actOf a0 ds) (fun t => a0.eval (.tmp t)) (by kernel_rfl) hchk sums_regIts (sums_regPhi A B x y u v) [] (by rw [hn]; decide +kernel) ?_ ?_
  · intro i hi
    rw [hn] at hi
    match i, hi with
    | 0, _ =>
      obtain ⟨o, o1, o2, o3, o4⟩ := k0
      exact does_val 11 (by decide) fun f w hB h => wpOp_go o1 o4 (step_callN0 (d := some 11) o2 o3  (by kernel_rfl) ((hwk _).mono fun _ _ ⟨k1, k2⟩ => ⟨_, k1, _, (actOf_put _ _ _ (by rw [hds]; decide) _), rfl, k2⟩))
    | 1, _ =>
      obtain ⟨o, o1, o2, o3, o4⟩ := k1
      exact does_val 12 (by decide) fun f w hB h => wpOp_go o1 o4 (step_move (d := some 12) o2 (Or.inl o3) ((inn f 11 (by rw [hds]; decide) (by decide)).trans (h 0 11 (by decide) (by decide))) ⟨_, (actOf_put _ _ _ (by rw [hds]; decide) _), rfl, Bel.refl _⟩)
    | 2, _ =>
      obtain ⟨o, o1, o2, o3, o4⟩ := k2
      exact does_val 13 (by decide) fun f w hB h => wpOp_if o1 o4 k1.dst ((inn f 12 (by rw [hds]; decide) (by decide)).trans (h 1 12 (by decide) (by decide))) (step_load (d := some 13) o2 o3 ((out f 5 (by rw [hds]; decide)).trans e5) (load_numC (tA.by hB)) ⟨_, (actOf_put _ _ _ (by rw [hds]; decide) _), rfl, Bel.refl _⟩)
    | 3, _ =>
      obtain ⟨o, o1, o2, o3, o4⟩ := k3
      exact does_val 14 (by decide) fun f w hB h => wpOp_if o1 o4 k1.dst ((inn f 12 (by rw [hds]; decide) (by decide)).trans (h 1 12 (by decide) (by decide))) (step_load (d := some 14) o2 o3 ((out f 6 (by rw [hds]; decide)).trans e6) (load_numC (tB.by hB)) ⟨_, (actOf_put _ _ _ (by rw [hds]; decide) _), rfl, Bel.refl _⟩)
    | 4, _ =>
      obtain ⟨o, o1, o2, o3, o4⟩ := k4
      exact does_val 15 (by decide) fun f w hB h => wpOp_if o1 o4 k1.dst ((inn f 12 (by rw [hds]; decide) (by decide)).trans (h 1 12 (by decide) (by decide))) (step_callN2 (d := some 15) o2 o3 ((inn f 13 (by rw [hds]; decide) (by decide)).trans (h 2 13 (by decide) (by decide))) ((inn f 14 (by rw [hds]; decide) (by decide)).trans (h 3 14 (by decide) (by decide))) (by kernel_rfl) ((h1 _).mono fun _ _ ⟨v, k1, k0, k2⟩ => ⟨v, k1, _, (actOf_put _ _ _ (by rw [hds]; decide) _), k0, k2⟩))
    | 5, _ =>
      obtain ⟨o, o1, o2, o3, o4⟩ := k5
      exact does_val 16 (by decide) fun f w hB h => wpOp_if o1 o4 k1.dst ((inn f 12 (by rw [hds]; decide) (by decide)).trans (h 1 12 (by decide) (by decide))) (step_field (d := some 16) o2 o3 ((out f 5 (by rw [hds]; decide)).trans e5) field_hiC ⟨_, (actOf_put _ _ _ (by rw [hds]; decide) _), rfl, Bel.refl _⟩)
    | 6, _ =>
      obtain ⟨o, o1, o2, o3, o4⟩ := k6
      exact does_val 17 (by decide) fun f w hB h => wpOp_if o1 o4 k1.dst ((inn f 12 (by rw [hds]; decide) (by decide)).trans (h 1 12 (by decide) (by decide))) (step_load (d := some 17) o2 o3 ((inn f 16 (by rw [hds]; decide) (by decide)).trans (h 5 16 (by decide) (by decide))) (load_float (tA.by hB).c0) ⟨_, (actOf_put _ _ _ (by rw [hds]; decide) _), rfl, Bel.refl _⟩)
    | 7, _ =>
      obtain ⟨o, o1, o2, o3, o4⟩ := k7
      exact does_val 18 (by decide) fun f w hB h => wpOp_if o1 o4 k1.dst ((inn f 12 (by rw [hds]; decide) (by decide)).trans (h 1 12 (by decide) (by decide))) (step_field (d := some 18) o2 o3 ((out f 6 (by rw [hds]; decide)).trans e6) field_hiC ⟨_, (actOf_put _ _ _ (by rw [hds]; decide) _), rfl, Bel.refl _⟩)
    | 8, _ =>
      obtain ⟨o, o1, o2, o3, o4⟩ := k8
      exact does_val 19 (by decide) fun f w hB h => wpOp_if o1 o4 k1.dst ((inn f 12 (by rw [hds]; decide) (by decide)).trans (h 1 12 (by decide) (by decide))) (step_load (d := some 19) o2 o3 ((inn f 18 (by rw [hds]; decide) (by decide)).trans (h 7 18 (by decide) (by decide))) (load_float (tB.by hB).c0) ⟨_, (actOf_put _ _ _ (by rw [hds]; decide) _), rfl, Bel.refl _⟩)
    | 9, _ =>
      obtain ⟨o, o1, o2, o3, o4⟩ := k9
      exact does_val 20 (by decide) fun f w hB h => wpOp_if o1 o4 k1.dst ((inn f 12 (by rw [hds]; decide) (by decide)).trans (h 1 12 (by decide) (by decide))) (step_arith (d := some 20) arA o2 o3 ((inn f 17 (by rw [hds]; decide) (by decide)).trans (h 6 17 (by decide) (by decide))) ((inn f 19 (by rw [hds]; decide) (by decide)).trans (h 8 19 (by decide) (by decide))) (fun r k1 k2 => ⟨_, (actOf_put _ _ _ (by rw [hds]; decide) _), ⟨r, rfl, k1⟩, k2⟩))
    | 10, _ =>
      obtain ⟨o, o1, o2, o3, o4⟩ := k10
      exact does_val 21 (by decide) fun f w hB h => wpOp_if o1 o4 k1.dst ((inn f 12 (by rw [hds]; decide) (by decide)).trans (h 1 12 (by decide) (by decide))) (step_field (d := some 21) o2 o3 ((out f 5 (by rw [hds]; decide)).trans e5) field_loC ⟨_, (actOf_put _ _ _ (by rw [hds]; decide) _), rfl, Bel.refl _⟩)
    | 11, _ =>
      obtain ⟨o, o1, o2, o3, o4⟩ := k11
      exact does_val 22 (by decide) fun f w hB h => wpOp_if o1 o4 k1.dst ((inn f 12 (by rw [hds]; decide) (by decide)).trans (h 1 12 (by decide) (by decide))) (step_load (d := some 22) o2 o3 ((inn f 21 (by rw [hds]; decide) (by decide)).trans (h 10 21 (by decide) (by decide))) (load_float (tA.by hB).c1) ⟨_, (actOf_put _ _ _ (by rw [hds]; decide) _), rfl, Bel.refl _⟩)
    | 12, _ =>
      obtain ⟨o, o1, o2, o3, o4⟩ := k12
      exact does_val 23 (by decide) fun f w hB h => wpOp_if o1 o4 k1.dst ((inn f 12 (by rw [hds]; decide) (by decide)).trans (h 1 12 (by decide) (by decide))) (step_field (d := some 23) o2 o3 ((out f 6 (by rw [hds]; decide)).trans e6) field_loC ⟨_, (actOf_put _ _ _ (by rw [hds]; decide) _), rfl, Bel.refl _⟩)
    | 13, _ =>
      obtain ⟨o, o1, o2, o3, o4⟩ := k13
      exact does_val 24 (by decide) fun f w hB h => wpOp_if o1 o4 k1.dst ((inn f 12 (by rw [hds]; decide) (by decide)).trans (h 1 12 (by decide) (by decide))) (step_load (d := some 24) o2 o3 ((inn f 23 (by rw [hds]; decide) (by decide)).trans (h 12 23 (by decide) (by decide))) (load_float (tB.by hB).c1) ⟨_, (actOf_put _ _ _ (by rw [hds]; decide) _), rfl, Bel.refl _⟩)
    | 14, _ =>
      obtain ⟨o, o1, o2, o3, o4⟩ := k14
      exact does_val 25 (by decide) fun f w hB h => wpOp_if o1 o4 k1.dst ((inn f 12 (by rw [hds]; decide) (by decide)).trans (h 1 12 (by decide) (by decide))) (step_arith (d := some 25) arA o2 o3 ((inn f 22 (by rw [hds]; decide) (by decide)).trans (h 11 22 (by decide) (by decide))) ((inn f 24 (by rw [hds]; decide) (by decide)).trans (h 13 24 (by decide) (by decide))) (fun r k1 k2 => ⟨_, (actOf_put _ _ _ (by rw [hds]; decide) _), ⟨r, rfl, k1⟩, k2⟩))
    | 15, _ =>
      obtain ⟨o, o1, o2, o3, o4⟩ := k15
      refine does_val 26 (by decide) fun f w hB h => ?_
      have r15 := h 4 15 (by decide) (by decide)
      have r20 := h 9 20 (by decide) (by decide)
      have r25 := h 14 25 (by decide) (by decide)
      exact wpOp_if o1 o4 k1.dst ((inn f 12 (by rw [hds]; decide) (by decide)).trans (h 1 12 (by decide) (by decide))) (step_callN3 (d := some 26) o2 o3 (inn f 15 (by rw [hds]; decide) (by decide)) (inn f 20 (by rw [hds]; decide) (by decide)) (inn f 25 (by rw [hds]; decide) (by decide)) (by kernel_rfl) ((i1 _ _ r15 _ r20 _ r25).mono fun _ _ ⟨k1, k2⟩ => ⟨_, k1, _, (actOf_put _ _ _ (by rw [hds]; decide) _), rfl, k2⟩))
    | 16, _ =>
      obtain ⟨o, o1, o2, o3, o4⟩ := k16
      exact does_val 27 (by decide) fun f w hB h => wpOp_go o1 o4 (step_pick (d := some 27) o2 o3 ((inn f 12 (by rw [hds]; decide) (by decide)).trans (h 1 12 (by decide) (by decide))) ((inn f 26 (by rw [hds]; decide) (by decide)).trans (h 15 26 (by decide) (by decide))) ⟨_, (actOf_put _ _ _ (by rw [hds]; decide) _), rfl, Bel.refl _⟩)
    | 17, _ =>
      obtain ⟨o, o1, o2, o3, o4⟩ := k17
      exact does_val 28 (by decide) fun f w hB h => wpOp_go o1 o4 (step_move (d := some 28) o2 (Or.inl o3) ((inn f 27 (by rw [hds]; decide) (by decide)).trans (h 16 27 (by decide) (by decide))) ⟨_, (actOf_put _ _ _ (by rw [hds]; decide) _), rfl, Bel.refl _⟩)
    | 18, _ =>
      obtain ⟨o, o1, o2, o3, o4⟩ := k18
      exact does_val 29 (by decide) fun f w hB h => wpOp_if o1 o4 k17.dst ((inn f 28 (by rw [hds]; decide) (by decide)).trans (h 17 28 (by decide) (by decide))) (step_load (d := some 29) o2 o3 ((out f 5 (by rw [hds]; decide)).trans e5) (load_numC (tA.by hB)) ⟨_, (actOf_put _ _ _ (by rw [hds]; decide) _), rfl, Bel.refl _⟩)
    | 19, _ =>
      obtain ⟨o, o1, o2, o3, o4⟩ := k19
      exact does_val 30 (by decide) fun f w hB h => wpOp_if o1 o4 k17.dst ((inn f 28 (by rw [hds]; decide) (by decide)).trans (h 17 28 (by decide) (by decide))) (step_load (d := some 30) o2 o3 ((out f 6 (by rw [hds]; decide)).trans e6) (load_numC (tB.by hB)) ⟨_, (actOf_put _ _ _ (by rw [hds]; decide) _), rfl, Bel.refl _⟩)
    | 20, _ =>
      obtain ⟨o, o1, o2, o3, o4⟩ := k20
      exact does_val 31 (by decide) fun f w hB h => wpOp_if o1 o4 k17.dst ((inn f 28 (by rw [hds]; decide) (by decide)).trans (h 17 28 (by decide) (by decide))) (step_callN2 (d := some 31) o2 o3 ((inn f 29 (by rw [hds]; decide) (by decide)).trans (h 18 29 (by decide) (by decide))) ((inn f 30 (by rw [hds]; decide) (by decide)).trans (h 19 30 (by decide) (by decide))) (by kernel_rfl) ((h2 _).mono fun _ _ ⟨v, k1, k0, k2⟩ => ⟨v, k1, _, (actOf_put _ _ _ (by rw [hds]; decide) _), k0, k2⟩))
    | 21, _ =>
      obtain ⟨o, o1, o2, o3, o4⟩ := k21
      exact does_val 32 (by decide) fun f w hB h => wpOp_if o1 o4 k17.dst ((inn f 28 (by rw [hds]; decide) (by decide)).trans (h 17 28 (by decide) (by decide))) (step_field (d := some 32) o2 o3 ((out f 5 (by rw [hds]; decide)).trans e5) field_hiC ⟨_, (actOf_put _ _ _ (by rw [hds]; decide) _), rfl, Bel.refl _⟩)
    | 22, _ =>
      obtain ⟨o, o1, o2, o3, o4⟩ := k22
      exact does_val 33 (by decide) fun f w hB h => wpOp_if o1 o4 k17.dst ((inn f 28 (by rw [hds]; decide) (by decide)).trans (h 17 28 (by decide) (by decide))) (step_load (d := some 33) o2 o3 ((inn f 32 (by rw [hds]; decide) (by decide)).trans (h 21 32 (by decide) (by decide))) (load_float (tA.by hB).c0) ⟨_, (actOf_put _ _ _ (by rw [hds]; decide) _), rfl, Bel.refl _⟩)
    | 23, _ =>
      obtain ⟨o, o1, o2, o3, o4⟩ := k23
      exact does_val 34 (by decide) fun f w hB h => wpOp_if o1 o4 k17.dst ((inn f 28 (by rw [hds]; decide) (by decide)).trans (h 17 28 (by decide) (by decide))) (step_field (d := some 34) o2 o3 ((out f 6 (by rw [hds]; decide)).trans e6) field_hiC ⟨_, (actOf_put _ _ _ (by rw [hds]; decide) _), rfl, Bel.refl _⟩)
    | 24, _ =>
      obtain ⟨o, o1, o2, o3, o4⟩ := k24
      exact does_val 35 (by decide) fun f w hB h => wpOp_if o1 o4 k17.dst ((inn f 28 (by rw [hds]; decide) (by decide)).trans (h 17 28 (by decide) (by decide))) (step_load (d := some 35) o2 o3 ((inn f 34 (by rw [hds]; decide) (by decide)).trans (h 23 34 (by decide) (by decide))) (load_float (tB.by hB).c0) ⟨_, (actOf_put _ _ _ (by rw [hds]; decide) _), rfl, Bel.refl _⟩)
    | 25, _ =>
      obtain ⟨o, o1, o2, o3, o4⟩ := k25
      exact does_val 36 (by decide) fun f w hB h => wpOp_if o1 o4 k17.dst ((inn f 28 (by rw [hds]; decide) (by decide)).trans (h 17 28 (by decide) (by decide))) (step_arith (d := some 36) arS o2 o3 ((inn f 33 (by rw [hds]; decide) (by decide)).trans (h 22 33 (by decide) (by decide))) ((inn f 35 (by rw [hds]; decide) (by decide)).trans (h 24 35 (by decide) (by decide))) (fun r k1 k2 => ⟨_, (actOf_put _ _ _ (by rw [hds]; decide) _), ⟨r, rfl, k1⟩, k2⟩))
    | 26, _ =>
      obtain ⟨o, o1, o2, o3, o4⟩ := k26
      exact does_val 37 (by decide) fun f w hB h => wpOp_if o1 o4 k17.dst ((inn f 28 (by rw [hds]; decide) (by decide)).trans (h 17 28 (by decide) (by decide))) (step_field (d := some 37) o2 o3 ((out f 5 (by rw [hds]; decide)).trans e5) field_loC ⟨_, (actOf_put _ _ _ (by rw [hds]; decide) _), rfl, Bel.refl _⟩)
    | 27, _ =>
      obtain ⟨o, o1, o2, o3, o4⟩ := k27
      exact does_val 38 (by decide) fun f w hB h => wpOp_if o1 o4 k17.dst ((inn f 28 (by rw [hds]; decide) (by decide)).trans (h 17 28 (by decide) (by decide))) (step_load (d := some 38) o2 o3 ((inn f 37 (by rw [hds]; decide) (by decide)).trans (h 26 37 (by decide) (by decide))) (load_float (tA.by hB).c1) ⟨_, (actOf_put _ _ _ (by rw [hds]; decide) _), rfl, Bel.refl _⟩)
    | 28, _ =>
      obtain ⟨o, o1, o2, o3, o4⟩ := k28
      exact does_val 39 (by decide) fun f w hB h => wpOp_if o1 o4 k17.dst ((inn f 28 (by rw [hds]; decide) (by decide)).trans (h 17 28 (by decide) (by decide))) (step_field (d := some 39) o2 o3 ((out f 6 (by rw [hds]; decide)).trans e6) field_loC ⟨_, (actOf_put _ _ _ (by rw [hds]; decide) _), rfl, Bel.refl _⟩)
    | 29, _ =>
      obtain ⟨o, o1, o2, o3, o4⟩ := k29
      exact does_val 40 (by decide) fun f w hB h => wpOp_if o1 o4 k17.dst ((inn f 28 (by rw [hds]; decide) (by decide)).trans (h 17 28 (by decide) (by decide))) (step_load (d := some 40) o2 o3 ((inn f 39 (by rw [hds]; decide) (by decide)).trans (h 28 39 (by decide) (by decide))) (load_float (tB.by hB).c1) ⟨_, (actOf_put _ _ _ (by rw [hds]; decide) _), rfl, Bel.refl _⟩)
    | 30, _ =>
      obtain ⟨o, o1, o2, o3, o4⟩ := k30
      exact does_val 41 (by decide) fun f w hB h => wpOp_if o1 o4 k17.dst ((inn f 28 (by rw [hds]; decide) (by decide)).trans (h 17 28 (by decide) (by decide))) (step_arith (d := some 41) arS o2 o3 ((inn f 38 (by rw [hds]; decide) (by decide)).trans (h 27 38 (by decide) (by decide))) ((inn f 40 (by rw [hds]; decide) (by decide)).trans (h 29 40 (by decide) (by decide))) (fun r k1 k2 => ⟨_, (actOf_put _ _ _ (by rw [hds]; decide) _), ⟨r, rfl, k1⟩, k2⟩))
    | 31, _ =>
      obtain ⟨o, o1, o2, o3, o4⟩ := k31
      refine does_val 42 (by decide) fun f w hB h => ?_
      have r31 := h 20 31 (by decide) (by decide)
      have r36 := h 25 36 (by decide) (by decide)
      have r41 := h 30 41 (by decide) (by decide)
      exact wpOp_if o1 o4 k17.dst ((inn f 28 (by rw [hds]; decide) (by decide)).trans (h 17 28 (by decide) (by decide))) (step_callN3 (d := some 42) o2 o3 (inn f 31 (by rw [hds]; decide) (by decide)) (inn f 36 (by rw [hds]; decide) (by decide)) (inn f 41 (by rw [hds]; decide) (by decide)) (by kernel_rfl) ((i2 _ _ r31 _ r36 _ r41).mono fun _ _ ⟨k1, k2⟩ => ⟨_, k1, _, (actOf_put _ _ _ (by rw [hds]; decide) _), rfl, k2⟩))
    | 32, _ =>
      obtain ⟨o, o1, o2, o3, o4⟩ := k32
      exact does_val 43 (by decide) fun f w hB h => wpOp_go o1 o4 (step_pick (d := some 43) o2 o3 ((inn f 28 (by rw [hds]; decide) (by decide)).trans (h 17 28 (by decide) (by decide))) ((inn f 42 (by rw [hds]; decide) (by decide)).trans (h 31 42 (by decide) (by decide))) ⟨_, (actOf_put _ _ _ (by rw [hds]; decide) _), rfl, Bel.refl _⟩)
    | 33, _ =>
      obtain ⟨o, o1, o2, o3, o4⟩ := k33
      exact does_val 44 (by decide) fun f w hB h => wpOp_go o1 o4 (step_move (d := some 44) o2 (Or.inl o3) ((inn f 43 (by rw [hds]; decide) (by decide)).trans (h 32 43 (by decide) (by decide))) ⟨_, (actOf_put _ _ _ (by rw [hds]; decide) _), rfl, Bel.refl _⟩)
    | 34, _ =>
      obtain ⟨o, o1, o2, o3, o4⟩ := k34
      exact does_val 45 (by decide) fun f w hB h => wpOp_if o1 o4 k33.dst ((inn f 44 (by rw [hds]; decide) (by decide)).trans (h 33 44 (by decide) (by decide))) (step_load (d := some 45) o2 o3 ((out f 5 (by rw [hds]; decide)).trans e5) (load_numC (tA.by hB)) ⟨_, (actOf_put _ _ _ (by rw [hds]; decide) _), rfl, Bel.refl _⟩)
    | 35, _ =>
      obtain ⟨o, o1, o2, o3, o4⟩ := k35
      exact does_val 46 (by decide) fun f w hB h => wpOp_if o1 o4 k33.dst ((inn f 44 (by rw [hds]; decide) (by decide)).trans (h 33 44 (by decide) (by decide))) (step_callN1 (d := some 46) o2 o3 ((inn f 45 (by rw [hds]; decide) (by decide)).trans (h 34 45 (by decide) (by decide))) (by kernel_rfl) ((h3 _).mono fun _ _ ⟨k1, k2⟩ => ⟨_, k1, _, (actOf_put _ _ _ (by rw [hds]; decide) _), rfl, k2⟩))
    | 36, _ =>
      obtain ⟨o, o1, o2, o3, o4⟩ := k36
      exact does_val 47 (by decide) fun f w hB h => wpOp_if o1 o4 k33.dst ((inn f 44 (by rw [hds]; decide) (by decide)).trans (h 33 44 (by decide) (by decide))) (step_field (d := some 47) o2 o3 ((out f 5 (by rw [hds]; decide)).trans e5) field_hiC ⟨_, (actOf_put _ _ _ (by rw [hds]; decide) _), rfl, Bel.refl _⟩)
    | 37, _ =>
      obtain ⟨o, o1, o2, o3, o4⟩ := k37
      exact does_val 48 (by decide) fun f w hB h => wpOp_if o1 o4 k33.dst ((inn f 44 (by rw [hds]; decide) (by decide)).trans (h 33 44 (by decide) (by decide))) (step_load (d := some 48) o2 o3 ((inn f 47 (by rw [hds]; decide) (by decide)).trans (h 36 47 (by decide) (by decide))) (load_float (tA.by hB).c0) ⟨_, (actOf_put _ _ _ (by rw [hds]; decide) _), rfl, Bel.refl _⟩)
    | 38, _ =>
      obtain ⟨o, o1, o2, o3, o4⟩ := k38
      exact does_val 49 (by decide) fun f w hB h => wpOp_if o1 o4 k33.dst ((inn f 44 (by rw [hds]; decide) (by decide)).trans (h 33 44 (by decide) (by decide))) (step_field (d := some 49) o2 o3 ((out f 5 (by rw [hds]; decide)).trans e5) field_loC ⟨_, (actOf_put _ _ _ (by rw [hds]; decide) _), rfl, Bel.refl _⟩)
    | 39, _ =>
      obtain ⟨o, o1, o2, o3, o4⟩ := k39
      exact does_val 50 (by decide) fun f w hB h => wpOp_if o1 o4 k33.dst ((inn f 44 (by rw [hds]; decide) (by decide)).trans (h 33 44 (by decide) (by decide))) (step_load (d := some 50) o2 o3 ((inn f 49 (by rw [hds]; decide) (by decide)).trans (h 38 49 (by decide) (by decide))) (load_float (tA.by hB).c1) ⟨_, (actOf_put _ _ _ (by rw [hds]; decide) _), rfl, Bel.refl _⟩)
    | 40, _ =>
      obtain ⟨o, o1, o2, o3, o4⟩ := k40
      exact does_val 51 (by decide) fun f w hB h => wpOp_if o1 o4 k33.dst ((inn f 44 (by rw [hds]; decide) (by decide)).trans (h 33 44 (by decide) (by decide))) (step_neg (d := some 51) o2 o3 ((inn f 50 (by rw [hds]; decide) (by decide)).trans (h 39 50 (by decide) (by decide))) ⟨_, (actOf_put _ _ _ (by rw [hds]; decide) _), rfl, Bel.refl _⟩)
    | 41, _ =>
      obtain ⟨o, o1, o2, o3, o4⟩ := k41
      exact does_val 52 (by decide) fun f w hB h => wpOp_if o1 o4 k33.dst ((inn f 44 (by rw [hds]; decide) (by decide)).trans (h 33 44 (by decide) (by decide))) (step_callN3 (d := some 52) o2 o3 ((inn f 46 (by rw [hds]; decide) (by decide)).trans (h 35 46 (by decide) (by decide))) ((inn f 48 (by rw [hds]; decide) (by decide)).trans (h 37 48 (by decide) (by decide))) ((inn f 51 (by rw [hds]; decide) (by decide)).trans (h 40 51 (by decide) (by decide))) (by kernel_rfl) ((i3 _).mono fun _ _ ⟨k1, k2⟩ => ⟨_, k1, _, (actOf_put _ _ _ (by rw [hds]; decide) _), rfl, k2⟩))
    | 42, _ =>
      obtain ⟨o, o1, o2, o3, o4⟩ := k42
      exact does_val 53 (by decide) fun f w hB h => wpOp_go o1 o4 (step_pick (d := some 53) o2 o3 ((inn f 44 (by rw [hds]; decide) (by decide)).trans (h 33 44 (by decide) (by decide))) ((inn f 52 (by rw [hds]; decide) (by decide)).trans (h 41 52 (by decide) (by decide))) ⟨_, (actOf_put _ _ _ (by rw [hds]; decide) _), rfl, Bel.refl _⟩)
    | 43, _ =>
      obtain ⟨o, o1, o2, o3, o4⟩ := k43
      exact does_val 4 (by decide) fun f w hB h => wpOp_go o1 o4 (step_move (d := some 4) o2 (Or.inr o3) ((inn f 53 (by rw [hds]; decide) (by decide)).trans (h 42 53 (by decide) (by decide))) ⟨_, (actOf_put _ _ _ (by rw [hds]; decide) _), rfl, Bel.refl _⟩)
    | (m + 44), hi => exact absurd hi (by omega)
  · intro f w hB h _
    exact hQ f w hB (h 43 4 (by decide))
end Go.Proofs.Ytnclnbbnkfolgaa

/- The regions of CplxLists that draw their order. -/
import Derived.Test.YtnclnbbnkfolgaaStepM
import Derived.Test.YtnclnbbnkfolgaaRegP
import Derived.Test.YtnclnbbnkfolgaaStepC
import Derived.Test.YtnclnbbnkfolgaaArr6
import Derived.Test.YtnclnbbnkfolgaaSame6
namespace Go.Proofs.Ytnclnbbnkfolgaa
open Go.RowKit
set_option linter.unusedVariables false

theorem step_not {P : Program} {o : Oper} {d : Option Nat} {a : Act} {w : World} {K : Act → World → Prop} {Q : Exit → Act → World → Prop} {t : TypeId} {s : Operand} {b : Bool} (hd : o.dst = d) (hop : o.op = .unOp .not t s) (hs : a.eval s = .bool b) (hK : K (a.put d (.bool (!b))) w) : Oper.wp P o a w K Q := by
  subst hd
  unfold Oper.wp
  have h3 : (execOp a.eval o).run P w = .ok (.value (.bool (!b))) w := by
    simp only [execOp, hop, hs]
    rfl
  rw [h3]
  exact hK
theorem index_i (g off n cap i : Nat) (hi : i < n) (w : World) : (Instr.indexAt 44 (.slice (some ⟨g, off, none⟩) n cap) (.int .i64 (i : Int))).run Try.prog w = .ok (.pointer (some ⟨g, off + i, none⟩)) w := by
  simp [go_sem, hi]
theorem load_cat {w : World} {A j x y : Nat} (h : w.cell? ⟨A, j, none⟩ = some (.float .f64 x)) (k : w.cell? ⟨A, j + 1, none⟩ = some (.float .f64 y)) : (Instr.loadAt 25 (.pointer (some ⟨A, j, none⟩))).run Try.prog w = .ok (dv x y) w := by
  simp [go_sem, h, k]
def lists_regPre (i : Nat) : List Nat := match i with | 2 => [0, 1] | 3 => [2] | 6 => [4, 5] | 7 => [6] | 8 => [7] | 11 => [9, 10] | 12 => [11] | 13 => [8, 12] | 14 => [3, 8, 13] | 15 => [14] | 16 => [14, 15] | 17 => [16] | 18 => [16] | 19 => [16, 17, 18] | 20 => [16, 19] | 21 => [16] | 22 => [16] | 23 => [16, 21, 22] | 24 => [16, 23] | 25 => [16, 24] | 26 => [16, 20, 25] | 27 => [16, 26] | 28 => [16, 27] | 29 => [26, 28] | 30 => [29] | 31 => [29] | 32 => [29, 30, 31] | 33 => [29, 32] | 34 => [29] | 35 => [29] | 36 => [29, 34, 35] | 37 => [29, 36] | 38 => [29, 37] | 39 => [29, 33, 38] | 40 => [29, 39] | 41 => [29, 40] | _ => []
def lists_regIts : Its := [(0, 98), (1, 99), (2, 100), (3, 101), (4, 102), (5, 103), (6, 104), (7, 105), (8, 106), (9, 107), (10, 108), (11, 109), (12, 110), (13, 111), (14, 112), (15, 113), (16, 114), (17, 115), (18, 116), (19, 117), (20, 118), (21, 119), (22, 120), (23, 121), (24, 122), (25, 123), (26, 124), (27, 125), (28, 126), (29, 127), (30, 128), (31, 129), (32, 130), (33, 131), (34, 132), (35, 133), (36, 134), (37, 135), (38, 136), (39, 137), (40, 138), (41, 139)]
def lists_regPhi (A B L P Q' oa ob n ca cb m : Nat) (za zb : Int) (i : Nat) (z : Value) : Prop := match i with
  | 0 => z = .slice (some ⟨L, 0, none⟩) n n
  | 1 => z = .int .i64 (m : Int)
  | 2 => z = .pointer (some ⟨L, m * 2, none⟩)
  | 3 => z = dv (wd za) (wd zb)
  | 4 => z = .slice (some ⟨A, oa, none⟩) n ca
  | 5 => z = .int .i64 (m : Int)
  | 6 => z = .pointer (some ⟨A, oa + m, none⟩)
  | 7 => z = .int .i64 za
  | 8 => z = .float .f64 (wd za)
  | 9 => z = .slice (some ⟨B, ob, none⟩) n cb
  | 10 => z = .int .i64 (m : Int)
  | 11 => z = .pointer (some ⟨B, ob + m, none⟩)
  | 12 => z = .int .i64 zb
  | 13 => z = .float .f64 (wd zb)
  | 14 => z = .bool true
  | 15 => z = .bool false
  | 16 => z = .bool false
  | 17 => z = .slice (some ⟨P, 0, none⟩) n n
  | 18 => z = .int .i64 (m : Int)
  | 19 => z = .pointer (some ⟨P, m, none⟩)
  | 20 => z = .float .f64 (wd za)
  | 21 => z = .slice (some ⟨A, oa, none⟩) n ca
  | 22 => z = .int .i64 (m : Int)
  | 23 => z = .pointer (some ⟨A, oa + m, none⟩)
  | 24 => z = .int .i64 za
  | 25 => z = .float .f64 (wd za)
  | 26 => z = .bool true
  | 27 => z = .bool false
  | 28 => z = .bool false
  | 29 => z = .bool false
  | 30 => z = .slice (some ⟨Q', 0, none⟩) n n
  | 31 => z = .int .i64 (m : Int)
  | 32 => z = .pointer (some ⟨Q', m, none⟩)
  | 33 => z = .float .f64 (wd zb)
  | 34 => z = .slice (some ⟨B, ob, none⟩) n cb
  | 35 => z = .int .i64 (m : Int)
  | 36 => z = .pointer (some ⟨B, ob + m, none⟩)
  | 37 => z = .int .i64 zb
  | 38 => z = .float .f64 (wd zb)
  | 39 => z = .bool true
  | 40 => z = .bool false
  | 41 => z = .bool false
  | _ => True
set_option maxHeartbeats 4000000 in
theorem lists_reg {Q : Exit → Act → World → Prop} {ops : Array Oper} {id : Nat} {w1 : World} (a0 : Act) (A B L P Q' oa ob n ca cb m : Nat) (za zb : Int)
    (k0 : OpAt ops 0 (some 98) (.move (.tmp 11)) none)
    (k1 : OpAt ops 1 (some 99) (.move (.tmp 15)) none)
    (k2 : OpAt ops 2 (some 100) (.indexAddr 38 (.tmp 98) (.tmp 99)) none)
    (k3 : OpAt ops 3 (some 101) (.load 25 (.tmp 100)) none)
    (k4 : OpAt ops 4 (some 102) (.move (.tmp 0)) none)
    (k5 : OpAt ops 5 (some 103) (.move (.tmp 15)) none)
    (k6 : OpAt ops 6 (some 104) (.indexAddr 44 (.tmp 102) (.tmp 103)) none)
    (k7 : OpAt ops 7 (some 105) (.load 2 (.tmp 104)) none)
    (k8 : OpAt ops 8 (some 106) (.call { callee := .value (.func 21), args := #[.tmp 105], argTypes := #[2] }) none)
    (k9 : OpAt ops 9 (some 107) (.move (.tmp 1)) none)
    (k10 : OpAt ops 10 (some 108) (.move (.tmp 15)) none)
    (k11 : OpAt ops 11 (some 109) (.indexAddr 44 (.tmp 107) (.tmp 108)) none)
    (k12 : OpAt ops 12 (some 110) (.load 2 (.tmp 109)) none)
    (k13 : OpAt ops 13 (some 111) (.call { callee := .value (.func 21), args := #[.tmp 110], argTypes := #[2] }) none)
    (k14 : OpAt ops 14 (some 112) (.call { callee := .value (.func 11), args := #[.tmp 101, .tmp 106, .tmp 111], argTypes := #[25, 23, 23] }) none)
    (k15 : OpAt ops 15 (some 113) (.unOp .not 4 (.tmp 112)) none)
    (k16 : OpAt ops 16 (some 114) (.move (.tmp 113)) none)
    (k17 : OpAt ops 17 (some 115) (.move (.tmp 13)) (some (16, false)))
    (k18 : OpAt ops 18 (some 116) (.move (.tmp 15)) (some (16, false)))
    (k19 : OpAt ops 19 (some 117) (.indexAddr 45 (.tmp 115) (.tmp 116)) (some (16, false)))
    (k20 : OpAt ops 20 (some 118) (.load 23 (.tmp 117)) (some (16, false)))
    (k21 : OpAt ops 21 (some 119) (.move (.tmp 0)) (some (16, false)))
    (k22 : OpAt ops 22 (some 120) (.move (.tmp 15)) (some (16, false)))
    (k23 : OpAt ops 23 (some 121) (.indexAddr 44 (.tmp 119) (.tmp 120)) (some (16, false)))
    (k24 : OpAt ops 24 (some 122) (.load 2 (.tmp 121)) (some (16, false)))
    (k25 : OpAt ops 25 (some 123) (.call { callee := .value (.func 21), args := #[.tmp 122], argTypes := #[2] }) (some (16, false)))
    (k26 : OpAt ops 26 (some 124) (.call { callee := .value (.func 24), args := #[.tmp 118, .tmp 123], argTypes := #[23, 23] }) (some (16, false)))
    (k27 : OpAt ops 27 (some 125) (.unOp .not 4 (.tmp 124)) (some (16, false)))
    (k28 : OpAt ops 28 (some 126) (.pick (.tmp 114) (.const (.bool true)) (.tmp 125)) none)
    (k29 : OpAt ops 29 (some 127) (.move (.tmp 126)) none)
    (k30 : OpAt ops 30 (some 128) (.move (.tmp 14)) (some (29, false)))
    (k31 : OpAt ops 31 (some 129) (.move (.tmp 15)) (some (29, false)))
    (k32 : OpAt ops 32 (some 130) (.indexAddr 45 (.tmp 128) (.tmp 129)) (some (29, false)))
    (k33 : OpAt ops 33 (some 131) (.load 23 (.tmp 130)) (some (29, false)))
    (k34 : OpAt ops 34 (some 132) (.move (.tmp 1)) (some (29, false)))
    (k35 : OpAt ops 35 (some 133) (.move (.tmp 15)) (some (29, false)))
    (k36 : OpAt ops 36 (some 134) (.indexAddr 44 (.tmp 132) (.tmp 133)) (some (29, false)))
    (k37 : OpAt ops 37 (some 135) (.load 2 (.tmp 134)) (some (29, false)))
    (k38 : OpAt ops 38 (some 136) (.call { callee := .value (.func 21), args := #[.tmp 135], argTypes := #[2] }) (some (29, false)))
    (k39 : OpAt ops 39 (some 137) (.call { callee := .value (.func 24), args := #[.tmp 131, .tmp 136], argTypes := #[23, 23] }) (some (29, false)))
    (k40 : OpAt ops 40 (some 138) (.unOp .not 4 (.tmp 137)) (some (29, false)))
    (k41 : OpAt ops 41 (some 139) (.pick (.tmp 127) (.const (.bool true)) (.tmp 138)) none)
    (hn : ops.size = 42) (hchk : chkN lists_regPre ops = true) (hsz : a0.tmps.size = 187) (e0 : a0.eval (.tmp 0) = .slice (some ⟨A, oa, none⟩) n ca) (e1 : a0.eval (.tmp 1) = .slice (some ⟨B, ob, none⟩) n cb) (e11 : a0.eval (.tmp 11) = .slice (some ⟨L, 0, none⟩) n n) (e13 : a0.eval (.tmp 13) = .slice (some ⟨P, 0, none⟩) n n) (e14 : a0.eval (.tmp 14) = .slice (some ⟨Q', 0, none⟩) n n) (e15 : a0.eval (.tmp 15) = .int .i64 (m : Int)) 
    (hlt : m < n)
    (cA : ∀ w, Bel w1 w → w.cell? ⟨A, oa + m, none⟩ = some (.int .i64 za))
    (cB : ∀ w, Bel w1 w → w.cell? ⟨B, ob + m, none⟩ = some (.int .i64 zb))
    (cL0 : ∀ w, Bel w1 w → w.cell? ⟨L, m * 2, none⟩ = some (.float .f64 (wd za)))
    (cL1 : ∀ w, Bel w1 w → w.cell? ⟨L, m * 2 + 1, none⟩ = some (.float .f64 (wd zb)))
    (cP : ∀ w, Bel w1 w → w.cell? ⟨P, m, none⟩ = some (.float .f64 (wd za)))
    (cQ : ∀ w, Bel w1 w → w.cell? ⟨Q', m, none⟩ = some (.float .f64 (wd zb)))
    (f1 : ∀ w, Calls Try.prog 21 #[.int .i64 za] w fun r w' => r = .returned (.float .f64 (wd za)) ∧ Bel w w')
    (f2 : ∀ w, Calls Try.prog 21 #[.int .i64 zb] w fun r w' => r = .returned (.float .f64 (wd zb)) ∧ Bel w w')
    (i1 : ∀ w, Calls Try.prog 11 #[dv (wd za) (wd zb), .float .f64 (wd za), .float .f64 (wd zb)] w fun r w' => r = .returned (.bool true) ∧ Bel w w')
    (s1 : ∀ w, Calls Try.prog 24 #[.float .f64 (wd za), .float .f64 (wd za)] w fun r w' => r = .returned (.bool true) ∧ Bel w w')
    (s2 : ∀ w, Calls Try.prog 24 #[.float .f64 (wd zb), .float .f64 (wd zb)] w fun r w' => r = .returned (.bool true) ∧ Bel w w')
    (hQ : ∀ f w, Bel w1 w → ((f 139) = .bool false) → Q .normal (actOf a0 [98, 99, 100, 101, 102, 103, 104, 105, 106, 107, 108, 109, 110, 111, 112, 113, 114, 115, 116, 117, 118, 119, 120, 121, 122, 123, 124, 125, 126, 127, 128, 129, 130, 131, 132, 133, 134, 135, 136, 137, 138, 139] f) w) : (Code.region id ops true).wp Try.prog Q a0 w1 := by
  obtain ⟨ds, hds⟩ : ∃ ds, ds = [98, 99, 100, 101, 102, 103, 104, 105, 106, 107, 108, 109, 110, 111, 112, 113, 114, 115, 116, 117, 118, 119, 120, 121, 122, 123, 124, 125, 126, 127, 128, 129, 130, 131, 132, 133, 134, 135, 136, 137, 138, 139] := ⟨_, rfl⟩
  rw [← hds] at hQ
  have out : ∀ f t, t ∉ ds → (actOf a0 ds f).eval (.tmp t) = a0.eval (.tmp t) := fun f t h => actOf_out a0 _ f h
  have inn : ∀ f t, t ∈ ds → t < 187 → (actOf a0 ds f).eval (.tmp t) = f t := fun f t h h2 => actOf_in a0 _ f h (by rw [hsz]; exact h2)
  rw [← actOf_self a0 ds]
  refine wp_region_pv (pre := lists_regPre) (actOf a0 ds) (fun t => a0.eval (.tmp t)) (by kernel_rfl) hchk lists_regIts (lists_regPhi A B L P Q' oa ob n ca cb m za zb) [] (by rw [hn]; decide +kernel) ?_ ?_
  · intro i hi
    rw [hn] at hi
    match i, hi with
    | 0, _ =>
      obtain ⟨o, o1, o2, o3, o4⟩ := k0
      exact does_val 98 (by decide) fun f w hB h => wpOp_go o1 o4 (step_move (d := some 98) o2 (Or.inl o3) ((out f 11 (by rw [hds]; decide)).trans e11) ⟨_, (actOf_put _ _ _ (by rw [hds]; decide) _), rfl, Bel.refl _⟩)
    | 1, _ =>
      obtain ⟨o, o1, o2, o3, o4⟩ := k1
      exact does_val 99 (by decide) fun f w hB h => wpOp_go o1 o4 (step_move (d := some 99) o2 (Or.inl o3) ((out f 15 (by rw [hds]; decide)).trans e15) ⟨_, (actOf_put _ _ _ (by rw [hds]; decide) _), rfl, Bel.refl _⟩)
    | 2, _ =>
      obtain ⟨o, o1, o2, o3, o4⟩ := k2
      exact does_val 100 (by decide) fun f w hB h => wpOp_go o1 o4 (step_indexM (d := some 100) o2 o3 ((inn f 98 (by rw [hds]; decide) (by decide)).trans (h 0 98 (by decide) (by decide))) ((inn f 99 (by rw [hds]; decide) (by decide)).trans (h 1 99 (by decide) (by decide))) (index_c _ _ _ _ hlt _) ⟨_, (actOf_put _ _ _ (by rw [hds]; decide) _), rfl, Bel.refl _⟩)
    | 3, _ =>
      obtain ⟨o, o1, o2, o3, o4⟩ := k3
      exact does_val 101 (by decide) fun f w hB h => wpOp_go o1 o4 (step_load (d := some 101) o2 o3 ((inn f 100 (by rw [hds]; decide) (by decide)).trans (h 2 100 (by decide) (by decide))) (load_cat (cL0 _ hB) (cL1 _ hB)) ⟨_, (actOf_put _ _ _ (by rw [hds]; decide) _), rfl, Bel.refl _⟩)
    | 4, _ =>
      obtain ⟨o, o1, o2, o3, o4⟩ := k4
      exact does_val 102 (by decide) fun f w hB h => wpOp_go o1 o4 (step_move (d := some 102) o2 (Or.inl o3) ((out f 0 (by rw [hds]; decide)).trans e0) ⟨_, (actOf_put _ _ _ (by rw [hds]; decide) _), rfl, Bel.refl _⟩)
    | 5, _ =>
      obtain ⟨o, o1, o2, o3, o4⟩ := k5
      exact does_val 103 (by decide) fun f w hB h => wpOp_go o1 o4 (step_move (d := some 103) o2 (Or.inl o3) ((out f 15 (by rw [hds]; decide)).trans e15) ⟨_, (actOf_put _ _ _ (by rw [hds]; decide) _), rfl, Bel.refl _⟩)
    | 6, _ =>
      obtain ⟨o, o1, o2, o3, o4⟩ := k6
      exact does_val 104 (by decide) fun f w hB h => wpOp_go o1 o4 (step_indexM (d := some 104) o2 o3 ((inn f 102 (by rw [hds]; decide) (by decide)).trans (h 4 102 (by decide) (by decide))) ((inn f 103 (by rw [hds]; decide) (by decide)).trans (h 5 103 (by decide) (by decide))) (index_i _ _ _ _ _ hlt _) ⟨_, (actOf_put _ _ _ (by rw [hds]; decide) _), rfl, Bel.refl _⟩)
    | 7, _ =>
      obtain ⟨o, o1, o2, o3, o4⟩ := k7
      exact does_val 105 (by decide) fun f w hB h => wpOp_go o1 o4 (step_load (d := some 105) o2 o3 ((inn f 104 (by rw [hds]; decide) (by decide)).trans (h 6 104 (by decide) (by decide))) (load_i64 (cA _ hB)) ⟨_, (actOf_put _ _ _ (by rw [hds]; decide) _), rfl, Bel.refl _⟩)
    | 8, _ =>
      obtain ⟨o, o1, o2, o3, o4⟩ := k8
      exact does_val 106 (by decide) fun f w hB h => wpOp_go o1 o4 (step_callN1 (d := some 106) o2 o3 ((inn f 105 (by rw [hds]; decide) (by decide)).trans (h 7 105 (by decide) (by decide))) (by kernel_rfl) ((f1 _).mono fun _ _ ⟨k1, k2⟩ => ⟨_, k1, _, (actOf_put _ _ _ (by rw [hds]; decide) _), rfl, k2⟩))
    | 9, _ =>
      obtain ⟨o, o1, o2, o3, o4⟩ := k9
      exact does_val 107 (by decide) fun f w hB h => wpOp_go o1 o4 (step_move (d := some 107) o2 (Or.inl o3) ((out f 1 (by rw [hds]; decide)).trans e1) ⟨_, (actOf_put _ _ _ (by rw [hds]; decide) _), rfl, Bel.refl _⟩)
    | 10, _ =>
      obtain ⟨o, o1, o2, o3, o4⟩ := k10
      exact does_val 108 (by decide) fun f w hB h => wpOp_go o1 o4 (step_move (d := some 108) o2 (Or.inl o3) ((out f 15 (by rw [hds]; decide)).trans e15) ⟨_, (actOf_put _ _ _ (by rw [hds]; decide) _), rfl, Bel.refl _⟩)
    | 11, _ =>
      obtain ⟨o, o1, o2, o3, o4⟩ := k11
      exact does_val 109 (by decide) fun f w hB h => wpOp_go o1 o4 (step_indexM (d := some 109) o2 o3 ((inn f 107 (by rw [hds]; decide) (by decide)).trans (h 9 107 (by decide) (by decide))) ((inn f 108 (by rw [hds]; decide) (by decide)).trans (h 10 108 (by decide) (by decide))) (index_i _ _ _ _ _ hlt _) ⟨_, (actOf_put _ _ _ (by rw [hds]; decide) _), rfl, Bel.refl _⟩)
    | 12, _ =>
      obtain ⟨o, o1, o2, o3, o4⟩ := k12
      exact does_val 110 (by decide) fun f w hB h => wpOp_go o1 o4 (step_load (d := some 110) o2 o3 ((inn f 109 (by rw [hds]; decide) (by decide)).trans (h 11 109 (by decide) (by decide))) (load_i64 (cB _ hB)) ⟨_, (actOf_put _ _ _ (by rw [hds]; decide) _), rfl, Bel.refl _⟩)
    | 13, _ =>
      obtain ⟨o, o1, o2, o3, o4⟩ := k13
      exact does_val 111 (by decide) fun f w hB h => wpOp_go o1 o4 (step_callN1 (d := some 111) o2 o3 ((inn f 110 (by rw [hds]; decide) (by decide)).trans (h 12 110 (by decide) (by decide))) (by kernel_rfl) ((f2 _).mono fun _ _ ⟨k1, k2⟩ => ⟨_, k1, _, (actOf_put _ _ _ (by rw [hds]; decide) _), rfl, k2⟩))
    | 14, _ =>
      obtain ⟨o, o1, o2, o3, o4⟩ := k14
      exact does_val 112 (by decide) fun f w hB h => wpOp_go o1 o4 (step_callN3 (d := some 112) o2 o3 ((inn f 101 (by rw [hds]; decide) (by decide)).trans (h 3 101 (by decide) (by decide))) ((inn f 106 (by rw [hds]; decide) (by decide)).trans (h 8 106 (by decide) (by decide))) ((inn f 111 (by rw [hds]; decide) (by decide)).trans (h 13 111 (by decide) (by decide))) (by kernel_rfl) ((i1 _).mono fun _ _ ⟨k1, k2⟩ => ⟨_, k1, _, (actOf_put _ _ _ (by rw [hds]; decide) _), rfl, k2⟩))
    | 15, _ =>
      obtain ⟨o, o1, o2, o3, o4⟩ := k15
      exact does_val 113 (by decide) fun f w hB h => wpOp_go o1 o4 (step_not (b := true) (d := some 113) o2 o3 ((inn f 112 (by rw [hds]; decide) (by decide)).trans (h 14 112 (by decide) (by decide))) ⟨_, (actOf_put _ _ _ (by rw [hds]; decide) _), rfl, Bel.refl _⟩)
    | 16, _ =>
      obtain ⟨o, o1, o2, o3, o4⟩ := k16
      exact does_val 114 (by decide) fun f w hB h => wpOp_go o1 o4 (step_move (d := some 114) o2 (Or.inl o3) ((inn f 113 (by rw [hds]; decide) (by decide)).trans (h 15 113 (by decide) (by decide))) ⟨_, (actOf_put _ _ _ (by rw [hds]; decide) _), rfl, Bel.refl _⟩)
    | 17, _ =>
      obtain ⟨o, o1, o2, o3, o4⟩ := k17
      exact does_val 115 (by decide) fun f w hB h => wpOp_if o1 o4 k16.dst ((inn f 114 (by rw [hds]; decide) (by decide)).trans (h 16 114 (by decide) (by decide))) (step_move (d := some 115) o2 (Or.inl o3) ((out f 13 (by rw [hds]; decide)).trans e13) ⟨_, (actOf_put _ _ _ (by rw [hds]; decide) _), rfl, Bel.refl _⟩)
    | 18, _ =>
      obtain ⟨o, o1, o2, o3, o4⟩ := k18
      exact does_val 116 (by decide) fun f w hB h => wpOp_if o1 o4 k16.dst ((inn f 114 (by rw [hds]; decide) (by decide)).trans (h 16 114 (by decide) (by decide))) (step_move (d := some 116) o2 (Or.inl o3) ((out f 15 (by rw [hds]; decide)).trans e15) ⟨_, (actOf_put _ _ _ (by rw [hds]; decide) _), rfl, Bel.refl _⟩)
    | 19, _ =>
      obtain ⟨o, o1, o2, o3, o4⟩ := k19
      exact does_val 117 (by decide) fun f w hB h => wpOp_if o1 o4 k16.dst ((inn f 114 (by rw [hds]; decide) (by decide)).trans (h 16 114 (by decide) (by decide))) (step_indexM (d := some 117) o2 o3 ((inn f 115 (by rw [hds]; decide) (by decide)).trans (h 17 115 (by decide) (by decide))) ((inn f 116 (by rw [hds]; decide) (by decide)).trans (h 18 116 (by decide) (by decide))) (index_f _ _ _ _ hlt _) ⟨_, (actOf_put _ _ _ (by rw [hds]; decide) _), rfl, Bel.refl _⟩)
    | 20, _ =>
      obtain ⟨o, o1, o2, o3, o4⟩ := k20
      exact does_val 118 (by decide) fun f w hB h => wpOp_if o1 o4 k16.dst ((inn f 114 (by rw [hds]; decide) (by decide)).trans (h 16 114 (by decide) (by decide))) (step_load (d := some 118) o2 o3 ((inn f 117 (by rw [hds]; decide) (by decide)).trans (h 19 117 (by decide) (by decide))) (load_float (cP _ hB)) ⟨_, (actOf_put _ _ _ (by rw [hds]; decide) _), rfl, Bel.refl _⟩)
    | 21, _ =>
      obtain ⟨o, o1, o2, o3, o4⟩ := k21
      exact does_val 119 (by decide) fun f w hB h => wpOp_if o1 o4 k16.dst ((inn f 114 (by rw [hds]; decide) (by decide)).trans (h 16 114 (by decide) (by decide))) (step_move (d := some 119) o2 (Or.inl o3) ((out f 0 (by rw [hds]; decide)).trans e0) ⟨_, (actOf_put _ _ _ (by rw [hds]; decide) _), rfl, Bel.refl _⟩)
    | 22, _ =>
      obtain ⟨o, o1, o2, o3, o4⟩ := k22
      exact does_val 120 (by decide) fun f w hB h => wpOp_if o1 o4 k16.dst ((inn f 114 (by rw [hds]; decide) (by decide)).trans (h 16 114 (by decide) (by decide))) (step_move (d := some 120) o2 (Or.inl o3) ((out f 15 (by rw [hds]; decide)).trans e15) ⟨_, (actOf_put _ _ _ (by rw [hds]; decide) _), rfl, Bel.refl _⟩)
    | 23, _ =>
      obtain ⟨o, o1, o2, o3, o4⟩ := k23
      exact does_val 121 (by decide) fun f w hB h => wpOp_if o1 o4 k16.dst ((inn f 114 (by rw [hds]; decide) (by decide)).trans (h 16 114 (by decide) (by decide))) (step_indexM (d := some 121) o2 o3 ((inn f 119 (by rw [hds]; decide) (by decide)).trans (h 21 119 (by decide) (by decide))) ((inn f 120 (by rw [hds]; decide) (by decide)).trans (h 22 120 (by decide) (by decide))) (index_i _ _ _ _ _ hlt _) ⟨_, (actOf_put _ _ _ (by rw [hds]; decide) _), rfl, Bel.refl _⟩)
    | 24, _ =>
      obtain ⟨o, o1, o2, o3, o4⟩ := k24
      exact does_val 122 (by decide) fun f w hB h => wpOp_if o1 o4 k16.dst ((inn f 114 (by rw [hds]; decide) (by decide)).trans (h 16 114 (by decide) (by decide))) (step_load (d := some 122) o2 o3 ((inn f 121 (by rw [hds]; decide) (by decide)).trans (h 23 121 (by decide) (by decide))) (load_i64 (cA _ hB)) ⟨_, (actOf_put _ _ _ (by rw [hds]; decide) _), rfl, Bel.refl _⟩)
    | 25, _ =>
      obtain ⟨o, o1, o2, o3, o4⟩ := k25
      exact does_val 123 (by decide) fun f w hB h => wpOp_if o1 o4 k16.dst ((inn f 114 (by rw [hds]; decide) (by decide)).trans (h 16 114 (by decide) (by decide))) (step_callN1 (d := some 123) o2 o3 ((inn f 122 (by rw [hds]; decide) (by decide)).trans (h 24 122 (by decide) (by decide))) (by kernel_rfl) ((f1 _).mono fun _ _ ⟨k1, k2⟩ => ⟨_, k1, _, (actOf_put _ _ _ (by rw [hds]; decide) _), rfl, k2⟩))
    | 26, _ =>
      obtain ⟨o, o1, o2, o3, o4⟩ := k26
      exact does_val 124 (by decide) fun f w hB h => wpOp_if o1 o4 k16.dst ((inn f 114 (by rw [hds]; decide) (by decide)).trans (h 16 114 (by decide) (by decide))) (step_callN2 (d := some 124) o2 o3 ((inn f 118 (by rw [hds]; decide) (by decide)).trans (h 20 118 (by decide) (by decide))) ((inn f 123 (by rw [hds]; decide) (by decide)).trans (h 25 123 (by decide) (by decide))) (by kernel_rfl) ((s1 _).mono fun _ _ ⟨k1, k2⟩ => ⟨_, k1, _, (actOf_put _ _ _ (by rw [hds]; decide) _), rfl, k2⟩))
    | 27, _ =>
      obtain ⟨o, o1, o2, o3, o4⟩ := k27
      exact does_val 125 (by decide) fun f w hB h => wpOp_if o1 o4 k16.dst ((inn f 114 (by rw [hds]; decide) (by decide)).trans (h 16 114 (by decide) (by decide))) (step_not (b := true) (d := some 125) o2 o3 ((inn f 124 (by rw [hds]; decide) (by decide)).trans (h 26 124 (by decide) (by decide))) ⟨_, (actOf_put _ _ _ (by rw [hds]; decide) _), rfl, Bel.refl _⟩)
    | 28, _ =>
      obtain ⟨o, o1, o2, o3, o4⟩ := k28
      exact does_val 126 (by decide) fun f w hB h => wpOp_go o1 o4 (step_pickf (d := some 126) o2 o3 ((inn f 114 (by rw [hds]; decide) (by decide)).trans (h 16 114 (by decide) (by decide))) ((inn f 125 (by rw [hds]; decide) (by decide)).trans (h 27 125 (by decide) (by decide))) ⟨_, (actOf_put _ _ _ (by rw [hds]; decide) _), rfl, Bel.refl _⟩)
    | 29, _ =>
      obtain ⟨o, o1, o2, o3, o4⟩ := k29
      exact does_val 127 (by decide) fun f w hB h => wpOp_go o1 o4 (step_move (d := some 127) o2 (Or.inl o3) ((inn f 126 (by rw [hds]; decide) (by decide)).trans (h 28 126 (by decide) (by decide))) ⟨_, (actOf_put _ _ _ (by rw [hds]; decide) _), rfl, Bel.refl _⟩)
    | 30, _ =>
      obtain ⟨o, o1, o2, o3, o4⟩ := k30
      exact does_val 128 (by decide) fun f w hB h => wpOp_if o1 o4 k29.dst ((inn f 127 (by rw [hds]; decide) (by decide)).trans (h 29 127 (by decide) (by decide))) (step_move (d := some 128) o2 (Or.inl o3) ((out f 14 (by rw [hds]; decide)).trans e14) ⟨_, (actOf_put _ _ _ (by rw [hds]; decide) _), rfl, Bel.refl _⟩)
    | 31, _ =>
      obtain ⟨o, o1, o2, o3, o4⟩ := k31
      exact does_val 129 (by decide) fun f w hB h => wpOp_if o1 o4 k29.dst ((inn f 127 (by rw [hds]; decide) (by decide)).trans (h 29 127 (by decide) (by decide))) (step_move (d := some 129) o2 (Or.inl o3) ((out f 15 (by rw [hds]; decide)).trans e15) ⟨_, (actOf_put _ _ _ (by rw [hds]; decide) _), rfl, Bel.refl _⟩)
    | 32, _ =>
      obtain ⟨o, o1, o2, o3, o4⟩ := k32
      exact does_val 130 (by decide) fun f w hB h => wpOp_if o1 o4 k29.dst ((inn f 127 (by rw [hds]; decide) (by decide)).trans (h 29 127 (by decide) (by decide))) (step_indexM (d := some 130) o2 o3 ((inn f 128 (by rw [hds]; decide) (by decide)).trans (h 30 128 (by decide) (by decide))) ((inn f 129 (by rw [hds]; decide) (by decide)).trans (h 31 129 (by decide) (by decide))) (index_f _ _ _ _ hlt _) ⟨_, (actOf_put _ _ _ (by rw [hds]; decide) _), rfl, Bel.refl _⟩)
    | 33, _ =>
      obtain ⟨o, o1, o2, o3, o4⟩ := k33
      exact does_val 131 (by decide) fun f w hB h => wpOp_if o1 o4 k29.dst ((inn f 127 (by rw [hds]; decide) (by decide)).trans (h 29 127 (by decide) (by decide))) (step_load (d := some 131) o2 o3 ((inn f 130 (by rw [hds]; decide) (by decide)).trans (h 32 130 (by decide) (by decide))) (load_float (cQ _ hB)) ⟨_, (actOf_put _ _ _ (by rw [hds]; decide) _), rfl, Bel.refl _⟩)
    | 34, _ =>
      obtain ⟨o, o1, o2, o3, o4⟩ := k34
      exact does_val 132 (by decide) fun f w hB h => wpOp_if o1 o4 k29.dst ((inn f 127 (by rw [hds]; decide) (by decide)).trans (h 29 127 (by decide) (by decide))) (step_move (d := some 132) o2 (Or.inl o3) ((out f 1 (by rw [hds]; decide)).trans e1) ⟨_, (actOf_put _ _ _ (by rw [hds]; decide) _), rfl, Bel.refl _⟩)
    | 35, _ =>
      obtain ⟨o, o1, o2, o3, o4⟩ := k35
      exact does_val 133 (by decide) fun f w hB h => wpOp_if o1 o4 k29.dst ((inn f 127 (by rw [hds]; decide) (by decide)).trans (h 29 127 (by decide) (by decide))) (step_move (d := some 133) o2 (Or.inl o3) ((out f 15 (by rw [hds]; decide)).trans e15) ⟨_, (actOf_put _ _ _ (by rw [hds]; decide) _), rfl, Bel.refl _⟩)
    | 36, _ =>
      obtain ⟨o, o1, o2, o3, o4⟩ := k36
      exact does_val 134 (by decide) fun f w hB h => wpOp_if o1 o4 k29.dst ((inn f 127 (by rw [hds]; decide) (by decide)).trans (h 29 127 (by decide) (by decide))) (step_indexM (d := some 134) o2 o3 ((inn f 132 (by rw [hds]; decide) (by decide)).trans (h 34 132 (by decide) (by decide))) ((inn f 133 (by rw [hds]; decide) (by decide)).trans (h 35 133 (by decide) (by decide))) (index_i _ _ _ _ _ hlt _) ⟨_, (actOf_put _ _ _ (by rw [hds]; decide) _), rfl, Bel.refl _⟩)
    | 37, _ =>
      obtain ⟨o, o1, o2, o3, o4⟩ := k37
      exact does_val 135 (by decide) fun f w hB h => wpOp_if o1 o4 k29.dst ((inn f 127 (by rw [hds]; decide) (by decide)).trans (h 29 127 (by decide) (by decide))) (step_load (d := some 135) o2 o3 ((inn f 134 (by rw [hds]; decide) (by decide)).trans (h 36 134 (by decide) (by decide))) (load_i64 (cB _ hB)) ⟨_, (actOf_put _ _ _ (by rw [hds]; decide) _), rfl, Bel.refl _⟩)
    | 38, _ =>
      obtain ⟨o, o1, o2, o3, o4⟩ := k38
      exact does_val 136 (by decide) fun f w hB h => wpOp_if o1 o4 k29.dst ((inn f 127 (by rw [hds]; decide) (by decide)).trans (h 29 127 (by decide) (by decide))) (step_callN1 (d := some 136) o2 o3 ((inn f 135 (by rw [hds]; decide) (by decide)).trans (h 37 135 (by decide) (by decide))) (by kernel_rfl) ((f2 _).mono fun _ _ ⟨k1, k2⟩ => ⟨_, k1, _, (actOf_put _ _ _ (by rw [hds]; decide) _), rfl, k2⟩))
    | 39, _ =>
      obtain ⟨o, o1, o2, o3, o4⟩ := k39
      exact does_val 137 (by decide) fun f w hB h => wpOp_if o1 o4 k29.dst ((inn f 127 (by rw [hds]; decide) (by decide)).trans (h 29 127 (by decide) (by decide))) (step_callN2 (d := some 137) o2 o3 ((inn f 131 (by rw [hds]; decide) (by decide)).trans (h 33 131 (by decide) (by decide))) ((inn f 136 (by rw [hds]; decide) (by decide)).trans (h 38 136 (by decide) (by decide))) (by kernel_rfl) ((s2 _).mono fun _ _ ⟨k1, k2⟩ => ⟨_, k1, _, (actOf_put _ _ _ (by rw [hds]; decide) _), rfl, k2⟩))
    | 40, _ =>
      obtain ⟨o, o1, o2, o3, o4⟩ := k40
      exact does_val 138 (by decide) fun f w hB h => wpOp_if o1 o4 k29.dst ((inn f 127 (by rw [hds]; decide) (by decide)).trans (h 29 127 (by decide) (by decide))) (step_not (b := true) (d := some 138) o2 o3 ((inn f 137 (by rw [hds]; decide) (by decide)).trans (h 39 137 (by decide) (by decide))) ⟨_, (actOf_put _ _ _ (by rw [hds]; decide) _), rfl, Bel.refl _⟩)
    | 41, _ =>
      obtain ⟨o, o1, o2, o3, o4⟩ := k41
      exact does_val 139 (by decide) fun f w hB h => wpOp_go o1 o4 (step_pickf (d := some 139) o2 o3 ((inn f 127 (by rw [hds]; decide) (by decide)).trans (h 29 127 (by decide) (by decide))) ((inn f 138 (by rw [hds]; decide) (by decide)).trans (h 40 138 (by decide) (by decide))) ⟨_, (actOf_put _ _ _ (by rw [hds]; decide) _), rfl, Bel.refl _⟩)
    | (m + 42), hi => exact absurd hi (by omega)
  · intro f w hB h _
    exact hQ f w hB (h 41 139 (by decide))
def back_regPre (i : Nat) : List Nat := match i with | 2 => [0, 1] | 3 => [2] | 6 => [4, 5] | 7 => [6] | 8 => [7] | 9 => [3, 8] | 10 => [9] | 11 => [9, 10] | 12 => [11] | 13 => [11] | 14 => [11, 12, 13] | 15 => [11, 14] | 16 => [11] | 17 => [11] | 18 => [11, 16, 17] | 19 => [11, 18] | 20 => [11, 19] | 21 => [11, 15, 20] | 22 => [11, 21] | 23 => [11, 22] | _ => []
def back_regIts : Its := [(0, 162), (1, 163), (2, 164), (3, 165), (4, 166), (5, 167), (6, 168), (7, 169), (8, 170), (9, 171), (10, 172), (11, 173), (12, 174), (13, 175), (14, 176), (15, 177), (16, 178), (17, 179), (18, 180), (19, 181), (20, 182), (21, 183), (22, 184), (23, 185)]
def back_regPhi (A B G H oa ob n ca cb cg ch m : Nat) (za zb : Int) (i : Nat) (z : Value) : Prop := match i with
  | 0 => z = .slice (some ⟨G, 0, none⟩) n cg
  | 1 => z = .int .i64 (m : Int)
  | 2 => z = .pointer (some ⟨G, m, none⟩)
  | 3 => z = .float .f64 (wd za)
  | 4 => z = .slice (some ⟨A, oa, none⟩) n ca
  | 5 => z = .int .i64 (m : Int)
  | 6 => z = .pointer (some ⟨A, oa + m, none⟩)
  | 7 => z = .int .i64 za
  | 8 => z = .float .f64 (wd za)
  | 9 => z = .bool true
  | 10 => z = .bool false
  | 11 => z = .bool false
  | 12 => z = .slice (some ⟨H, 0, none⟩) n ch
  | 13 => z = .int .i64 (m : Int)
  | 14 => z = .pointer (some ⟨H, m, none⟩)
  | 15 => z = .float .f64 (wd zb)
  | 16 => z = .slice (some ⟨B, ob, none⟩) n cb
  | 17 => z = .int .i64 (m : Int)
  | 18 => z = .pointer (some ⟨B, ob + m, none⟩)
  | 19 => z = .int .i64 zb
  | 20 => z = .float .f64 (wd zb)
  | 21 => z = .bool true
  | 22 => z = .bool false
  | 23 => z = .bool false
  | _ => True
set_option maxHeartbeats 4000000 in
theorem back_reg {Q : Exit → Act → World → Prop} {ops : Array Oper} {id : Nat} {w1 : World} (a0 : Act) (A B G H oa ob n ca cb cg ch m : Nat) (za zb : Int)
    (k0 : OpAt ops 0 (some 162) (.move (.tmp 5)) none)
    (k1 : OpAt ops 1 (some 163) (.move (.tmp 17)) none)
    (k2 : OpAt ops 2 (some 164) (.indexAddr 45 (.tmp 162) (.tmp 163)) none)
    (k3 : OpAt ops 3 (some 165) (.load 23 (.tmp 164)) none)
    (k4 : OpAt ops 4 (some 166) (.move (.tmp 0)) none)
    (k5 : OpAt ops 5 (some 167) (.move (.tmp 17)) none)
    (k6 : OpAt ops 6 (some 168) (.indexAddr 44 (.tmp 166) (.tmp 167)) none)
    (k7 : OpAt ops 7 (some 169) (.load 2 (.tmp 168)) none)
    (k8 : OpAt ops 8 (some 170) (.call { callee := .value (.func 21), args := #[.tmp 169], argTypes := #[2] }) none)
    (k9 : OpAt ops 9 (some 171) (.call { callee := .value (.func 24), args := #[.tmp 165, .tmp 170], argTypes := #[23, 23] }) none)
    (k10 : OpAt ops 10 (some 172) (.unOp .not 4 (.tmp 171)) none)
    (k11 : OpAt ops 11 (some 173) (.move (.tmp 172)) none)
    (k12 : OpAt ops 12 (some 174) (.move (.tmp 6)) (some (11, false)))
    (k13 : OpAt ops 13 (some 175) (.move (.tmp 17)) (some (11, false)))
    (k14 : OpAt ops 14 (some 176) (.indexAddr 45 (.tmp 174) (.tmp 175)) (some (11, false)))
    (k15 : OpAt ops 15 (some 177) (.load 23 (.tmp 176)) (some (11, false)))
    (k16 : OpAt ops 16 (some 178) (.move (.tmp 1)) (some (11, false)))
    (k17 : OpAt ops 17 (some 179) (.move (.tmp 17)) (some (11, false)))
    (k18 : OpAt ops 18 (some 180) (.indexAddr 44 (.tmp 178) (.tmp 179)) (some (11, false)))
    (k19 : OpAt ops 19 (some 181) (.load 2 (.tmp 180)) (some (11, false)))
    (k20 : OpAt ops 20 (some 182) (.call { callee := .value (.func 21), args := #[.tmp 181], argTypes := #[2] }) (some (11, false)))
    (k21 : OpAt ops 21 (some 183) (.call { callee := .value (.func 24), args := #[.tmp 177, .tmp 182], argTypes := #[23, 23] }) (some (11, false)))
    (k22 : OpAt ops 22 (some 184) (.unOp .not 4 (.tmp 183)) (some (11, false)))
    (k23 : OpAt ops 23 (some 185) (.pick (.tmp 173) (.const (.bool true)) (.tmp 184)) none)
    (hn : ops.size = 24) (hchk : chkN back_regPre ops = true) (hsz : a0.tmps.size = 187) (e0 : a0.eval (.tmp 0) = .slice (some ⟨A, oa, none⟩) n ca) (e1 : a0.eval (.tmp 1) = .slice (some ⟨B, ob, none⟩) n cb) (e5 : a0.eval (.tmp 5) = .slice (some ⟨G, 0, none⟩) n cg) (e6 : a0.eval (.tmp 6) = .slice (some ⟨H, 0, none⟩) n ch) (e17 : a0.eval (.tmp 17) = .int .i64 (m : Int)) 
    (hlt : m < n)
    (cA : ∀ w, Bel w1 w → w.cell? ⟨A, oa + m, none⟩ = some (.int .i64 za))
    (cB : ∀ w, Bel w1 w → w.cell? ⟨B, ob + m, none⟩ = some (.int .i64 zb))
    (cG : ∀ w, Bel w1 w → w.cell? ⟨G, m, none⟩ = some (.float .f64 (wd za)))
    (cH : ∀ w, Bel w1 w → w.cell? ⟨H, m, none⟩ = some (.float .f64 (wd zb)))
    (f1 : ∀ w, Calls Try.prog 21 #[.int .i64 za] w fun r w' => r = .returned (.float .f64 (wd za)) ∧ Bel w w')
    (f2 : ∀ w, Calls Try.prog 21 #[.int .i64 zb] w fun r w' => r = .returned (.float .f64 (wd zb)) ∧ Bel w w')
    (s1 : ∀ w, Calls Try.prog 24 #[.float .f64 (wd za), .float .f64 (wd za)] w fun r w' => r = .returned (.bool true) ∧ Bel w w')
    (s2 : ∀ w, Calls Try.prog 24 #[.float .f64 (wd zb), .float .f64 (wd zb)] w fun r w' => r = .returned (.bool true) ∧ Bel w w')
    (hQ : ∀ f w, Bel w1 w → ((f 185) = .bool false) → Q .normal (actOf a0 [162, 163, 164, 165, 166, 167, 168, 169, 170, 171, 172, 173, 174, 175, 176, 177, 178, 179, 180, 181, 182, 183, 184, 185] f) w) : (Code.region id ops true).wp Try.prog Q a0 w1 := by
  obtain ⟨ds, hds⟩ : ∃ ds, ds = [162, 163, 164, 165, 166, 167, 168, 169, 170, 171, 172, 173, 174, 175, 176, 177, 178, 179, 180, 181, 182, 183, 184, 185] := ⟨_, rfl⟩
  rw [← hds] at hQ
  have out : ∀ f t, t ∉ ds → (actOf a0 ds f).eval (.tmp t) = a0.eval (.tmp t) := fun f t h => actOf_out a0 _ f h
  have inn : ∀ f t, t ∈ ds → t < 187 → (actOf a0 ds f).eval (.tmp t) = f t := fun f t h h2 => actOf_in a0 _ f h (by rw [hsz]; exact h2)
  rw [← actOf_self a0 ds]
  refine wp_region_pv (pre := back_regPre) (actOf a0 ds) (fun t => a0.eval (.tmp t)) (by kernel_rfl) hchk back_regIts (back_regPhi A B G H oa ob n ca cb cg ch m za zb) [] (by rw [hn]; decide +kernel) ?_ ?_
  · intro i hi
    rw [hn] at hi
    match i, hi with
    | 0, _ =>
      obtain ⟨o, o1, o2, o3, o4⟩ := k0
      exact does_val 162 (by decide) fun f w hB h => wpOp_go o1 o4 (step_move (d := some 162) o2 (Or.inl o3) ((out f 5 (by rw [hds]; decide)).trans e5) ⟨_, (actOf_put _ _ _ (by rw [hds]; decide) _), rfl, Bel.refl _⟩)
    | 1, _ =>
      obtain ⟨o, o1, o2, o3, o4⟩ := k1
      exact does_val 163 (by decide) fun f w hB h => wpOp_go o1 o4 (step_move (d := some 163) o2 (Or.inl o3) ((out f 17 (by rw [hds]; decide)).trans e17) ⟨_, (actOf_put _ _ _ (by rw [hds]; decide) _), rfl, Bel.refl _⟩)
    | 2, _ =>
      obtain ⟨o, o1, o2, o3, o4⟩ := k2
      exact does_val 164 (by decide) fun f w hB h => wpOp_go o1 o4 (step_indexM (d := some 164) o2 o3 ((inn f 162 (by rw [hds]; decide) (by decide)).trans (h 0 162 (by decide) (by decide))) ((inn f 163 (by rw [hds]; decide) (by decide)).trans (h 1 163 (by decide) (by decide))) (index_f _ _ _ _ hlt _) ⟨_, (actOf_put _ _ _ (by rw [hds]; decide) _), rfl, Bel.refl _⟩)
    | 3, _ =>
      obtain ⟨o, o1, o2, o3, o4⟩ := k3
      exact does_val 165 (by decide) fun f w hB h => wpOp_go o1 o4 (step_load (d := some 165) o2 o3 ((inn f 164 (by rw [hds]; decide) (by decide)).trans (h 2 164 (by decide) (by decide))) (load_float (cG _ hB)) ⟨_, (actOf_put _ _ _ (by rw [hds]; decide) _), rfl, Bel.refl _⟩)
    | 4, _ =>
      obtain ⟨o, o1, o2, o3, o4⟩ := k4
      exact does_val 166 (by decide) fun f w hB h => wpOp_go o1 o4 (step_move (d := some 166) o2 (Or.inl o3) ((out f 0 (by rw [hds]; decide)).trans e0) ⟨_, (actOf_put _ _ _ (by rw [hds]; decide) _), rfl, Bel.refl _⟩)
    | 5, _ =>
      obtain ⟨o, o1, o2, o3, o4⟩ := k5
      exact does_val 167 (by decide) fun f w hB h => wpOp_go o1 o4 (step_move (d := some 167) o2 (Or.inl o3) ((out f 17 (by rw [hds]; decide)).trans e17) ⟨_, (actOf_put _ _ _ (by rw [hds]; decide) _), rfl, Bel.refl _⟩)
    | 6, _ =>
      obtain ⟨o, o1, o2, o3, o4⟩ := k6
      exact does_val 168 (by decide) fun f w hB h => wpOp_go o1 o4 (step_indexM (d := some 168) o2 o3 ((inn f 166 (by rw [hds]; decide) (by decide)).trans (h 4 166 (by decide) (by decide))) ((inn f 167 (by rw [hds]; decide) (by decide)).trans (h 5 167 (by decide) (by decide))) (index_i _ _ _ _ _ hlt _) ⟨_, (actOf_put _ _ _ (by rw [hds]; decide) _), rfl, Bel.refl _⟩)
    | 7, _ =>
      obtain ⟨o, o1, o2, o3, o4⟩ := k7
      exact does_val 169 (by decide) fun f w hB h => wpOp_go o1 o4 (step_load (d := some 169) o2 o3 ((inn f 168 (by rw [hds]; decide) (by decide)).trans (h 6 168 (by decide) (by decide))) (load_i64 (cA _ hB)) ⟨_, (actOf_put _ _ _ (by rw [hds]; decide) _), rfl, Bel.refl _⟩)
    | 8, _ =>
      obtain ⟨o, o1, o2, o3, o4⟩ := k8
      exact does_val 170 (by decide) fun f w hB h => wpOp_go o1 o4 (step_callN1 (d := some 170) o2 o3 ((inn f 169 (by rw [hds]; decide) (by decide)).trans (h 7 169 (by decide) (by decide))) (by kernel_rfl) ((f1 _).mono fun _ _ ⟨k1, k2⟩ => ⟨_, k1, _, (actOf_put _ _ _ (by rw [hds]; decide) _), rfl, k2⟩))
    | 9, _ =>
      obtain ⟨o, o1, o2, o3, o4⟩ := k9
      exact does_val 171 (by decide) fun f w hB h => wpOp_go o1 o4 (step_callN2 (d := some 171) o2 o3 ((inn f 165 (by rw [hds]; decide) (by decide)).trans (h 3 165 (by decide) (by decide))) ((inn f 170 (by rw [hds]; decide) (by decide)).trans (h 8 170 (by decide) (by decide))) (by kernel_rfl) ((s1 _).mono fun _ _ ⟨k1, k2⟩ => ⟨_, k1, _, (actOf_put _ _ _ (by rw [hds]; decide) _), rfl, k2⟩))
    | 10, _ =>
      obtain ⟨o, o1, o2, o3, o4⟩ := k10
      exact does_val 172 (by decide) fun f w hB h => wpOp_go o1 o4 (step_not (b := true) (d := some 172) o2 o3 ((inn f 171 (by rw [hds]; decide) (by decide)).trans (h 9 171 (by decide) (by decide))) ⟨_, (actOf_put _ _ _ (by rw [hds]; decide) _), rfl, Bel.refl _⟩)
    | 11, _ =>
      obtain ⟨o, o1, o2, o3, o4⟩ := k11
      exact does_val 173 (by decide) fun f w hB h => wpOp_go o1 o4 (step_move (d := some 173) o2 (Or.inl o3) ((inn f 172 (by rw [hds]; decide) (by decide)).trans (h 10 172 (by decide) (by decide))) ⟨_, (actOf_put _ _ _ (by rw [hds]; decide) _), rfl, Bel.refl _⟩)
    | 12, _ =>
      obtain ⟨o, o1, o2, o3, o4⟩ := k12
      exact does_val 174 (by decide) fun f w hB h => wpOp_if o1 o4 k11.dst ((inn f 173 (by rw [hds]; decide) (by decide)).trans (h 11 173 (by decide) (by decide))) (step_move (d := some 174) o2 (Or.inl o3) ((out f 6 (by rw [hds]; decide)).trans e6) ⟨_, (actOf_put _ _ _ (by rw [hds]; decide) _), rfl, Bel.refl _⟩)
    | 13, _ =>
      obtain ⟨o, o1, o2, o3, o4⟩ := k13
      exact does_val 175 (by decide) fun f w hB h => wpOp_if o1 o4 k11.dst ((inn f 173 (by rw [hds]; decide) (by decide)).trans (h 11 173 (by decide) (by decide))) (step_move (d := some 175) o2 (Or.inl o3) ((out f 17 (by rw [hds]; decide)).trans e17) ⟨_, (actOf_put _ _ _ (by rw [hds]; decide) _), rfl, Bel.refl _⟩)
    | 14, _ =>
      obtain ⟨o, o1, o2, o3, o4⟩ := k14
      exact does_val 176 (by decide) fun f w hB h => wpOp_if o1 o4 k11.dst ((inn f 173 (by rw [hds]; decide) (by decide)).trans (h 11 173 (by decide) (by decide))) (step_indexM (d := some 176) o2 o3 ((inn f 174 (by rw [hds]; decide) (by decide)).trans (h 12 174 (by decide) (by decide))) ((inn f 175 (by rw [hds]; decide) (by decide)).trans (h 13 175 (by decide) (by decide))) (index_f _ _ _ _ hlt _) ⟨_, (actOf_put _ _ _ (by rw [hds]; decide) _), rfl, Bel.refl _⟩)
    | 15, _ =>
      obtain ⟨o, o1, o2, o3, o4⟩ := k15
      exact does_val 177 (by decide) fun f w hB h => wpOp_if o1 o4 k11.dst ((inn f 173 (by rw [hds]; decide) (by decide)).trans (h 11 173 (by decide) (by decide))) (step_load (d := some 177) o2 o3 ((inn f 176 (by rw [hds]; decide) (by decide)).trans (h 14 176 (by decide) (by decide))) (load_float (cH _ hB)) ⟨_, (actOf_put _ _ _ (by rw [hds]; decide) _), rfl, Bel.refl _⟩)
    | 16, _ =>
      obtain ⟨o, o1, o2, o3, o4⟩ := k16
      exact does_val 178 (by decide) fun f w hB h => wpOp_if o1 o4 k11.dst ((inn f 173 (by rw [hds]; decide) (by decide)).trans (h 11 173 (by decide) (by decide))) (step_move (d := some 178) o2 (Or.inl o3) ((out f 1 (by rw [hds]; decide)).trans e1) ⟨_, (actOf_put _ _ _ (by rw [hds]; decide) _), rfl, Bel.refl _⟩)
    | 17, _ =>
      obtain ⟨o, o1, o2, o3, o4⟩ := k17
      exact does_val 179 (by decide) fun f w hB h => wpOp_if o1 o4 k11.dst ((inn f 173 (by rw [hds]; decide) (by decide)).trans (h 11 173 (by decide) (by decide))) (step_move (d := some 179) o2 (Or.inl o3) ((out f 17 (by rw [hds]; decide)).trans e17) ⟨_, (actOf_put _ _ _ (by rw [hds]; decide) _), rfl, Bel.refl _⟩)
    | 18, _ =>
      obtain ⟨o, o1, o2, o3, o4⟩ := k18
      exact does_val 180 (by decide) fun f w hB h => wpOp_if o1 o4 k11.dst ((inn f 173 (by rw [hds]; decide) (by decide)).trans (h 11 173 (by decide) (by decide))) (step_indexM (d := some 180) o2 o3 ((inn f 178 (by rw [hds]; decide) (by decide)).trans (h 16 178 (by decide) (by decide))) ((inn f 179 (by rw [hds]; decide) (by decide)).trans (h 17 179 (by decide) (by decide))) (index_i _ _ _ _ _ hlt _) ⟨_, (actOf_put _ _ _ (by rw [hds]; decide) _), rfl, Bel.refl _⟩)
    | 19, _ =>
      obtain ⟨o, o1, o2, o3, o4⟩ := k19
      exact does_val 181 (by decide) fun f w hB h => wpOp_if o1 o4 k11.dst ((inn f 173 (by rw [hds]; decide) (by decide)).trans (h 11 173 (by decide) (by decide))) (step_load (d := some 181) o2 o3 ((inn f 180 (by rw [hds]; decide) (by decide)).trans (h 18 180 (by decide) (by decide))) (load_i64 (cB _ hB)) ⟨_, (actOf_put _ _ _ (by rw [hds]; decide) _), rfl, Bel.refl _⟩)
    | 20, _ =>
      obtain ⟨o, o1, o2, o3, o4⟩ := k20
      exact does_val 182 (by decide) fun f w hB h => wpOp_if o1 o4 k11.dst ((inn f 173 (by rw [hds]; decide) (by decide)).trans (h 11 173 (by decide) (by decide))) (step_callN1 (d := some 182) o2 o3 ((inn f 181 (by rw [hds]; decide) (by decide)).trans (h 19 181 (by decide) (by decide))) (by kernel_rfl) ((f2 _).mono fun _ _ ⟨k1, k2⟩ => ⟨_, k1, _, (actOf_put _ _ _ (by rw [hds]; decide) _), rfl, k2⟩))
    | 21, _ =>
      obtain ⟨o, o1, o2, o3, o4⟩ := k21
      exact does_val 183 (by decide) fun f w hB h => wpOp_if o1 o4 k11.dst ((inn f 173 (by rw [hds]; decide) (by decide)).trans (h 11 173 (by decide) (by decide))) (step_callN2 (d := some 183) o2 o3 ((inn f 177 (by rw [hds]; decide) (by decide)).trans (h 15 177 (by decide) (by decide))) ((inn f 182 (by rw [hds]; decide) (by decide)).trans (h 20 182 (by decide) (by decide))) (by kernel_rfl) ((s2 _).mono fun _ _ ⟨k1, k2⟩ => ⟨_, k1, _, (actOf_put _ _ _ (by rw [hds]; decide) _), rfl, k2⟩))
    | 22, _ =>
      obtain ⟨o, o1, o2, o3, o4⟩ := k22
      exact does_val 184 (by decide) fun f w hB h => wpOp_if o1 o4 k11.dst ((inn f 173 (by rw [hds]; decide) (by decide)).trans (h 11 173 (by decide) (by decide))) (step_not (b := true) (d := some 184) o2 o3 ((inn f 183 (by rw [hds]; decide) (by decide)).trans (h 21 183 (by decide) (by decide))) ⟨_, (actOf_put _ _ _ (by rw [hds]; decide) _), rfl, Bel.refl _⟩)
    | 23, _ =>
      obtain ⟨o, o1, o2, o3, o4⟩ := k23
      exact does_val 185 (by decide) fun f w hB h => wpOp_go o1 o4 (step_pickf (d := some 185) o2 o3 ((inn f 173 (by rw [hds]; decide) (by decide)).trans (h 11 173 (by decide) (by decide))) ((inn f 184 (by rw [hds]; decide) (by decide)).trans (h 22 184 (by decide) (by decide))) ⟨_, (actOf_put _ _ _ (by rw [hds]; decide) _), rfl, Bel.refl _⟩)
    | (m + 24), hi => exact absurd hi (by omega)
  · intro f w hB h _
    exact hQ f w hB (h 23 185 (by decide))
end Go.Proofs.Ytnclnbbnkfolgaa

/- The regions of Parts that draw their order: two slices made, two floats stored. -/
import Derived.Test.YtnclnbbnkfolgaaRegI
import Derived.Test.YtnclnbbnkfolgaaStepM
import Derived.Test.YtnclnbbnkfolgaaStepC
import Derived.Test.YtnclnbbnkfolgaaEqC
import Derived.Test.YtnclnbbnkfolgaaArr6
namespace Go.Proofs.Ytnclnbbnkfolgaa
open Go.RowKit
set_option linter.unusedVariables false

theorem step_makef {o : Oper} {d : Option Nat} {a : Act} {w : World} {K : Act → World → Prop} {Q : Exit → Act → World → Prop} {s s' : Operand} {n : Nat} (hd : o.dst = d) (hop : o.op = .makeSlice 45 s s') (hs : a.eval s = .int .i64 (n : Int)) (hs' : a.eval s' = .int .i64 (n : Int)) (hn : n * 16 ≤ 281474976710656)
    (hK : K (a.put d (.slice (some ⟨w.heap.size, 0, none⟩) n n)) (w.alloc (.cells (madeCells #[.float .f64 0] n) 23))) : Oper.wp Try.prog o a w K Q := by
  subst hd
  have hm := make_f n hn
  unfold Oper.wp
  simp [execOp, hop, hs, hs', hm]
  exact hK
theorem step_storef {o : Oper} {d : Option Nat} {a : Act} {w : World} {K : Act → World → Prop} {Q : Exit → Act → World → Prop} {s x : Operand} {g n i u : Nat} {F : Nat → Nat} (hd : o.dst = d) (hop : o.op = Op.store 23 s x) (hs : a.eval s = .pointer (some ⟨g, i, none⟩)) (hx : a.eval x = .float .f64 u)
    (hT : FArr w g n F) (hi : i < n) (hK : K (a.put d undef) (w.setCell ⟨g, i, none⟩ (.float .f64 u))) : Oper.wp Try.prog o a w K Q := by
  subst hd
  have c0 := hT.c i hi
  have z0 := hT.z i hi
  have sf := run_store_float Try.prog
  unfold Oper.wp
  have hrun : (Instr.storeAt 23 (.pointer (some ⟨g, i, none⟩)) (.float .f64 u)).run Try.prog w = .ok () (w.setCell ⟨g, i, none⟩ (.float .f64 u)) := by
    simp [go_sem, sf, c0, z0]
  simp [execOp, hop, hs, hx, hrun]
  exact hK
theorem Two.off {w : World} {R X k a b : Nat} (hne : R ≠ X) (h : Two w R a b) (u : Value) : Two (w.setCell ⟨X, k, none⟩ u) R a b := by
  have e : ∀ j, (⟨R, j, none⟩ : Addr) ≠ ⟨X, k, none⟩ := fun j e => hne (congrArg Addr.block e)
  exact ⟨(World.cell?_setCell_other _ _ _ _ (fun k => e _ k.symm)).trans h.c0, (World.cell?_setCell_other _ _ _ _ (fun k => e _ k.symm)).trans h.c1, by rw [World.frozen?_setCell]; exact h.z0, by rw [World.frozen?_setCell]; exact h.z1⟩
abbrev sl6 (X n : Nat) : Value := .slice (some ⟨X, 0, none⟩) n n
/-- what holds while two slices are made -/
structure TwoMade (w1 : World) (n : Nat) (d2 d5 d6 d7 : Bool) (x8 x11 x2 x3 : Value) (w : World) : Prop where
  bel : Bel w1 w
  m2 : d2 = true → ∃ X, x8 = sl6 X n ∧ w1.heap.size ≤ X ∧ X < w.heap.size ∧ FArr w X n (fun _ => 0)
  m5 : d5 = true → ∃ X, x11 = sl6 X n ∧ w1.heap.size ≤ X ∧ X < w.heap.size ∧ FArr w X n (fun _ => 0)
  ne : d2 = true → d5 = true → x8 ≠ x11
  a6 : d6 = true → d2 = true ∧ x2 = x8
  a7 : d7 = true → d5 = true ∧ x3 = x11
def parts1Pre (i : Nat) : List Nat := match i with | 1 => [0] | 2 => [1] | 4 => [3] | 5 => [4] | 6 => [0, 1, 2] | 7 => [0, 1, 2, 3, 4, 5, 6] | _ => []
def parts1Its : Its := [(0, 6), (1, 7), (3, 9), (4, 10)]
def parts1Phi (v : Value) (n : Nat) (i : Nat) (z : Value) : Prop := match i with
  | 0 => z = v
  | 1 => z = .int .i64 (n : Int)
  | 3 => z = v
  | 4 => z = .int .i64 (n : Int)
  | _ => True
set_option maxHeartbeats 4000000 in
theorem parts_reg1 {Q : Exit → Act → World → Prop} {ops : Array Oper} {id : Nat} {w1 : World} (a0 : Act) (g n c : Nat)
    (k0 : OpAt ops 0 (some 6) (.move (.tmp 0)) none)
    (k1 : OpAt ops 1 (some 7) (.call { callee := .builtin .len, args := #[.tmp 6], argTypes := #[38] }) none)
    (k2 : OpAt ops 2 (some 8) (.makeSlice 45 (.tmp 7) (.tmp 7)) none)
    (k3 : OpAt ops 3 (some 9) (.move (.tmp 0)) none)
    (k4 : OpAt ops 4 (some 10) (.call { callee := .builtin .len, args := #[.tmp 9], argTypes := #[38] }) none)
    (k5 : OpAt ops 5 (some 11) (.makeSlice 45 (.tmp 10) (.tmp 10)) none)
    (k6 : OpAt ops 6 (some 2) (.assign (.tmp 8)) none)
    (k7 : OpAt ops 7 (some 3) (.assign (.tmp 11)) none)
    (hn : ops.size = 8) (hchk : chkN parts1Pre ops = true) (hsz : a0.tmps.size = 32) (e0 : a0.eval (.tmp 0) = .slice (some ⟨g, 0, none⟩) n c) (hm : n * 16 ≤ 281474976710656)
    (hQ : ∀ f w X Y, Bel w1 w → f 2 = sl6 X n → f 3 = sl6 Y n → w1.heap.size ≤ X → w1.heap.size ≤ Y → X ≠ Y → X < w.heap.size → Y < w.heap.size → FArr w X n (fun _ => 0) → FArr w Y n (fun _ => 0) → Q .normal (actOf a0 [6, 7, 8, 9, 10, 11, 2, 3] f) w) : (Code.region id ops true).wp Try.prog Q a0 w1 := by
  obtain ⟨ds, hds⟩ : ∃ ds, ds = [6, 7, 8, 9, 10, 11, 2, 3] := ⟨_, rfl⟩
  rw [← hds] at hQ
  have out : ∀ f t, t ∉ ds → (actOf a0 ds f).eval (.tmp t) = a0.eval (.tmp t) := fun f t h => actOf_out a0 _ f h
  have inn : ∀ f t, t ∈ ds → t < 32 → (actOf a0 ds f).eval (.tmp t) = f t := fun f t h h2 => actOf_in a0 _ f h (by rw [hsz]; exact h2)
  rw [← actOf_self a0 ds]
  refine wp_region_iv (pre := parts1Pre) (actOf a0 ds) (fun t => a0.eval (.tmp t)) (by kernel_rfl) hchk parts1Its (parts1Phi (.slice (some ⟨g, 0, none⟩) n c) n) (fun D f w => TwoMade w1 n (D 2) (D 5) (D 6) (D 7) (f 8) (f 11) (f 2) (f 3) w) ?_ ?_ ?_ ?_
  · exact ⟨(Bel.refl w1).drew, fun h => absurd h Bool.false_ne_true, fun h => absurd h Bool.false_ne_true, fun h => absurd h Bool.false_ne_true, fun h => absurd h Bool.false_ne_true, fun h => absurd h Bool.false_ne_true⟩
  · intro i hi
    rw [hn] at hi
    match i, hi with
    | 0, _ =>
      obtain ⟨o, o1, o2, o3, o4⟩ := k0
      exact StepI.pure 6 (by decide) (by decide) (fun D f w v h => by simpa [tset] using h) fun D f w hI h => wpOp_go o1 o4 (step_move (d := some 6) o2 (Or.inl o3) ((out f 0 (by rw [hds]; decide)).trans e0) ⟨_, actOf_put _ _ _ (by rw [hds]; decide) _, rfl, rfl⟩)
    | 1, _ =>
      obtain ⟨o, o1, o2, o3, o4⟩ := k1
      exact StepI.pure 7 (by decide) (by decide) (fun D f w v h => by simpa [tset] using h) fun D f w hI h => wpOp_go o1 o4 (step_lenC (d := some 7) o2 o3 ((inn f 6 (by rw [hds]; decide) (by decide)).trans (h 0 6 (by decide) (by decide))) ⟨_, actOf_put _ _ _ (by rw [hds]; decide) _, rfl, rfl⟩)
    | 3, _ =>
      obtain ⟨o, o1, o2, o3, o4⟩ := k3
      exact StepI.pure 9 (by decide) (by decide) (fun D f w v h => by simpa [tset] using h) fun D f w hI h => wpOp_go o1 o4 (step_move (d := some 9) o2 (Or.inl o3) ((out f 0 (by rw [hds]; decide)).trans e0) ⟨_, actOf_put _ _ _ (by rw [hds]; decide) _, rfl, rfl⟩)
    | 4, _ =>
      obtain ⟨o, o1, o2, o3, o4⟩ := k4
      exact StepI.pure 10 (by decide) (by decide) (fun D f w v h => by simpa [tset] using h) fun D f w hI h => wpOp_go o1 o4 (step_lenC (d := some 10) o2 o3 ((inn f 9 (by rw [hds]; decide) (by decide)).trans (h 3 9 (by decide) (by decide))) ⟨_, actOf_put _ _ _ (by rw [hds]; decide) _, rfl, rfl⟩)
    | 2, _ =>
      obtain ⟨o, o1, o2, o3, o4⟩ := k2
      intro D f w hD hp hI hH
      have h7 := (inn f 7 (by rw [hds]; decide) (by decide)).trans (hH 1 7 (by decide) (hp 1 (by decide)))
      refine wpOp_go o1 o4 (step_makef (d := some 8) o2 o3 h7 h7 hm ⟨_, actOf_put _ _ _ (by rw [hds]; decide) _, ?_, hH.other (by decide)⟩)
      have hs : Bel w (w.alloc (.cells (madeCells #[.float .f64 0] n) 23)) := (Bel.refl w).alloc _
      have k : TwoMade w1 n true (D 5) (D 6) (D 7) (sl6 w.heap.size n) (f 11) (f 2) (f 3) (w.alloc (.cells (madeCells #[.float .f64 0] n) 23)) := by
        refine ⟨hI.bel.trans hs, fun _ => ⟨_, rfl, hI.bel.size, by simp, FArr.made w n _ _ rfl⟩, fun h => ?_, fun _ h e => ?_, fun h => ?_, hI.a7⟩
        · obtain ⟨X, x1, x2, x3, x4⟩ := hI.m5 h
          exact ⟨X, x1, x2, by simp; omega, x4.bel hs x3⟩
        · obtain ⟨X, x1, x2, x3, x4⟩ := hI.m5 h
          rw [x1] at e
          injection e with e _ _
          injection e with e
          injection e with e
          omega
        · have := (hI.a6 h).1
          rw [hD] at this; cases this
      simpa [tset] using k
    | 5, _ =>
      obtain ⟨o, o1, o2, o3, o4⟩ := k5
      intro D f w hD hp hI hH
      have h7 := (inn f 10 (by rw [hds]; decide) (by decide)).trans (hH 4 10 (by decide) (hp 4 (by decide)))
      refine wpOp_go o1 o4 (step_makef (d := some 11) o2 o3 h7 h7 hm ⟨_, actOf_put _ _ _ (by rw [hds]; decide) _, ?_, hH.other (by decide)⟩)
      have hs : Bel w (w.alloc (.cells (madeCells #[.float .f64 0] n) 23)) := (Bel.refl w).alloc _
      have k : TwoMade w1 n (D 2) true (D 6) (D 7) (f 8) (sl6 w.heap.size n) (f 2) (f 3) (w.alloc (.cells (madeCells #[.float .f64 0] n) 23)) := by
        refine ⟨hI.bel.trans hs, fun h => ?_, fun _ => ⟨_, rfl, hI.bel.size, by simp, FArr.made w n _ _ rfl⟩, fun h _ e => ?_, hI.a6, fun h => ?_⟩
        · obtain ⟨X, x1, x2, x3, x4⟩ := hI.m2 h
          exact ⟨X, x1, x2, by simp; omega, x4.bel hs x3⟩
        · obtain ⟨X, x1, x2, x3, x4⟩ := hI.m2 h
          rw [x1] at e
          injection e with e _ _
          injection e with e
          injection e with e
          omega
        · have := (hI.a7 h).1
          rw [hD] at this; cases this
      simpa [tset] using k
    | 6, _ =>
      obtain ⟨o, o1, o2, o3, o4⟩ := k6
      intro D f w hD hp hI hH
      refine wpOp_go o1 o4 (step_move (d := some 2) o2 (Or.inr o3) (inn f 8 (by rw [hds]; decide) (by decide)) ⟨_, actOf_put _ _ _ (by rw [hds]; decide) _, ?_, hH.other (by decide)⟩)
      have k : TwoMade w1 n (D 2) (D 5) true (D 7) (f 8) (f 11) (f 8) (f 3) w := ⟨hI.bel, hI.m2, hI.m5, hI.ne, fun _ => ⟨hp 2 (by decide), rfl⟩, hI.a7⟩
      simpa [tset] using k
    | 7, _ =>
      obtain ⟨o, o1, o2, o3, o4⟩ := k7
      intro D f w hD hp hI hH
      refine wpOp_go o1 o4 (step_move (d := some 3) o2 (Or.inr o3) (inn f 11 (by rw [hds]; decide) (by decide)) ⟨_, actOf_put _ _ _ (by rw [hds]; decide) _, ?_, hH.other (by decide)⟩)
      have k : TwoMade w1 n (D 2) (D 5) (D 6) true (f 8) (f 11) (f 2) (f 11) w := ⟨hI.bel, hI.m2, hI.m5, hI.ne, hI.a6, fun _ => ⟨hp 5 (by decide), rfl⟩⟩
      simpa [tset] using k
    | (m + 8), hi => exact absurd hi (by omega)
  · intro i t hit
    rw [hn]
    have e : ∀ c ∈ parts1Its, c.1 < 8 := by decide
    exact e _ hit
  · intro D f w hall hI _
    have d2 := hall 2 (by rw [hn]; decide)
    have d5 := hall 5 (by rw [hn]; decide)
    obtain ⟨X, x1, x2, x3, x4⟩ := hI.m2 d2
    obtain ⟨Y, y1, y2, y3, y4⟩ := hI.m5 d5
    have e6 := (hI.a6 (hall 6 (by rw [hn]; decide))).2
    have e7 := (hI.a7 (hall 7 (by rw [hn]; decide))).2
    have hne := hI.ne d2 d5
    refine hQ f w X Y hI.bel (e6.trans x1) (e7.trans y1) x2 y2 (fun e => hne ?_) x3 y3 x4 y4
    rw [x1, y1, e]
/-- what holds while two floats are stored -/
structure TwoStored (w0 : World) (A x y P Q n m : Nat) (F E : Nat → Nat) (d9 d11 : Bool) (w : World) : Prop where
  bel : Bel w0 w
  two : Two w A x y
  fp : FArr w P n (if d9 = true then fun j => if j = m then x else F j else F)
  fq : FArr w Q n (if d11 = true then fun j => if j = m then y else E j else E)
  lp : P < w.heap.size
  lq : Q < w.heap.size
def parts5Pre (i : Nat) : List Nat := match i with | 5 => [4] | 7 => [6] | 8 => [0, 1, 4, 5] | 9 => [0, 1, 4, 5, 8] | 10 => [0, 1, 2, 3, 4, 5, 6, 7, 8, 9] | 11 => [0, 1, 2, 3, 4, 5, 6, 7, 8, 9, 10] | _ => []
def parts5Its : Its := [(0, 19), (1, 20), (2, 21), (3, 22), (4, 23), (5, 24), (6, 25), (7, 26), (8, 27), (10, 28)]
def parts5Phi (A x y P Q n m : Nat) (i : Nat) (z : Value) : Prop := match i with
  | 0 => z = sl6 P n
  | 1 => z = .int .i64 (m : Int)
  | 2 => z = sl6 Q n
  | 3 => z = .int .i64 (m : Int)
  | 4 => z = .pointer (some ⟨A, 0, none⟩)
  | 5 => z = .float .f64 x
  | 6 => z = .pointer (some ⟨A, 1, none⟩)
  | 7 => z = .float .f64 y
  | 8 => z = .pointer (some ⟨P, m, none⟩)
  | 10 => z = .pointer (some ⟨Q, m, none⟩)
  | _ => True
set_option maxHeartbeats 4000000 in
theorem parts_reg5 {R : Exit → Act → World → Prop} {ops : Array Oper} {id : Nat} {w0 w1 : World} (a0 : Act) (A x y P Q n m : Nat) (F E : Nat → Nat)
    (k0 : OpAt ops 0 (some 19) (.move (.tmp 2)) none)
    (k1 : OpAt ops 1 (some 20) (.move (.tmp 4)) none)
    (k2 : OpAt ops 2 (some 21) (.move (.tmp 3)) none)
    (k3 : OpAt ops 3 (some 22) (.move (.tmp 4)) none)
    (k4 : OpAt ops 4 (some 23) (.fieldAddr 25 (.tmp 5) 0) none)
    (k5 : OpAt ops 5 (some 24) (.load 23 (.tmp 23)) none)
    (k6 : OpAt ops 6 (some 25) (.fieldAddr 25 (.tmp 5) 1) none)
    (k7 : OpAt ops 7 (some 26) (.load 23 (.tmp 25)) none)
    (k8 : OpAt ops 8 (some 27) (.indexAddr 45 (.tmp 19) (.tmp 20)) none)
    (k9 : OpAt ops 9 none (.store 23 (.tmp 27) (.tmp 24)) none)
    (k10 : OpAt ops 10 (some 28) (.indexAddr 45 (.tmp 21) (.tmp 22)) none)
    (k11 : OpAt ops 11 none (.store 23 (.tmp 28) (.tmp 26)) none)
    (hn : ops.size = 12) (hchk : chkN parts5Pre ops = true) (hsz : a0.tmps.size = 32) (e2 : a0.eval (.tmp 2) = sl6 P n) (e3 : a0.eval (.tmp 3) = sl6 Q n) (e4 : a0.eval (.tmp 4) = .int .i64 (m : Int)) (e5 : a0.eval (.tmp 5) = .pointer (some ⟨A, 0, none⟩))
    (hm : m < n) (hAP : A ≠ P) (hAQ : A ≠ Q) (hPQ : P ≠ Q) (hwP : w0.heap.size ≤ P) (hwQ : w0.heap.size ≤ Q) (hb : Bel w0 w1) (tA : Two w1 A x y) (tP : FArr w1 P n F) (tQ : FArr w1 Q n E) (lP : P < w1.heap.size) (lQ : Q < w1.heap.size)
    (hQ : ∀ f w, Bel w0 w → FArr w P n (fun j => if j = m then x else F j) → FArr w Q n (fun j => if j = m then y else E j) → P < w.heap.size → Q < w.heap.size → R .normal (actOf a0 [19, 20, 21, 22, 23, 24, 25, 26, 27, 28] f) w) : (Code.region id ops true).wp Try.prog R a0 w1 := by
  obtain ⟨ds, hds⟩ : ∃ ds, ds = [19, 20, 21, 22, 23, 24, 25, 26, 27, 28] := ⟨_, rfl⟩
  rw [← hds] at hQ
  have out : ∀ f t, t ∉ ds → (actOf a0 ds f).eval (.tmp t) = a0.eval (.tmp t) := fun f t h => actOf_out a0 _ f h
  have inn : ∀ f t, t ∈ ds → t < 32 → (actOf a0 ds f).eval (.tmp t) = f t := fun f t h h2 => actOf_in a0 _ f h (by rw [hsz]; exact h2)
  rw [← actOf_self a0 ds]
  refine wp_region_iv (pre := parts5Pre) (actOf a0 ds) (fun t => a0.eval (.tmp t)) (by kernel_rfl) hchk parts5Its (parts5Phi A x y P Q n m) (fun D _ w => TwoStored w0 A x y P Q n m F E (D 9) (D 11) w) ?_ ?_ ?_ ?_
  · exact ⟨hb.drew, tA.dr, ⟨tP.c, tP.z⟩, ⟨tQ.c, tQ.z⟩, lP, lQ⟩
  · intro i hi
    rw [hn] at hi
    match i, hi with
    | 0, _ =>
      obtain ⟨o, o1, o2, o3, o4⟩ := k0
      exact StepI.pure 19 (by decide) (by decide) (fun D f w v h => by simpa using h) fun D f w hI h => wpOp_go o1 o4 (step_move (d := some 19) o2 (Or.inl o3) ((out f 2 (by rw [hds]; decide)).trans e2) ⟨_, actOf_put _ _ _ (by rw [hds]; decide) _, rfl, rfl⟩)
    | 1, _ =>
      obtain ⟨o, o1, o2, o3, o4⟩ := k1
      exact StepI.pure 20 (by decide) (by decide) (fun D f w v h => by simpa using h) fun D f w hI h => wpOp_go o1 o4 (step_move (d := some 20) o2 (Or.inl o3) ((out f 4 (by rw [hds]; decide)).trans e4) ⟨_, actOf_put _ _ _ (by rw [hds]; decide) _, rfl, rfl⟩)
    | 2, _ =>
      obtain ⟨o, o1, o2, o3, o4⟩ := k2
      exact StepI.pure 21 (by decide) (by decide) (fun D f w v h => by simpa using h) fun D f w hI h => wpOp_go o1 o4 (step_move (d := some 21) o2 (Or.inl o3) ((out f 3 (by rw [hds]; decide)).trans e3) ⟨_, actOf_put _ _ _ (by rw [hds]; decide) _, rfl, rfl⟩)
    | 3, _ =>
      obtain ⟨o, o1, o2, o3, o4⟩ := k3
      exact StepI.pure 22 (by decide) (by decide) (fun D f w v h => by simpa using h) fun D f w hI h => wpOp_go o1 o4 (step_move (d := some 22) o2 (Or.inl o3) ((out f 4 (by rw [hds]; decide)).trans e4) ⟨_, actOf_put _ _ _ (by rw [hds]; decide) _, rfl, rfl⟩)
    | 4, _ =>
      obtain ⟨o, o1, o2, o3, o4⟩ := k4
      exact StepI.pure 23 (by decide) (by decide) (fun D f w v h => by simpa using h) fun D f w hI h => wpOp_go o1 o4 (step_field (d := some 23) o2 o3 ((out f 5 (by rw [hds]; decide)).trans e5) field_hiC ⟨_, actOf_put _ _ _ (by rw [hds]; decide) _, rfl, rfl⟩)
    | 5, _ =>
      obtain ⟨o, o1, o2, o3, o4⟩ := k5
      exact StepI.pure 24 (by decide) (by decide) (fun D f w v h => by simpa using h) fun D f w hI h => wpOp_go o1 o4 (step_load (d := some 24) o2 o3 ((inn f 23 (by rw [hds]; decide) (by decide)).trans (h 4 23 (by decide) (by decide))) (load_float hI.two.c0) ⟨_, actOf_put _ _ _ (by rw [hds]; decide) _, rfl, rfl⟩)
    | 6, _ =>
      obtain ⟨o, o1, o2, o3, o4⟩ := k6
      exact StepI.pure 25 (by decide) (by decide) (fun D f w v h => by simpa using h) fun D f w hI h => wpOp_go o1 o4 (step_field (d := some 25) o2 o3 ((out f 5 (by rw [hds]; decide)).trans e5) field_loC ⟨_, actOf_put _ _ _ (by rw [hds]; decide) _, rfl, rfl⟩)
    | 7, _ =>
      obtain ⟨o, o1, o2, o3, o4⟩ := k7
      exact StepI.pure 26 (by decide) (by decide) (fun D f w v h => by simpa using h) fun D f w hI h => wpOp_go o1 o4 (step_load (d := some 26) o2 o3 ((inn f 25 (by rw [hds]; decide) (by decide)).trans (h 6 25 (by decide) (by decide))) (load_float hI.two.c1) ⟨_, actOf_put _ _ _ (by rw [hds]; decide) _, rfl, rfl⟩)
    | 8, _ =>
      obtain ⟨o, o1, o2, o3, o4⟩ := k8
      exact StepI.pure 27 (by decide) (by decide) (fun D f w v h => by simpa using h) fun D f w hI h => wpOp_go o1 o4 (step_indexM (d := some 27) o2 o3 ((inn f 19 (by rw [hds]; decide) (by decide)).trans (h 0 19 (by decide) (by decide))) ((inn f 20 (by rw [hds]; decide) (by decide)).trans (h 1 20 (by decide) (by decide))) (index_f _ _ _ _ hm _) ⟨_, actOf_put _ _ _ (by rw [hds]; decide) _, rfl, rfl⟩)
    | 10, _ =>
      obtain ⟨o, o1, o2, o3, o4⟩ := k10
      exact StepI.pure 28 (by decide) (by decide) (fun D f w v h => by simpa using h) fun D f w hI h => wpOp_go o1 o4 (step_indexM (d := some 28) o2 o3 ((inn f 21 (by rw [hds]; decide) (by decide)).trans (h 2 21 (by decide) (by decide))) ((inn f 22 (by rw [hds]; decide) (by decide)).trans (h 3 22 (by decide) (by decide))) (index_f _ _ _ _ hm _) ⟨_, actOf_put _ _ _ (by rw [hds]; decide) _, rfl, rfl⟩)
    | 9, _ =>
      obtain ⟨o, o1, o2, o3, o4⟩ := k9
      intro D f w hD hp hI hH
      have h1 := (inn f 27 (by rw [hds]; decide) (by decide)).trans (hH 8 27 (by decide) (hp 8 (by decide)))
      have h2 := (inn f 24 (by rw [hds]; decide) (by decide)).trans (hH 5 24 (by decide) (hp 5 (by decide)))
      have hP := hI.fp
      rw [hD, if_neg Bool.false_ne_true] at hP
      refine wpOp_go o1 o4 (step_storef (d := none) o2 o3 h1 h2 hP hm ⟨f, rfl, ?_, hH.skip (by decide)⟩)
      have k : TwoStored w0 A x y P Q n m F E true (D 11) (w.setCell ⟨P, m, none⟩ (.float .f64 x)) := ⟨hI.bel.setCell (p := ⟨P, m, none⟩) hwP _, hI.two.off hAP _, hP.set hm x, hI.fq.off (Ne.symm hPQ) _, by simp; exact hI.lp, by simp; exact hI.lq⟩
      simpa using k
    | 11, _ =>
      obtain ⟨o, o1, o2, o3, o4⟩ := k11
      intro D f w hD hp hI hH
      have h1 := (inn f 28 (by rw [hds]; decide) (by decide)).trans (hH 10 28 (by decide) (hp 10 (by decide)))
      have h2 := (inn f 26 (by rw [hds]; decide) (by decide)).trans (hH 7 26 (by decide) (hp 7 (by decide)))
      have hP := hI.fq
      rw [hD, if_neg Bool.false_ne_true] at hP
      refine wpOp_go o1 o4 (step_storef (d := none) o2 o3 h1 h2 hP hm ⟨f, rfl, ?_, hH.skip (by decide)⟩)
      have k : TwoStored w0 A x y P Q n m F E (D 9) true (w.setCell ⟨Q, m, none⟩ (.float .f64 y)) := ⟨hI.bel.setCell (p := ⟨Q, m, none⟩) hwQ _, hI.two.off hAQ _, hI.fp.off hPQ _, hP.set hm y, by simp; exact hI.lp, by simp; exact hI.lq⟩
      simpa using k
    | (k + 12), hi => exact absurd hi (by omega)
  · intro i t hit
    rw [hn]
    have e : ∀ c ∈ parts5Its, c.1 < 12 := by decide
    exact e _ hit
  · intro D f w hall hI _
    have d9 := hall 9 (by rw [hn]; decide)
    have d11 := hall 11 (by rw [hn]; decide)
    have h1 := hI.fp
    have h2 := hI.fq
    rw [d9, if_pos rfl] at h1
    rw [d11, if_pos rfl] at h2
    exact hQ f w hI.bel h1 h2 hI.lp hI.lq
end Go.Proofs.Ytnclnbbnkfolgaa

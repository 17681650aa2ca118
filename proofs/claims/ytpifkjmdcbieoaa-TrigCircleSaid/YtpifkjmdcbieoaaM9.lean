/- Merged texts: SerR, SerW, AxisN, Axis5, AxisP, Opp5, OctL, Exact5, Parts5. -/
import Derived.Test.YtpifkjmdcbieoaaM8
import Derived.Deep.DeepCutAuto
import Derived.Test.YtpifkjmdcbieoaaM2
import Derived.Test.YtpifkjmdcbieoaaM1
import Derived.Test.YtpifkjmdcbieoaaProg
import Derived.IntWalk
/- The landed trig's series: the two regions of a round that draw their order. -/
namespace Go.Proofs.Ytpifkjmdcbieoaa
open Go.RowKit

theorem chain {α : Type} (P : Nat → α → Prop) (R : Nat → α → α → Prop) (N : Nat) (a0 : α) (h0 : P 0 a0) (hs : ∀ i a, i < N → P i a → ∃ b, P (i + 1) b ∧ R i a b) : ∃ W : Nat → α, W 0 = a0 ∧ (∀ i, i ≤ N → P i (W i)) ∧ ∀ i, i < N → R i (W i) (W (i + 1)) := by
  have key : ∀ n, n ≤ N → ∃ W : Nat → α, W 0 = a0 ∧ (∀ i, i ≤ n → P i (W i)) ∧ ∀ i, i < n → R i (W i) (W (i + 1)) := by
    intro n
    induction n with
    | zero => exact fun _ => ⟨fun _ => a0, rfl, fun i hi => by rw [show i = 0 from by omega]; exact h0, fun i hi => absurd hi (by omega)⟩
    | succ n ih =>
      intro hn
      obtain ⟨W, w0, w1, w2⟩ := ih (by omega)
      obtain ⟨b, hb1, hb2⟩ := hs n (W n) (by omega) (w1 n (by omega))
      refine ⟨fun i => if i = n + 1 then b else W i, ?_, fun i hi => ?_, fun i hi => ?_⟩
      · show (if 0 = n + 1 then b else W 0) = a0
        rw [if_neg (by omega), w0]
      · show P i (if i = n + 1 then b else W i)
        by_cases c : i = n + 1
        · rw [if_pos c, c]; exact hb1
        · rw [if_neg c]; exact w1 i (by omega)
      · show R i (if i = n + 1 then b else W i) (if i + 1 = n + 1 then b else W (i + 1))
        rw [if_neg (by omega)]
        by_cases c : i = n
        · rw [if_pos (by omega), c]; exact hb2
        · rw [if_neg (by omega)]; exact w2 i (by omega)
  exact key N (Nat.le_refl _)
abbrev dv (x y : Nat) : Value := .agg #[.float .f64 x, .float .f64 y]
def partPre (i : Nat) : List Nat := match i with | 2 => [1] | 3 => [0, 2] | 5 => [4, 3] | _ => []
theorem part_reg {Q : Exit → Act → World → Prop} {ops : Array Oper} {id : Nat} {w1 : World} (a0 : Act) (A x y kx ky px py : Nat) (k : Int)
    (hops : ∃ y0 y1 y2 y3 y4 y5 q0 q1 q2 q3 q4 q5 f0 f1 f2 f3 f4 f5, ops = #[
      { dst := some 13, op := .load 30 (.tmp 1), type := y0, pos := q0, after := f0, guard := none },
      { dst := some 14, op := .move (.tmp 5), type := y1, pos := q1, after := f1, guard := none },
      { dst := some 15, op := .call { callee := .value (.func 36), args := #[.tmp 14], argTypes := #[2] }, type := y2, pos := q2, after := f2, guard := none },
      { dst := some 16, op := .call { callee := .value (.func 39), args := #[.tmp 13, .tmp 15], argTypes := #[30, 30] }, type := y3, pos := q3, after := f3, guard := none },
      { dst := some 6, op := .alloc 30, type := y4, pos := q4, after := f4, guard := none },
      { dst := none, op := .store 30 (.tmp 6) (.tmp 16), type := y5, pos := q5, after := f5, guard := none }])
    (hchk : chkN partPre ops = true) (hsz : a0.tmps.size = 28) (e1 : a0.eval (.tmp 1) = .pointer (some ⟨A, 0, none⟩)) (e5 : a0.eval (.tmp 5) = .int .i64 k) (tA : Two w1 A x y)
    (hk : ∀ w, Calls Try.prog 36 #[.int .i64 k] w fun r w' => r = .returned (dv kx ky) ∧ Bel w w')
    (hp : ∀ w, Calls Try.prog 39 #[dv x y, dv kx ky] w fun r w' => r = .returned (dv px py) ∧ Bel w w')
    (hQ : ∀ f w X, Bel w1 w → f 6 = .pointer (some ⟨X, 0, none⟩) → w1.heap.size ≤ X → Two w X px py → Q .normal (actOf a0 [6, 13, 14, 15, 16] f) w) : (Code.region id ops true).wp Try.prog Q a0 w1 := by
  obtain ⟨y0, y1, y2, y3, y4, y5, q0, q1, q2, q3, q4, q5, g0, g1, g2, g3, g4, g5, rfl⟩ := hops
  have out : ∀ f t, t ∉ [6, 13, 14, 15, 16] → (actOf a0 [6, 13, 14, 15, 16] f).eval (.tmp t) = a0.eval (.tmp t) := fun f t h => actOf_out a0 _ f h
  have inn : ∀ f t, t ∈ [6, 13, 14, 15, 16] → t < 28 → (actOf a0 [6, 13, 14, 15, 16] f).eval (.tmp t) = f t := fun f t h h2 => actOf_in a0 _ f h (by rw [hsz]; exact h2)
  rw [← actOf_self a0 [6, 13, 14, 15, 16]]
  have hA : Apart ([(0, 13, fun z => z = dv x y), (1, 14, fun z => z = .int .i64 k), (2, 15, fun z => z = dv kx ky), (3, 16, fun z => z = dv px py)] : Leaves) [⟨4, 6, 5, 16, 3⟩] := by
    refine ⟨by simp, by simp, by simp, by simp, by simp, by simp, by simp, by simp⟩
  refine wp_region_gv (pre := partPre) (actOf a0 [6, 13, 14, 15, 16]) (fun t => a0.eval (.tmp t)) (by kernel_rfl) hchk _ _ hA ?_ ⟨by simp, by simp⟩ ?_
  · intro i hi
    have hi : i < 6 := hi
    match i, hi with
    | 0, _ => exact .value 13 (fun z => z = dv x y) (by simp) fun f w hB h => wpOp_go rfl rfl (step_load (d := some 13) rfl rfl ((out f 1 (by decide)).trans e1) (load_num (tA.by hB)) ⟨_, actOf_put _ _ _ (by decide) _, rfl, Bel.refl _⟩)
    | 1, _ => exact .value 14 (fun z => z = .int .i64 k) (by simp) fun f w hB h => wpOp_go rfl rfl (step_move (d := some 14) rfl (Or.inl rfl) ((out f 5 (by decide)).trans e5) ⟨_, actOf_put _ _ _ (by decide) _, rfl, Bel.refl _⟩)
    | 2, _ => exact .value 15 (fun z => z = dv kx ky) (by simp) fun f w hB h => wpOp_go rfl rfl (step_call1 (d := some 15) rfl rfl ((inn f 14 (by decide) (by decide)).trans (h (1, 14, fun z => z = .int .i64 k) (by simp) (by simp [partPre]))) (by kernel_rfl) ((hk _).mono fun _ _ ⟨k1, k2⟩ => ⟨_, k1, _, actOf_put _ _ _ (by decide) _, rfl, k2⟩))
    | 3, _ => exact .value 16 (fun z => z = dv px py) (by simp) fun f w hB h => wpOp_go rfl rfl (step_call2 (d := some 16) rfl rfl ((inn f 13 (by decide) (by decide)).trans (h (0, 13, fun z => z = dv x y) (by simp) (by simp [partPre]))) ((inn f 15 (by decide) (by decide)).trans (h (2, 15, fun z => z = dv kx ky) (by simp) (by simp [partPre]))) (by kernel_rfl) ((hp _).mono fun _ _ ⟨k1, k2⟩ => ⟨_, k1, _, actOf_put _ _ _ (by decide) _, rfl, k2⟩))
    | 4, _ => exact .alloc ⟨4, 6, 5, 16, 3⟩ (by simp) rfl 30 fun f w K hK => wpOp_go rfl rfl (step_alloc (d := some 6) rfl rfl (by rw [actOf_put _ _ _ (by decide)]; exact hK))
    | 5, _ => exact .store ⟨4, 6, 5, 16, 3⟩ (by simp) rfl (by simp [partPre]) (by simp [partPre]) (by simp) fun f w K X a b α β hX hv hT hK => wpOp_go rfl rfl (step_store (d := none) rfl rfl ((inn f 6 (by decide) (by decide)).trans hX) ((inn f 16 (by decide) (by decide)).trans hv) hT hK)
  · intro f w hB h hF
    obtain ⟨X, α, β, r1, r2, r3, r4⟩ := hF.1 ⟨4, 6, 5, 16, 3⟩ (by simp)
    have hv : f 16 = dv px py := h (3, 16, fun z => z = dv px py) (by simp)
    have r4 : f 16 = _ := r4
    rw [hv] at r4
    cases r4
    exact hQ f w X hB r1 r2 r3
def stepPre (i : Nat) : List Nat := match i with | 3 => [1, 2] | 4 => [3] | 5 => [0, 4] | 8 => [6, 7] | 9 => [5, 0, 1, 2, 3, 4, 7] | 10 => [8, 9, 0, 1, 2, 3, 4, 5, 6, 7] | _ => []
theorem step_reg {Q : Exit → Act → World → Prop} {ops : Array Oper} {id : Nat} {w0 w1 : World} (a0 : Act) (A C S O P x y ox oy px py cx cy sx sy mx my nx ny cx' cy' sx' sy' : Nat)
    (hops : ∃ y0 y1 y2 y3 y4 y5 y6 y7 y8 y9 y10 q0 q1 q2 q3 q4 q5 q6 q7 q8 q9 q10 f0 f1 f2 f3 f4 f5 f6 f7 f8 f9 f10, ops = #[
      { dst := some 17, op := .load 30 (.tmp 4), type := y0, pos := q0, after := f0, guard := none },
      { dst := some 18, op := .load 30 (.tmp 6), type := y1, pos := q1, after := f1, guard := none },
      { dst := some 19, op := .load 30 (.tmp 3), type := y2, pos := q2, after := f2, guard := none },
      { dst := some 20, op := .call { callee := .value (.func 19), args := #[.tmp 18, .tmp 19], argTypes := #[30, 30] }, type := y3, pos := q3, after := f3, guard := none },
      { dst := some 21, op := .call { callee := .value (.func 22), args := #[.tmp 20], argTypes := #[30] }, type := y4, pos := q4, after := f4, guard := none },
      { dst := some 22, op := .call { callee := .value (.func 20), args := #[.tmp 17, .tmp 21], argTypes := #[30, 30] }, type := y5, pos := q5, after := f5, guard := none },
      { dst := some 23, op := .load 30 (.tmp 6), type := y6, pos := q6, after := f6, guard := none },
      { dst := some 24, op := .load 30 (.tmp 2), type := y7, pos := q7, after := f7, guard := none },
      { dst := some 25, op := .call { callee := .value (.func 19), args := #[.tmp 23, .tmp 24], argTypes := #[30, 30] }, type := y8, pos := q8, after := f8, guard := none },
      { dst := none, op := .store 30 (.tmp 2) (.tmp 22), type := y9, pos := q9, after := f9, guard := none },
      { dst := none, op := .store 30 (.tmp 3) (.tmp 25), type := y10, pos := q10, after := f10, guard := none }])
    (hchk : chkN stepPre ops = true) (hsz : a0.tmps.size = 28) (e2 : a0.eval (.tmp 2) = .pointer (some ⟨C, 0, none⟩)) (e3 : a0.eval (.tmp 3) = .pointer (some ⟨S, 0, none⟩)) (e4 : a0.eval (.tmp 4) = .pointer (some ⟨O, 0, none⟩)) (e6 : a0.eval (.tmp 6) = .pointer (some ⟨P, 0, none⟩))
    (hne : w0.heap.size ≤ A ∧ A < C ∧ C < S ∧ S < O ∧ O < P) (hB : Bel w0 w1) (tA : Two w1 A x y) (tC : Two w1 C cx cy) (tS : Two w1 S sx sy) (tO : Two w1 O ox oy) (tP : Two w1 P px py)
    (hm : ∀ w, Calls Try.prog 19 #[dv px py, dv sx sy] w fun r w' => r = .returned (dv mx my) ∧ Bel w w')
    (hn : ∀ w, Calls Try.prog 22 #[dv mx my] w fun r w' => r = .returned (dv nx ny) ∧ Bel w w')
    (hc : ∀ w, Calls Try.prog 20 #[dv ox oy, dv nx ny] w fun r w' => r = .returned (dv cx' cy') ∧ Bel w w')
    (hs : ∀ w, Calls Try.prog 19 #[dv px py, dv cx cy] w fun r w' => r = .returned (dv sx' sy') ∧ Bel w w')
    (hQ : ∀ f w, Bel w0 w → Two w C cx' cy' → Two w S sx' sy' → Two w O ox oy → Two w A x y → Q .normal (actOf a0 [17, 18, 19, 20, 21, 22, 23, 24, 25] f) w) : (Code.region id ops true).wp Try.prog Q a0 w1 := by
  obtain ⟨y0, y1, y2, y3, y4, y5, y6, y7, y8, y9, y10, q0, q1, q2, q3, q4, q5, q6, q7, q8, q9, q10, g0, g1, g2, g3, g4, g5, g6, g7, g8, g9, g10, rfl⟩ := hops
  obtain ⟨n0, n1, n2, n3, n4⟩ := hne
  obtain ⟨ds, hds⟩ : ∃ ds, ds = [17, 18, 19, 20, 21, 22, 23, 24, 25] := ⟨_, rfl⟩
  rw [← hds] at hQ
  have out : ∀ f t, t ∉ ds → (actOf a0 ds f).eval (.tmp t) = a0.eval (.tmp t) := fun f t h => actOf_out a0 _ f h
  have inn : ∀ f t, t ∈ ds → t < 28 → (actOf a0 ds f).eval (.tmp t) = f t := fun f t h h2 => actOf_in a0 _ f h (by rw [hsz]; exact h2)
  rw [← actOf_self a0 ds]
  have cO : (⟨O, ox, oy, 100, 0, 0⟩ : Ob) ∈ [(⟨O, ox, oy, 100, 0, 0⟩ : Ob), ⟨P, px, py, 100, 0, 0⟩, ⟨C, cx, cy, 9, cx', cy'⟩, ⟨S, sx, sy, 10, sx', sy'⟩, ⟨A, x, y, 100, 0, 0⟩] := by simp
  have cP : (⟨P, px, py, 100, 0, 0⟩ : Ob) ∈ [(⟨O, ox, oy, 100, 0, 0⟩ : Ob), ⟨P, px, py, 100, 0, 0⟩, ⟨C, cx, cy, 9, cx', cy'⟩, ⟨S, sx, sy, 10, sx', sy'⟩, ⟨A, x, y, 100, 0, 0⟩] := by simp
  have cA : (⟨A, x, y, 100, 0, 0⟩ : Ob) ∈ [(⟨O, ox, oy, 100, 0, 0⟩ : Ob), ⟨P, px, py, 100, 0, 0⟩, ⟨C, cx, cy, 9, cx', cy'⟩, ⟨S, sx, sy, 10, sx', sy'⟩, ⟨A, x, y, 100, 0, 0⟩] := by simp
  have cC : (⟨C, cx, cy, 9, cx', cy'⟩ : Ob) ∈ [(⟨O, ox, oy, 100, 0, 0⟩ : Ob), ⟨P, px, py, 100, 0, 0⟩, ⟨C, cx, cy, 9, cx', cy'⟩, ⟨S, sx, sy, 10, sx', sy'⟩, ⟨A, x, y, 100, 0, 0⟩] := by simp
  have cS : (⟨S, sx, sy, 10, sx', sy'⟩ : Ob) ∈ [(⟨O, ox, oy, 100, 0, 0⟩ : Ob), ⟨P, px, py, 100, 0, 0⟩, ⟨C, cx, cy, 9, cx', cy'⟩, ⟨S, sx, sy, 10, sx', sy'⟩, ⟨A, x, y, 100, 0, 0⟩] := by simp
  refine wp_region_ov (pre := stepPre) (w0 := w0) (actOf a0 ds) (fun t => a0.eval (.tmp t)) (by kernel_rfl) hchk [(0, 17, dv ox oy), (1, 18, dv px py), (2, 19, dv sx sy), (3, 20, dv mx my), (4, 21, dv nx ny), (5, 22, dv cx' cy'), (6, 23, dv px py), (7, 24, dv cx cy), (8, 25, dv sx' sy')]
    [⟨O, ox, oy, 100, 0, 0⟩, ⟨P, px, py, 100, 0, 0⟩, ⟨C, cx, cy, 9, cx', cy'⟩, ⟨S, sx, sy, 10, sx', sy'⟩, ⟨A, x, y, 100, 0, 0⟩]
    (by simp) (by simp) (by simp; omega) (by simp) (by simp) (by simp; omega) hB (by simp [tA, tC, tS, tO, tP]) ?_ (by simp) ?_
  · intro i hi
    have hi : i < 11 := hi
    match i, hi with
    | 0, _ => exact .value 17 (dv ox oy) (by simp) fun f w hB h ht => wpOp_go rfl rfl (step_load (d := some 17) rfl rfl ((out f 4 (by rw [hds]; decide)).trans e4) (load_num (ht _ cO (Or.inr (by simp)))) ⟨actOf_put _ _ _ (by rw [hds]; decide) _, Bel.refl _⟩)
    | 1, _ => exact .value 18 (dv px py) (by simp) fun f w hB h ht => wpOp_go rfl rfl (step_load (d := some 18) rfl rfl ((out f 6 (by rw [hds]; decide)).trans e6) (load_num (ht _ cP (Or.inr (by simp)))) ⟨actOf_put _ _ _ (by rw [hds]; decide) _, Bel.refl _⟩)
    | 2, _ => exact .value 19 (dv sx sy) (by simp) fun f w hB h ht => wpOp_go rfl rfl (step_load (d := some 19) rfl rfl ((out f 3 (by rw [hds]; decide)).trans e3) (load_num (ht _ cS (Or.inl (by simp [stepPre])))) ⟨actOf_put _ _ _ (by rw [hds]; decide) _, Bel.refl _⟩)
    | 3, _ => exact .value 20 (dv mx my) (by simp) fun f w hB h ht => wpOp_go rfl rfl (step_call2 (d := some 20) rfl rfl ((inn f 18 (by rw [hds]; decide) (by decide)).trans (h (1, 18, dv px py) (by simp) (by simp [stepPre]))) ((inn f 19 (by rw [hds]; decide) (by decide)).trans (h (2, 19, dv sx sy) (by simp) (by simp [stepPre]))) (by kernel_rfl) ((hm _).mono fun _ _ ⟨k1, k2⟩ => ⟨_, k1, actOf_put _ _ _ (by rw [hds]; decide) _, k2⟩))
    | 4, _ => exact .value 21 (dv nx ny) (by simp) fun f w hB h ht => wpOp_go rfl rfl (step_call1 (d := some 21) rfl rfl ((inn f 20 (by rw [hds]; decide) (by decide)).trans (h (3, 20, dv mx my) (by simp) (by simp [stepPre]))) (by kernel_rfl) ((hn _).mono fun _ _ ⟨k1, k2⟩ => ⟨_, k1, actOf_put _ _ _ (by rw [hds]; decide) _, k2⟩))
    | 5, _ => exact .value 22 (dv cx' cy') (by simp) fun f w hB h ht => wpOp_go rfl rfl (step_call2 (d := some 22) rfl rfl ((inn f 17 (by rw [hds]; decide) (by decide)).trans (h (0, 17, dv ox oy) (by simp) (by simp [stepPre]))) ((inn f 21 (by rw [hds]; decide) (by decide)).trans (h (4, 21, dv nx ny) (by simp) (by simp [stepPre]))) (by kernel_rfl) ((hc _).mono fun _ _ ⟨k1, k2⟩ => ⟨_, k1, actOf_put _ _ _ (by rw [hds]; decide) _, k2⟩))
    | 6, _ => exact .value 23 (dv px py) (by simp) fun f w hB h ht => wpOp_go rfl rfl (step_load (d := some 23) rfl rfl ((out f 6 (by rw [hds]; decide)).trans e6) (load_num (ht _ cP (Or.inr (by simp)))) ⟨actOf_put _ _ _ (by rw [hds]; decide) _, Bel.refl _⟩)
    | 7, _ => exact .value 24 (dv cx cy) (by simp) fun f w hB h ht => wpOp_go rfl rfl (step_load (d := some 24) rfl rfl ((out f 2 (by rw [hds]; decide)).trans e2) (load_num (ht _ cC (Or.inl (by simp [stepPre])))) ⟨actOf_put _ _ _ (by rw [hds]; decide) _, Bel.refl _⟩)
    | 8, _ => exact .value 25 (dv sx' sy') (by simp) fun f w hB h ht => wpOp_go rfl rfl (step_call2 (d := some 25) rfl rfl ((inn f 23 (by rw [hds]; decide) (by decide)).trans (h (6, 23, dv px py) (by simp) (by simp [stepPre]))) ((inn f 24 (by rw [hds]; decide) (by decide)).trans (h (7, 24, dv cx cy) (by simp) (by simp [stepPre]))) (by kernel_rfl) ((hs _).mono fun _ _ ⟨k1, k2⟩ => ⟨_, k1, actOf_put _ _ _ (by rw [hds]; decide) _, k2⟩))
    | 9, _ => exact .store _ cC rfl (by simp) fun f w K h ht hK => wpOp_go rfl rfl (step_store (d := none) rfl rfl ((out f 2 (by rw [hds]; decide)).trans e2) ((inn f 22 (by rw [hds]; decide) (by decide)).trans (h (5, 22, dv cx' cy') (by simp) (by simp [stepPre]))) ht hK)
    | 10, _ => exact .store _ cS rfl (by simp) fun f w K h ht hK => wpOp_go rfl rfl (step_store (d := none) rfl rfl ((out f 3 (by rw [hds]; decide)).trans e3) ((inn f 25 (by rw [hds]; decide) (by decide)).trans (h (8, 25, dv sx' sy') (by simp) (by simp [stepPre]))) ht hK)
  · intro f w hb hc ht
    have k1 := ht _ cC
    have k2 := ht _ cS
    have k3 := ht _ cO
    have k4 := ht _ cA
    exact hQ f w hb (by simpa using k1) (by simpa using k2) (by simpa using k3) (by simpa using k4)
end Go.Proofs.Ytpifkjmdcbieoaa

/- The landed trig's series: the walk. -/
namespace Go.Proofs.Ytpifkjmdcbieoaa
open Go.RowKit

structure W4 where
  a : Nat
  b : Nat
  c : Nat
  d : Nat
set_option maxHeartbeats 4000000 in
theorem series_d {t z : Rat} {x y : Nat} (ha : DN x y z) (hz : InU 11115000 z t) (h0 : 0 ≤ t) (h1 : t ≤ 4 / 5) (hl : 1000000000000 ≤ t * uR) :
    ∃ cx cy sx sy, SerSt t 27 cx cy sx sy ∧ ∀ w, Calls Try.prog 37 #[.agg #[.float .f64 x, .float .f64 y]] w fun r w' => r = .returned (.tuple #[.agg #[.float .f64 cx, .float .f64 cy], .agg #[.float .f64 sx, .float .f64 sy]]) ∧ Bel w w' := by
  have sf := run_store_float Try.prog
  obtain ⟨ox, oy, ho, hO⟩ := whole_d 1 (by decide)
  have z1 : ((1 : Nat) : Rat) = 1 := by exact_mod_cast rfl
  rw [z1] at ho
  have hS0 : SerSt t 0 ox oy 0 0 := ⟨1, 0, ho, ⟨0, 0, num_zero_k, num_zero_k, Or.inl ⟨rfl, rfl⟩, reR_zero⟩, by rw [nC_zero]; exact (InU.refl 1).mono (by unfold eS; grind), by rw [nS_zero]; exact (InU.refl 0).mono (by unfold eS; grind)⟩
  obtain ⟨W, hW0, hW1, hW2⟩ := chain (α := W4) (fun i a => SerSt t i a.a a.b a.c a.d) (fun i a b => ∃ kx ky px py mx my, RoundW x y ox oy i a.a a.b a.c a.d kx ky px py mx my b.a b.b b.c b.d) 27 ⟨ox, oy, 0, 0⟩ hS0 (fun i a hi hP => by
    obtain ⟨kx, ky, px, py, mx, my, cx', cy', sx', sy', k1, k2⟩ := round_d ha hz h0 h1 hl ho hi hP
    exact ⟨⟨cx', cy', sx', sy'⟩, k1, kx, ky, px, py, mx, my, k2⟩)
  refine ⟨_, _, _, _, hW1 27 (Nat.le_refl _), fun w => ?_⟩
  have hW2H := Lib.hid hW2
  have hW0H := Lib.hid hW0
  clear hW0 hW1 hW2 hS0 ho z1 ha hz h0 h1 hl
  obtain ⟨A, hA⟩ : ∃ A, A = w.heap.size := ⟨_, rfl⟩
  obtain ⟨w1, hw1⟩ : ∃ w1, w1 = ((w.alloc (Obj.cells #[.float .f64 x, .float .f64 y] 30)).alloc (Obj.cells #[.float .f64 0, .float .f64 0] 30)).alloc (Obj.cells #[.float .f64 0, .float .f64 0] 30) := ⟨_, rfl⟩
  have hB1 : Bel w w1 := by rw [hw1]; exact (((Bel.refl w).alloc _).alloc _).alloc _
  have tA : Two w1 A x y := by rw [hw1, hA]; exact ((Two.new w x y _).al _).al _
  have tC : Two w1 (A + 1) 0 0 := by rw [hw1, hA]; exact (Two.newN _ 0 0 _ _ (by simp)).al _
  have tS : Two w1 (A + 1 + 1) 0 0 := by rw [hw1, hA]; exact Two.newN _ 0 0 _ _ (by simp)
  have hAw := Lib.hid (show w.heap.size ≤ A by omega)
  go_enter Try.func37, Try.ntmps37
  go_wp2_with fail
  rw [← hw1, ← hA]
  have hs1 : w1.heap.size = A + 3 := by rw [hw1, hA]; simp
  have hs1H := Lib.hid hs1
  clear hw1 hA hs1
  refine (hO _).mono ?_; rintro r w2 ⟨rfl, hB2⟩
  obtain ⟨O, hOs⟩ : ∃ O, O = w2.heap.size := ⟨_, rfl⟩
  obtain ⟨w3, hw3⟩ : ∃ w3, w3 = w2.alloc (Obj.cells #[.float .f64 ox, .float .f64 oy] 30) := ⟨_, rfl⟩
  have tO3 : Two w3 O ox oy := by rw [hw3]; exact Two.newN w2 ox oy _ _ hOs
  have tA3 : Two w3 A x y := by rw [hw3]; exact (tA.by hB2).al _
  have tC3 : Two w3 (A + 1) 0 0 := by rw [hw3]; exact (tC.by hB2).al _
  have tS3 : Two w3 (A + 1 + 1) 0 0 := by rw [hw3]; exact (tS.by hB2).al _
  have hB3 : Bel w w3 := by rw [hw3]; exact (hB1.trans hB2).alloc _
  have hAO : A + 1 + 1 < O := by have := hB2.size; have := hs1H.out; omega
  have hAOH := Lib.hid hAO
  have hOsH := Lib.hid hOs
  have hw3H := Lib.hid hw3
  have o0 := tO3.c0
  have o1 := tO3.c1
  obtain ⟨m1, m2⟩ := tC3.mid ox
  obtain ⟨d0, d1, _, _⟩ := tC3.set ox oy
  obtain ⟨c0, c1, f0, f1⟩ := tC3
  clear tC tS tA hB1 hB2
  rw [hw3] at o0 o1 m1 m2 d0 d1 c0 c1 f0 f1
  rw [hOs] at o0 o1
  clear hOs hw3 hAO
  go_wp2_with fail
  obtain ⟨w4, hw4⟩ : ∃ w4, w4 = (w3.setCell ⟨A + 1, 0, none⟩ (.float .f64 ox)).setCell ⟨A + 1, 1, none⟩ (.float .f64 oy) := ⟨_, rfl⟩
  have tC4 : Two w4 (A + 1) ox oy := by rw [hw4]; exact (Two.mk (by rw [hw3H.out]; exact c0) (by rw [hw3H.out]; exact c1) (by rw [hw3H.out]; exact f0) (by rw [hw3H.out]; exact f1) : Two w3 (A + 1) 0 0).set ox oy
  have tO4 : Two w4 O ox oy := by rw [hw4]; exact tO3.so (by have := hAOH.out; omega) _ _
  have tA4 : Two w4 A x y := by rw [hw4]; exact tA3.so (by omega) _ _
  have tS4 : Two w4 (A + 1 + 1) 0 0 := by rw [hw4]; exact tS3.so (by omega) _ _
  have hB4 : Bel w w4 := by rw [hw4]; exact (hB3.setCell (p := ⟨A + 1, 0, none⟩) (by have := hAw.out; show w.heap.size ≤ A + 1; omega) _).setCell (p := ⟨A + 1, 1, none⟩) (by have := hAw.out; show w.heap.size ≤ A + 1; omega) _
  have hw4H := Lib.hid hw4
  rw [hw3H.out] at hw4
  rw [← hw4, ← hOsH.out]
  clear hw4 o0 o1 m1 m2 d0 d1 c0 c1 f0 f1 tO3 tA3 tS3 hB3
  go_loopw [5, 6] (fun v5 v6 wr => ∃ i : Nat, i ≤ 27 ∧ v5 = .int .i64 ((27 - i : Nat) : Int) ∧ Two wr A x y ∧ Two wr (A + 1) (W i).a (W i).b ∧ Two wr (A + 1 + 1) (W i).c (W i).d ∧ Two wr O ox oy ∧ Bel w wr) (fun v5 _ _ => (intOf v5).toNat)
  case atStart => exact ⟨0, by omega, by simp, tA4, by rw [hW0H.out]; exact tC4, by rw [hW0H.out]; exact tS4, tO4, hB4⟩
  case round =>
    obtain ⟨i, hi, rfl, tA, tC, tS, tO, hB⟩ := hrel
    obtain ⟨k, hk⟩ : ∃ k : Int, k = ((27 - i : Nat) : Int) := ⟨_, rfl⟩
    by_cases hlt : i < 27
    · obtain ⟨kx, ky, px, py, mx, my, hR⟩ := hW2H.out i hlt
      have hRH := Lib.hid hR
      have hk0 : 0 < k := by omega
      have hk27 : k ≤ 27 := by omega
      have dk : decide ((0 : Int) < k) = true := decide_eq_true hk0
      have hkH := Lib.hid hk
      rw [← hk]
      clear hk hR
      go_upto_region 6 with fail
      refine part_reg _ A x y kx ky px py k ⟨_, _, _, _, _, _, _, _, _, _, _, _, _, _, _, _, _, _, rfl⟩ (by decide +kernel) rfl rfl rfl tA (by rw [hkH.out]; exact hRH.out.hk) hRH.out.hp ?_
      intro f wx X hBx fX hX tX
      have tA1 := tA.by hBx
      have tC1 := tC.by hBx
      have tS1 := tS.by hBx
      have tO1 := tO.by hBx
      have hB1 := hB.trans hBx
      have hOX : O < X := Nat.lt_of_lt_of_le tO.lt hX
      have hn := fun w => neg_any mx my w
      have hord : w.heap.size ≤ A ∧ A < A + 1 ∧ A + 1 < A + 1 + 1 ∧ A + 1 + 1 < O ∧ O < X := by
        have h1 := hAw.out
        have h2 := hAOH.out
        exact ⟨by omega, by omega, by omega, h2, hOX⟩
      have hordH := Lib.hid hord
      clear tA tC tS tO hB hBx hX hOX hord
      unfold actOf
      simp only [List.mapIdx_toArray, List.mapIdx_cons, List.mapIdx_nil, List.mem_cons, List.mem_nil_iff, Nat.reduceEqDiff, Nat.reduceAdd, or_false, or_true, if_true, if_false, fX]
      go_upto_region 7 with fail
      refine step_reg (w0 := w) _ A (A + 1) (A + 1 + 1) O X x y ox oy px py (W i).a (W i).b (W i).c (W i).d mx my _ _ (W (i + 1)).a (W (i + 1)).b (W (i + 1)).c (W (i + 1)).d ⟨_, _, _, _, _, _, _, _, _, _, _, _, _, _, _, _, _, _, _, _, _, _, _, _, _, _, _, _, _, _, _, _, _, rfl⟩ (by decide +kernel) rfl rfl rfl rfl rfl hordH.out hB1 tA1 tC1 tS1 tO1 tX hRH.out.hm hn hRH.out.hc hRH.out.hs ?_
      intro f2 wy hBy tCy tSy tOy tAy
      have hmH := Lib.hid (And.intro hk0 (And.intro hk27 hlt))
      clear tA1 tC1 tS1 tO1 tX hB1 hn hk0 hk27 hlt
      unfold actOf
      simp only [List.mapIdx_toArray, List.mapIdx_cons, List.mapIdx_nil, List.mem_cons, List.mem_nil_iff, Nat.reduceEqDiff, Nat.reduceAdd, or_false, or_true, if_true, if_false]
      have wk : IntKind.i64.wrap (k - 1) = k - 1 := by
        have h := hmH.out
        rw [IntKind.wrap_i64]; omega
      go_wp2
      go_roundw
      case rel =>
        have h := hmH.out
        have h2 := hkH.out
        exact ⟨i + 1, by omega, by congr 1; omega, tAy, tCy, tSy, tOy, hBy⟩
      case measure =>
        have h := hmH.out
        simp [intOf]; omega
    · have hi27 : i = 27 := by omega
      subst hi27
      have hk0 : k = 0 := by rw [hk]; rfl
      rw [← hk, hk0]
      have dk : decide ((0 : Int) < 0) = false := by decide
      have hord : w.heap.size ≤ A + 1 ∧ A + 1 ≠ A + 1 + 1 := by
        have h1 := hAw.out
        exact ⟨by omega, by omega⟩
      have hordH := Lib.hid hord
      clear hk hlt hi hord hk0
      go_upto_region 8 with fail
      refine ret_two (w0 := w) _ 2 3 26 27 (A + 1) (A + 1 + 1) (W 27).a (W 27).b (W 27).c (W 27).d ⟨_, _, _, _, _, _, _, _, _, _, _, _, rfl⟩ (by decide +kernel) (Nat.le_of_ble_eq_true rfl) (Nat.le_of_ble_eq_true rfl) (by decide) rfl rfl hordH.out.2 hordH.out.1 (Nat.le_succ_of_le hordH.out.1) hB tC tS ?_
      intro f wy hBy tCy tSy
      obtain ⟨c0, c1, _, _⟩ := tCy
      obtain ⟨s0, s1, _, _⟩ := tSy
      clear tA tC tS tO hB
      unfold actOf
      simp only [List.mapIdx_toArray, List.mapIdx_cons, List.mapIdx_nil, List.mem_cons, List.mem_nil_iff, Nat.reduceEqDiff, Nat.reduceAdd, or_false, or_true, if_true, if_false]
      go_wp2
      refine bodyPost_ret (by simp [results, go_sem, c0, c1, s0, s1]; try rfl) rfl ?_
      exact ⟨rfl, hBy⟩
end Go.Proofs.Ytpifkjmdcbieoaa

/- The angle from the nearest axis, as the landed trig has it: errors. -/
namespace Go.Proofs.Ytpifkjmdcbieoaa
open Go.RowKit

def angT (r n : Int) : Rat := eighthR * ((r : Rat) / (n : Rat))
theorem InU.flatK {e a b k : Rat} (h : InU e a b) (he : e ≤ 2000000000 * k) : Wi (a - b) (k * (1 / 1000)) := by
  have p := uR_pos
  have q := uR_big2
  have h1 := h.lo
  have h2 := h.hi
  have k0 : 0 ≤ k := by grind
  generalize uR = u at *
  have m := Rat.mul_nonneg (a := u - 2000000000000) (b := k) (by grind) k0
  have k1 := nonneg_of p (d := k * (1 / 1000) - (a - b)) (by grind)
  have k2 := nonneg_of p (d := k * (1 / 1000) + (a - b)) (by grind)
  exact ⟨by grind, by grind⟩
theorem angT_range {r n : Int} (hn : 0 < n) (h0 : 0 ≤ r) (h1 : r ≤ n) : 0 ≤ angT r n ∧ angT r n ≤ 4 / 5 := by
  obtain ⟨a, b⟩ := frac_range hn h0 h1
  obtain ⟨c, d⟩ := eighth_le
  unfold angT
  have m1 := Rat.mul_nonneg (a := eighthR) (b := (r : Rat) / (n : Rat)) d a
  have m2 := Rat.mul_nonneg (a := eighthR) (b := 1 - (r : Rat) / (n : Rat)) d (by grind)
  constructor <;> grind
theorem angT_low {r n : Int} (hn : 0 < n) (h0 : 1 ≤ r) (h2 : n ≤ 1099511627776) : 1000000000000 ≤ angT r n * uR := by
  have hx := xR_mul eighthN
  have u2 : (one120 : Rat) = uR := rfl
  rw [u2] at hx
  have e1 : eighthR * uR = (eighthN : Rat) := hx
  have q : (1099511627776000000000000 : Rat) ≤ (eighthN : Rat) := by
    have h : 1099511627776000000000000 ≤ eighthN := by decide
    have q : ((1099511627776000000000000 : Nat) : Rat) ≤ ((eighthN : Nat) : Rat) := by exact_mod_cast h
    exact q
  have np := intR_pos hn
  have r1 : (1 : Rat) ≤ (r : Rat) := by exact_mod_cast h0
  have n2 : (n : Rat) ≤ 1099511627776 := Rat.intCast_le_intCast.2 h2
  have e2 : (r : Rat) / (n : Rat) * (n : Rat) = (r : Rat) := by grind
  unfold angT
  generalize (r : Rat) / (n : Rat) = f at *
  generalize (eighthN : Rat) = E at *
  have f0 := nonneg_of np (d := f) (by grind)
  have m := Rat.mul_nonneg (a := 1099511627776 - (n : Rat)) (b := f) (by grind) f0
  have f1 : 1 ≤ 1099511627776 * f := by grind
  have m2 := Rat.mul_nonneg (a := E - 1099511627776000000000000) (b := f) (by grind) f0
  have e3 : eighthR * f * uR = E * f := by rw [← e1]; grind
  rw [e3]; grind
theorem nat_int (a : Nat) : (((a : Nat) : Int) : Rat) = (a : Rat) := rfl
set_option maxHeartbeats 1000000 in
/-- the angle in words -/
theorem angle_d {r n : Nat} (h0 : 1 ≤ r) (h1 : r ≤ n) (h2 : n ≤ 1099511627776) :
    ∃ ex ey rx ry mx my nx ny zx zy z, (∀ w, Calls Try.prog 38 #[] w fun q w' => q = .returned (dv ex ey) ∧ Bel w w') ∧ (∀ w, Calls Try.prog 36 #[.int .i64 (r : Int)] w fun q w' => q = .returned (dv rx ry) ∧ Bel w w') ∧
      (∀ w, Calls Try.prog 19 #[dv ex ey, dv rx ry] w fun q w' => q = .returned (dv mx my) ∧ Bel w w') ∧ (∀ w, Calls Try.prog 36 #[.int .i64 (n : Int)] w fun q w' => q = .returned (dv nx ny) ∧ Bel w w') ∧
      (∀ w, Calls Try.prog 39 #[dv mx my, dv nx ny] w fun q w' => q = .returned (dv zx zy) ∧ Bel w w') ∧ DN zx zy z ∧ InU 11115000 z (angT r n) := by
  obtain ⟨ex, ey, de, hE⟩ := eighth_d
  obtain ⟨rx, ry, dr, hR⟩ := whole_d r (Nat.le_trans (Nat.le_trans h1 h2) (by decide))
  obtain ⟨nx, ny, dn, hN⟩ := whole_d n (Nat.le_trans h2 (by decide))
  obtain ⟨s1, s2⟩ := eighth_size
  have en := eighth_near
  generalize (xE : Rat) / (c107 : Rat) = e at *
  have r1 : (1 : Rat) ≤ (r : Rat) := by exact_mod_cast h0
  have rn : (r : Rat) ≤ (n : Rat) := by exact_mod_cast h1
  have n2 : (n : Rat) ≤ 1099511627776 := by exact_mod_cast h2
  have we : Wi e (4 / 5) := ⟨by grind, by grind⟩
  have wr : Wi (r : Rat) (r : Rat) := ⟨by grind, by grind⟩
  have c9 : (1099511627776 : Rat) ≤ (c90 : Rat) := by exact_mod_cast (show 1099511627776 ≤ c90 by decide)
  obtain ⟨mx, my, m, nm, em, lm, hM⟩ := mul_d de dr we wr (by grind)
  have em1 := em _ _ we wr
  obtain ⟨f1, f2⟩ := em1.flatK (k := (r : Rat)) (by grind)
  have mr := Rat.mul_nonneg (a := e - 3 / 4) (b := (r : Rat)) (by grind) (by grind)
  have mr2 := Rat.mul_nonneg (a := 4 / 5 - e) (b := (r : Rat)) (by grind) (by grind)
  have dm := lm (low_small (by grind))
  obtain ⟨zx, zy, z, nz, ez, lz, hZ⟩ := quo_d (A := 1) dm dn (by grind) ⟨by grind, by grind⟩ (by grind)
  have hn0 : 0 < (n : Int) := by omega
  have eT : InU 917000 (m / (n : Rat)) (angT r n) := by
    have np : (0 : Rat) < (n : Rat) := by grind
    have ea : angT r n * (n : Rat) = eighthR * (r : Rat) := by unfold angT; rw [nat_int, nat_int]; grind
    have em2 : m / (n : Rat) * (n : Rat) = m := by grind
    have a1 := em1.lo
    have a2 := em1.hi
    have b1 := en.lo
    have b2 := en.hi
    have ea2 : angT r n * (n : Rat) * uR = eighthR * (r : Rat) * uR := by rw [ea]
    generalize m / (n : Rat) = q at *
    generalize angT r n = T at *
    generalize (n : Rat) = N at *
    generalize (r : Rat) = R at *
    rw [← em2] at a1 a2
    have c1 := Rat.mul_nonneg (a := (e - eighthR) * uR + 5000) (b := R) (by grind) (by grind)
    have c2 := Rat.mul_nonneg (a := 5000 - (e - eighthR) * uR) (b := R) (by grind) (by grind)
    have k1 := nonneg_of np (d := 917000 - (q - T) * uR) (by grind)
    have k2 := nonneg_of np (d := 917000 + (q - T) * uR) (by grind)
    exact ⟨by grind, by grind⟩
  have eZ := (ez.trans eT).mono (show (9970000 * 1 + 917000 : Rat) ≤ 11115000 by grind)
  have hl := angT_low (r := (r : Int)) hn0 (by omega) (by omega)
  exact ⟨ex, ey, rx, ry, mx, my, nx, ny, zx, zy, z, hE, hR, hM, hN, hZ, lz (low_of eZ (by grind)), eZ⟩
end Go.Proofs.Ytpifkjmdcbieoaa

/- The landed trig's fromAxis: the walk. -/
namespace Go.Proofs.Ytpifkjmdcbieoaa
open Go.RowKit

def eA : Rat := 300000000
structure AxisSt (r n : Int) (cx cy sx sy : Nat) : Prop where
  ex : ∃ c s, DN cx cy c ∧ DN sx sy s ∧ InU eA c (cosR (angT r n)) ∧ InU eA s (sinR (angT r n))
  end_ : r = n → sx = cx ∧ sy = cy
theorem axis_zero {n : Int} (hn : 0 < n) : ∃ ox oy, (∃ s : Nat × Nat, DN ox oy 1 ∧ s = (ox, oy)) ∧ AxisSt 0 n ox oy 0 0 ∧ ∀ w, Calls Try.prog 23 #[.int .i64 0, .int .i64 n] w fun q w' => q = .returned (.tuple #[dv ox oy, dv 0 0]) ∧ Bel w w' := by
  have sf := run_store_float Try.prog
  obtain ⟨ox, oy, ho, hO⟩ := whole_d 1 (by decide)
  have z1 : ((1 : Nat) : Rat) = 1 := by exact_mod_cast rfl
  rw [z1] at ho
  have a0 : angT 0 n = 0 := by
    unfold angT
    have z : ((0 : Int) : Rat) = 0 := by exact_mod_cast rfl
    rw [z]; grind
  refine ⟨ox, oy, ⟨_, ho, rfl⟩, ⟨⟨1, 0, ho, ⟨0, 0, num_zero_k, num_zero_k, Or.inl ⟨rfl, rfl⟩, reR_zero⟩, ?_, ?_⟩, fun h => absurd h (by omega)⟩, fun w => ?_⟩
  · rw [a0, cos_zero]; exact (InU.refl 1).mono (by unfold eA; grind)
  · rw [a0, sin_zero]; exact (InU.refl 0).mono (by unfold eA; grind)
  clear ho a0 hn z1
  obtain ⟨A, hA⟩ : ∃ A, A = w.heap.size := ⟨_, rfl⟩
  obtain ⟨w1, hw1⟩ : ∃ w1, w1 = (w.alloc (Obj.cells #[.float .f64 0, .float .f64 0] 30)).alloc (Obj.cells #[.float .f64 0, .float .f64 0] 30) := ⟨_, rfl⟩
  have hB1 : Bel w w1 := by rw [hw1]; exact ((Bel.refl w).alloc _).alloc _
  have tC : Two w1 A 0 0 := by rw [hw1, hA]; exact (Two.newN _ 0 0 _ _ rfl).al _
  have tS : Two w1 (A + 1) 0 0 := by rw [hw1, hA]; exact Two.newN _ 0 0 _ _ (by simp)
  have hAw := Lib.hid (show w.heap.size ≤ A by omega)
  have d0 : ((0 : Int) == 0) = true := rfl
  go_enter Try.func23, Try.ntmps23
  go_wp2_with fail
  rw [← hw1, ← hA]
  clear hw1 hA
  refine (hO _).mono ?_; rintro r w2 ⟨rfl, hB2⟩
  have tC2 := tC.by hB2
  have tS2 := tS.by hB2
  obtain ⟨m1, m2⟩ := tC2.mid ox
  have tC3 := tC2.set ox oy
  have tS3 := tS2.so (X := A) (by omega) (.float .f64 ox) (.float .f64 oy)
  have hB3 := ((hB1.trans hB2).setCell (p := ⟨A, 0, none⟩) hAw.out (.float .f64 ox)).setCell (p := ⟨A, 1, none⟩) hAw.out (.float .f64 oy)
  obtain ⟨c0, c1, f0, f1⟩ := tC2
  obtain ⟨m3, m4⟩ := tS3.mid 0
  have tS4 := tS3.set 0 0
  have tC4 := tC3.so (X := A + 1) (by omega) (.float .f64 0) (.float .f64 0)
  have hB4 := (hB3.setCell (p := ⟨A + 1, 0, none⟩) (Nat.le_succ_of_le hAw.out) (.float .f64 0)).setCell (p := ⟨A + 1, 1, none⟩) (Nat.le_succ_of_le hAw.out) (.float .f64 0)
  obtain ⟨s0, s1, z0, z1⟩ := tS3
  obtain ⟨e0, e1, _, _⟩ := tC4
  obtain ⟨e2, e3, _, _⟩ := tS4
  clear tC tS hB1 hB2 tS2 tC3 hB3
  go_wp2
  refine bodyPost_ret (by simp [results, go_sem, e0, e1, e2, e3]; try rfl) rfl ?_
  exact ⟨rfl, hB4⟩
end Go.Proofs.Ytpifkjmdcbieoaa

/- The landed trig's fromAxis, off the axes: the walk. -/
namespace Go.Proofs.Ytpifkjmdcbieoaa
open Go.RowKit

theorem eighth_same : InU 200 (cosR eighthR) (sinR eighthR) := by
  obtain ⟨a1, a2⟩ := cosE
  obtain ⟨b1, b2⟩ := sinE
  constructor <;> grind
set_option maxHeartbeats 4000000 in
theorem axis_pos {r n : Nat} (h0 : 1 ≤ r) (h1 : r ≤ n) (h2 : n ≤ 1099511627776) : ∃ cx cy sx sy, AxisSt r n cx cy sx sy ∧ ∀ w, Calls Try.prog 23 #[.int .i64 (r : Int), .int .i64 (n : Int)] w fun q w' => q = .returned (.tuple #[dv cx cy, dv sx sy]) ∧ Bel w w' := by
  have sf := run_store_float Try.prog
  have hn0 : 0 < (n : Int) := by omega
  obtain ⟨t0, t1⟩ := angT_range (r := (r : Int)) (n := (n : Int)) hn0 (by omega) (by omega)
  have hl := angT_low (r := (r : Int)) hn0 (by omega) (by omega)
  obtain ⟨ex, ey, rx, ry, mx, my, nx, ny, zx, zy, z, hE, hR, hM, hN, hZ, dz, ez⟩ := angle_d h0 h1 h2
  obtain ⟨cx, cy, sx, sy, hS, hW⟩ := series_d dz ez t0 t1 hl
  obtain ⟨c, s, dc, ds, ec, es⟩ := hS.ex
  obtain ⟨n1, n2⟩ := nst_near (t := angT r n) (by grind) (by grind)
  have ec2 := ec.trans n1
  have es2 := es.trans n2
  -- what the walk wants
  have walk : ∀ tx ty : Nat, ((r : Int) = (n : Int) → tx = cx ∧ ty = cy) → ((r : Int) ≠ (n : Int) → tx = sx ∧ ty = sy) → ∀ w, Calls Try.prog 23 #[.int .i64 (r : Int), .int .i64 (n : Int)] w fun q w' => q = .returned (.tuple #[dv cx cy, dv tx ty]) ∧ Bel w w' := by
    intro tx ty ht1 ht2 w
    obtain ⟨ρ, hρ⟩ : ∃ ρ : Int, ρ = (r : Int) := ⟨_, rfl⟩
    obtain ⟨ν, hν⟩ : ∃ ν : Int, ν = (n : Int) := ⟨_, rfl⟩
    have d0 : (ρ == 0) = false := by
      have : ¬ ρ = 0 := by omega
      simpa using this
    rw [← hρ] at hR
    rw [← hν] at hN
    rw [← hρ, ← hν] at ht1 ht2 ⊢
    have hp := Lib.hid (show 1 ≤ ρ ∧ ρ ≤ ν ∧ ν ≤ 1099511627776 by omega)
    clear hS ec es ec2 es2 n1 n2 dc ds dz ez t0 t1 hl hn0 h0 h1 h2 hρ hν
    obtain ⟨A, hA⟩ : ∃ A, A = w.heap.size := ⟨_, rfl⟩
    obtain ⟨w1, hw1⟩ : ∃ w1, w1 = (w.alloc (Obj.cells #[.float .f64 0, .float .f64 0] 30)).alloc (Obj.cells #[.float .f64 0, .float .f64 0] 30) := ⟨_, rfl⟩
    have hB1 : Bel w w1 := by rw [hw1]; exact ((Bel.refl w).alloc _).alloc _
    have tC : Two w1 A 0 0 := by rw [hw1, hA]; exact (Two.newN _ 0 0 _ _ rfl).al _
    have tS : Two w1 (A + 1) 0 0 := by rw [hw1, hA]; exact Two.newN _ 0 0 _ _ (by simp)
    have hAw := Lib.hid (show w.heap.size ≤ A by omega)
    go_enter Try.func23, Try.ntmps23
    go_wp2_with fail
    rw [← hw1, ← hA]
    clear hw1 hA
    refine (hE _).mono ?_; rintro q w2 ⟨rfl, hB2⟩
    go_wp2_with fail
    refine (hR _).mono ?_; rintro q w3 ⟨rfl, hB3⟩
    go_wp2_with fail
    refine (hM _).mono ?_; rintro q w4 ⟨rfl, hB4⟩
    go_wp2_with fail
    refine (hN _).mono ?_; rintro q w5 ⟨rfl, hB5⟩
    go_wp2_with fail
    refine (hZ _).mono ?_; rintro q w6 ⟨rfl, hB6⟩
    go_wp2_with fail
    refine (hW _).mono ?_; rintro q w7 ⟨rfl, hB7⟩
    have hB := hB2.trans (hB3.trans (hB4.trans (hB5.trans (hB6.trans hB7))))
    have tC2 := tC.by hB
    have tS2 := tS.by hB
    obtain ⟨m1, m2⟩ := tC2.mid cx
    have tC3 := tC2.set cx cy
    have tS3 := tS2.so (X := A) (by omega) (.float .f64 cx) (.float .f64 cy)
    have hB3' := ((hB1.trans hB).setCell (p := ⟨A, 0, none⟩) hAw.out (.float .f64 cx)).setCell (p := ⟨A, 1, none⟩) hAw.out (.float .f64 cy)
    obtain ⟨c0, c1, f0, f1⟩ := tC2
    obtain ⟨m3, m4⟩ := tS3.mid sx
    have tS4 := tS3.set sx sy
    have tC4 := tC3.so (X := A + 1) (by omega) (.float .f64 sx) (.float .f64 sy)
    have hB4' := (hB3'.setCell (p := ⟨A + 1, 0, none⟩) (Nat.le_succ_of_le hAw.out) (.float .f64 sx)).setCell (p := ⟨A + 1, 1, none⟩) (Nat.le_succ_of_le hAw.out) (.float .f64 sy)
    obtain ⟨s0, s1, z0, z1⟩ := tS3
    have hord := Lib.hid (show w.heap.size ≤ A ∧ w.heap.size ≤ A + 1 ∧ A ≠ A + 1 from ⟨hAw.out, Nat.le_succ_of_le hAw.out, by omega⟩)
    clear tC tS hB1 hB2 hB3 hB4 hB5 hB6 hB7 hB hB3' tC3 tS2 hE hR hM hN hZ hW
    by_cases heq : ρ = ν
    · obtain ⟨rfl, rfl⟩ := ht1 heq
      have dE : (ρ == ν) = true := by simpa using heq
      obtain ⟨m7, m8⟩ := tC4.mid tx
      have tC5 := tC4.set tx ty
      have tS5 := tS4.so (X := A) (by omega) (.float .f64 tx) (.float .f64 ty)
      have hB5' := (hB4'.setCell (p := ⟨A, 0, none⟩) hord.out.1 (.float .f64 tx)).setCell (p := ⟨A, 1, none⟩) hord.out.1 (.float .f64 ty)
      obtain ⟨v0, v1, v2, v3⟩ := tC4
      obtain ⟨m5, m6⟩ := tS5.mid tx
      have tS6 := tS5.set tx ty
      have tC6 := tC5.so (X := A + 1) (by omega) (.float .f64 tx) (.float .f64 ty)
      have hB6' := (hB5'.setCell (p := ⟨A + 1, 0, none⟩) hord.out.2.1 (.float .f64 tx)).setCell (p := ⟨A + 1, 1, none⟩) hord.out.2.1 (.float .f64 ty)
      obtain ⟨u0, u1, u2, u3⟩ := tS5
      obtain ⟨e0, e1, _, _⟩ := tC6
      obtain ⟨e2, e3, _, _⟩ := tS6
      have heqH := Lib.hid heq
      have hq := Lib.hid hB6'
      clear tC5 tS4 hB5' hB4' hB6' heq ht1 ht2
      go_wp2
      refine bodyPost_ret (by simp [results, go_sem, e0, e1, e2, e3]; try rfl) rfl ?_
      exact ⟨rfl, hq.out⟩
    · obtain ⟨rfl, rfl⟩ := ht2 heq
      have dE : (ρ == ν) = false := by simpa using heq
      have heqH := Lib.hid heq
      have hq := Lib.hid (And.intro hB4' (And.intro tC4 tS4))
      have k0 := tC4.c0
      have k1 := tC4.c1
      have k2 := tS4.c0
      have k3 := tS4.c1
      clear hB4' tC4 tS4 heq ht1 ht2
      go_upto_region 6 with fail
      refine ret_two (w0 := w) _ 4 5 26 27 A (A + 1) cx cy tx ty ⟨_, _, _, _, _, _, _, _, _, _, _, _, rfl⟩ (by decide +kernel) (Nat.le_of_ble_eq_true rfl) (Nat.le_of_ble_eq_true rfl) (by decide) rfl rfl hord.out.2.2 hord.out.1 hord.out.2.1 hq.out.1 hq.out.2.1 hq.out.2.2 ?_
      intro f wy hBy tCy tSy
      obtain ⟨e0, e1, _, _⟩ := tCy
      obtain ⟨e2, e3, _, _⟩ := tSy
      clear hq k0 k1 k2 k3 s0 s1 z0 z1 c0 c1 f0 f1 m1 m2 m3 m4
      unfold actOf
      simp only [List.mapIdx_toArray, List.mapIdx_cons, List.mapIdx_nil, List.mem_cons, List.mem_nil_iff, Nat.reduceEqDiff, Nat.reduceAdd, or_false, or_true, if_true, if_false]
      go_wp2
      refine bodyPost_ret (by simp [results, go_sem, e0, e1, e2, e3]; try rfl) rfl ?_
      exact ⟨rfl, hBy⟩
  have eS1 : eS + 20000016 + 200 ≤ eA := by unfold eS eA; grind
  by_cases heq : (r : Int) = (n : Int)
  · refine ⟨cx, cy, cx, cy, ⟨⟨c, c, dc, dc, ec2.mono (by grind), ?_⟩, fun _ => ⟨rfl, rfl⟩⟩, walk cx cy (fun _ => ⟨rfl, rfl⟩) (fun h => absurd heq h)⟩
    have e : angT r n = eighthR := by
      unfold angT
      rw [heq]
      have np := intR_pos hn0
      grind
    rw [e] at ec2 ⊢
    exact (ec2.trans eighth_same).mono (by grind)
  · exact ⟨cx, cy, sx, sy, ⟨⟨c, s, dc, ds, ec2.mono (by grind), es2.mono (by grind)⟩, fun h => absurd h heq⟩, walk sx sy (fun h => absurd h heq) (fun _ => ⟨rfl, rfl⟩)⟩
end Go.Proofs.Ytpifkjmdcbieoaa

/- The landed trig's opposite; the turns by quarters in words. -/
namespace Go.Proofs.Ytpifkjmdcbieoaa
open Go.RowKit

noncomputable def oppA (x : Nat) : Nat := if Flt.vI x = 0 then 0 else Op.negFloat .f64 x
noncomputable def oppB (x y : Nat) : Nat := if Flt.vI x = 0 then 0 else Op.negFloat .f64 y
theorem dn_zero : DN 0 0 0 := ⟨0, 0, num_zero_k, num_zero_k, Or.inl ⟨rfl, rfl⟩, reR_zero⟩
theorem opp_dn {x y : Nat} {r : Rat} (h : DN x y r) : DN (oppA x) (oppB x y) (-r) := by
  unfold oppA oppB
  by_cases c : Flt.vI x = 0
  · rw [if_pos c, if_pos c]
    obtain ⟨H, L, n1, n2, t, v⟩ := h.ex
    have h0 : H = 0 := n1.val.symm.trans c
    have hL := tame_zero t h0
    rw [h0, hL, Int.add_zero, reR_zero] at v
    have e : -r = 0 := by grind
    rw [e]
    exact dn_zero
  · rw [if_neg c, if_neg c]
    exact h.neg
theorem opp_any {x y : Nat} {r : Rat} (h : DN x y r) (w : World) : Calls Try.prog 24 #[dv x y] w fun q w' => q = .returned (dv (oppA x) (oppB x y)) ∧ Bel w w' := by
  have sf := run_store_float Try.prog
  obtain ⟨H, L, n1, n2, t, v⟩ := h.ex
  have ho := Flt.order_num n1 num_zero_k
  have hN := fun w => neg_any x y w
  unfold oppA oppB
  by_cases c : Flt.vI x = 0
  · rw [if_pos c, if_pos c]
    have h0 : H = 0 := n1.val.symm.trans c
    rw [h0] at ho
    have o1 : FloatKind.f64.format.order x 0 = some .eq := ho
    clear ho h0 n1 n2 t v c hN h
    go_enter Try.func24, Try.ntmps24
    go_wp2
    refine bodyPost_ret (by simp [results, go_sem]; try rfl) rfl ?_
    exact ⟨rfl, ((Bel.refl _).alloc _).alloc _⟩
  · rw [if_neg c, if_neg c]
    have h0 : H ≠ 0 := fun e => c (n1.val.trans e)
    have tz : ∀ z : World, Two ((z.alloc (Obj.cells #[.float .f64 x, .float .f64 y] 30)).alloc (Obj.cells #[.float .f64 0, .float .f64 0] 30)) (z.heap.size + 1) 0 0 := fun z => Two.newN _ 0 0 _ _ (by simp)
    have walk : ∀ o : Ordering, o ≠ .eq → FloatKind.f64.format.order x 0 = some o → Calls Try.prog 24 #[dv x y] w fun q w' => q = .returned (dv (Op.negFloat .f64 x) (Op.negFloat .f64 y)) ∧ Bel w w' := by
      intro o hne o1
      have o2 : (some o == some Ordering.eq) = false := by simpa using hne
      clear ho h0 n1 n2 t v c h hne
      have tR := tz w
      have hB0 := ((Bel.refl w).alloc (Obj.cells #[.float .f64 x, .float .f64 y] 30)).alloc (Obj.cells #[.float .f64 0, .float .f64 0] 30)
      go_enter Try.func24, Try.ntmps24
      go_wp2_with fail
      refine (hN _).mono ?_; rintro q w1 ⟨rfl, hB⟩
      have tR1 := tR.by hB
      have hBw := hB0.trans hB
      obtain ⟨R, hR⟩ : ∃ R, R = w.heap.size + 1 := ⟨_, rfl⟩
      have hRw : w.heap.size ≤ R := by omega
      rw [← hR] at tR1 ⊢
      obtain ⟨m1, m2⟩ := tR1.mid (Op.negFloat .f64 x)
      obtain ⟨d0, d1, _, _⟩ := tR1.set (Op.negFloat .f64 x) (Op.negFloat .f64 y)
      obtain ⟨c0, c1, f0, f1⟩ := tR1
      clear tR tz hB0 hB hN hR
      go_wp2
      refine bodyPost_ret (by simp [results, go_sem, d0, d1]; try rfl) rfl ?_
      exact ⟨rfl, (hBw.setCell hRw _).setCell hRw _⟩
    rcases hc : compare H 0 with _ | _ | _
    · exact walk .lt (by decide) (hc ▸ ho)
    · exact absurd (Int.compare_eq_eq.1 hc) h0
    · exact walk .gt (by decide) (hc ▸ ho)
end Go.Proofs.Ytpifkjmdcbieoaa

/- The landed Octant (layer 5): the walk. -/
namespace Go.Proofs.Ytpifkjmdcbieoaa
open Go.RowKit

theorem loct_bad (k n : Int) (w : World) (h : ¬ (1 ≤ n ∧ n ≤ 1099511627776)) :
    Calls Try.prog 10 #[.int .i64 k, .int .i64 n] w fun r w' => r = .returned (.tuple #[.int .i64 (-1), .int .i64 0]) ∧ w = w' := by
  by_cases c : n < 1
  · have d1 : decide (n < 1) = true := decide_eq_true c
    clear c h
    go_enter Try.func10, Try.ntmps10
    go_wp2
    go_ret2
    exact ⟨rfl, rfl⟩
  · have d1 : decide (n < 1) = false := decide_eq_false c
    have d2 : decide (1099511627776 < n) = true := decide_eq_true (by omega)
    clear c h
    go_enter Try.func10, Try.ntmps10
    go_wp2
    go_ret2
    exact ⟨rfl, rfl⟩
theorem octR_mod (k n : Int) : octR k n = (if octO k n % 2 = 0 then (8 * octQ k n) % n else n - (8 * octQ k n) % n) := by
  have h := Int.mul_ediv_add_emod (8 * octQ k n) n
  have e : n * (8 * octQ k n / n) = octO k n * n := Int.mul_comm ..
  rw [e] at h
  unfold octR
  rw [Int.add_mul, Int.one_mul]
  by_cases c : octO k n % 2 = 0
  · rw [if_pos c, if_pos c]; omega
  · rw [if_neg c, if_neg c]; omega
set_option maxHeartbeats 4000000 in
theorem loct_any (k n : Int) (w : World) (hn : 1 ≤ n ∧ n ≤ 1099511627776) :
    Calls Try.prog 10 #[.int .i64 k, .int .i64 n] w fun r w' => r = .returned (.tuple #[.int .i64 (octO k n), .int .i64 (octR k n)]) ∧ w = w' := by
  have hq := octQ_of (k := k) (n := n) (by omega)
  obtain ⟨q0, q1⟩ := octQ_range (k := k) (n := n) (by omega)
  obtain ⟨o0, o8⟩ := octO_range (k := k) (n := n) (by omega)
  have hR := octR_mod k n
  have hD : (8 * octQ k n).tdiv n = octO k n := by unfold octO; exact Int.tdiv_eq_ediv_of_nonneg (by omega)
  have hM : (8 * octQ k n).tmod n = (8 * octQ k n) % n := Int.tmod_eq_emod_of_nonneg (by omega)
  have m0 := Int.emod_nonneg (8 * octQ k n) (show n ≠ 0 by omega)
  have m1 := Int.emod_lt_of_pos (8 * octQ k n) (show 0 < n by omega)
  obtain ⟨ρ, hρ⟩ : ∃ ρ, ρ = (8 * octQ k n) % n := ⟨_, rfl⟩
  obtain ⟨o, ho⟩ : ∃ o, o = octO k n := ⟨_, rfl⟩
  obtain ⟨q, hqq⟩ : ∃ q, q = octQ k n := ⟨_, rfl⟩
  rw [← hρ] at hR hM m0 m1
  rw [← ho] at hR hD o0 o8
  rw [← hqq] at hq q0 q1 hD hM
  have d1 : decide (n < 1) = false := decide_eq_false (by omega)
  have d2 : decide (1099511627776 < n) = false := decide_eq_false (by omega)
  have n0 : (n == 0) = false := by rw [beq_eq_false_iff_ne]; omega
  obtain ⟨m, hm⟩ : ∃ m, m = k.tmod n := ⟨_, rfl⟩
  rw [← hm] at hq
  have hm2 : m < n ∧ -n < m := by rw [hm]; exact ⟨Int.tmod_lt_of_pos _ (by omega), by have := Int.lt_tmod_of_pos k (show 0 < n by omega); omega⟩
  have hfin := Lib.hid (And.intro ho hR)
  have hm' : k.tmod n = m := hm.symm
  clear hqq hρ ho hR hm
  by_cases c0 : m < 0
  · have d3 : decide (m < 0) = true := decide_eq_true c0
    have hq2 : m + n = q := by rw [hq, if_pos c0]
    clear c0 hq
    by_cases ev : o % 2 = 0
    · have t2 : (o % 2 == 1) = false := by rw [beq_eq_false_iff_ne]; omega
      have hz := hfin.out.2
      rw [if_pos ev] at hz
      have hzH := Lib.hid hz
      clear ev hz
      go_enter Try.func10, Try.ntmps10
      go_wp2
      go_ret2
      rw [← hfin.out.1, hzH.out]
      exact ⟨rfl, rfl⟩
    · have t2 : (o % 2 == 1) = true := by rw [beq_iff_eq]; omega
      have hz := hfin.out.2
      rw [if_neg ev] at hz
      have hzH := Lib.hid hz
      clear ev hz
      go_enter Try.func10, Try.ntmps10
      go_wp2
      go_ret2
      rw [← hfin.out.1, hzH.out]
      exact ⟨rfl, rfl⟩
  · have d3 : decide (m < 0) = false := decide_eq_false c0
    have hq2 : m = q := by rw [hq, if_neg c0]
    rw [hq2] at hm' d3
    clear c0 hq hq2
    by_cases ev : o % 2 = 0
    · have t2 : (o % 2 == 1) = false := by rw [beq_eq_false_iff_ne]; omega
      have hz := hfin.out.2
      rw [if_pos ev] at hz
      have hzH := Lib.hid hz
      clear ev hz
      go_enter Try.func10, Try.ntmps10
      go_wp2
      go_ret2
      rw [← hfin.out.1, hzH.out]
      exact ⟨rfl, rfl⟩
    · have t2 : (o % 2 == 1) = true := by rw [beq_iff_eq]; omega
      have hz := hfin.out.2
      rw [if_neg ev] at hz
      have hzH := Lib.hid hz
      clear ev hz
      go_enter Try.func10, Try.ntmps10
      go_wp2
      go_ret2
      rw [← hfin.out.1, hzH.out]
      exact ⟨rfl, rfl⟩
end Go.Proofs.Ytpifkjmdcbieoaa

/- The landed Exact (layer 5): the walk. -/
namespace Go.Proofs.Ytpifkjmdcbieoaa
open Go.RowKit

/-- a state of cosine and sine in words -/
structure WSt (C S : Rat) (W : W4) : Prop where
  ex : ∃ c s, DN W.a W.b c ∧ DN W.c W.d s ∧ InU eA c C ∧ InU eA s S
noncomputable def rotW (W : W4) : W4 := ⟨oppA W.c, oppB W.c W.d, W.a, W.b⟩
noncomputable def rotN : Nat → W4 → W4
  | 0, W => W
  | i + 1, W => rotW (rotN i W)
def swapW (W : W4) : W4 := ⟨W.c, W.d, W.a, W.b⟩
theorem WSt.rot {C S : Rat} {W : W4} (h : WSt C S W) : WSt (-S) C (rotW W) := by
  obtain ⟨c, s, d1, d2, e1, e2⟩ := h.ex
  exact ⟨-s, c, opp_dn d2, d1, e2.neg, e1⟩
theorem WSt.swap {C S : Rat} {W : W4} (h : WSt C S W) : WSt S C (swapW W) := by
  obtain ⟨c, s, d1, d2, e1, e2⟩ := h.ex
  exact ⟨s, c, d2, d1, e2, e1⟩
theorem WSt.rotN {C S : Rat} {W : W4} (h : WSt C S W) : ∀ i, ∃ C' S', WSt C' S' (rotN i W)
  | 0 => ⟨C, S, h⟩
  | i + 1 => by
    obtain ⟨C', S', h'⟩ := WSt.rotN h i
    exact ⟨_, _, h'.rot⟩
/-- the axis' words, as a function -/
structure AxisF (F : Int → Int → W4) : Prop where
  st : ∀ r n, 0 ≤ r → r ≤ n → 1 ≤ n → n ≤ 1099511627776 → WSt (cosR (angT r n)) (sinR (angT r n)) (F r n)
  end_ : ∀ n, 1 ≤ n → n ≤ 1099511627776 → (F n n).c = (F n n).a ∧ (F n n).d = (F n n).b
  zero : ∀ n, 1 ≤ n → n ≤ 1099511627776 → (F 0 n).c = 0 ∧ (F 0 n).d = 0 ∧ DN (F 0 n).a (F 0 n).b 1
  run : ∀ r n, 0 ≤ r → r ≤ n → 1 ≤ n → n ≤ 1099511627776 → ∀ w, Calls Try.prog 23 #[.int .i64 r, .int .i64 n] w fun q w' => q = .returned (.tuple #[dv (F r n).a (F r n).b, dv (F r n).c (F r n).d]) ∧ Bel w w'
theorem axis_fun : ∃ F, AxisF F := by
  have key : ∀ p : Int × Int, ∃ W : W4, 0 ≤ p.1 → p.1 ≤ p.2 → 1 ≤ p.2 → p.2 ≤ 1099511627776 → WSt (cosR (angT p.1 p.2)) (sinR (angT p.1 p.2)) W ∧ (p.1 = p.2 → W.c = W.a ∧ W.d = W.b) ∧ (p.1 = 0 → W.c = 0 ∧ W.d = 0 ∧ DN W.a W.b 1) ∧
      ∀ w, Calls Try.prog 23 #[.int .i64 p.1, .int .i64 p.2] w fun q w' => q = .returned (.tuple #[dv W.a W.b, dv W.c W.d]) ∧ Bel w w' := by
    rintro ⟨r, n⟩
    by_cases h : 0 ≤ r ∧ r ≤ n ∧ 1 ≤ n ∧ n ≤ 1099511627776
    · obtain ⟨h0, h1, h2, h3⟩ := h
      by_cases c : r = 0
      · subst c
        obtain ⟨ox, oy, ⟨_, ho, _⟩, hS, hC⟩ := axis_zero (n := n) (by omega)
        exact ⟨⟨ox, oy, 0, 0⟩, fun _ _ _ _ => ⟨⟨hS.ex⟩, fun e => hS.end_ e, fun _ => ⟨rfl, rfl, ho⟩, hC⟩⟩
      · obtain ⟨cx, cy, sx, sy, hS, hC⟩ := axis_pos (r := r.toNat) (n := n.toNat) (by omega) (by omega) (by omega)
        rw [show ((r.toNat : Nat) : Int) = r from by omega, show ((n.toNat : Nat) : Int) = n from by omega] at hS hC
        exact ⟨⟨cx, cy, sx, sy⟩, fun _ _ _ _ => ⟨⟨hS.ex⟩, fun e => hS.end_ e, fun e => absurd e c, hC⟩⟩
    · exact ⟨⟨0, 0, 0, 0⟩, fun h0 h1 h2 h3 => absurd ⟨h0, h1, h2, h3⟩ h⟩
  refine ⟨fun r n => Classical.choose (key (r, n)), ?_⟩
  have hk := fun (r n : Int) => Classical.choose_spec (key (r, n))
  exact ⟨fun r n a b c d => (hk r n a b c d).1, fun n a b => (hk n n (by omega) (by omega) a b).2.1 rfl, fun n a b => (hk 0 n (by omega) (by omega) a b).2.2.1 rfl, fun r n a b c d => (hk r n a b c d).2.2.2⟩
noncomputable def exW (F : Int → Int → W4) (k n : Int) : W4 := rotN (octO k n / 2).toNat (if octO k n % 2 = 1 then swapW (F (octR k n) n) else F (octR k n) n)
def rotPre (i : Nat) : List Nat := match i with | 1 => [0] | 3 => [1, 0, 2] | 4 => [2, 3, 0, 1] | _ => []
theorem rot_reg {Q : Exit → Act → World → Prop} {ops : Array Oper} {id : Nat} {w0 w1 : World} (a0 : Act) (C S cx cy sx sy ox oy : Nat)
    (hops : ∃ y0 y1 y2 y3 y4 q0 q1 q2 q3 q4 f0 f1 f2 f3 f4, ops = #[
      { dst := some 33, op := .load 30 (.tmp 5), type := y0, pos := q0, after := f0, guard := none },
      { dst := some 34, op := .call { callee := .value (.func 24), args := #[.tmp 33], argTypes := #[30] }, type := y1, pos := q1, after := f1, guard := none },
      { dst := some 35, op := .load 30 (.tmp 4), type := y2, pos := q2, after := f2, guard := none },
      { dst := none, op := .store 30 (.tmp 4) (.tmp 34), type := y3, pos := q3, after := f3, guard := none },
      { dst := none, op := .store 30 (.tmp 5) (.tmp 35), type := y4, pos := q4, after := f4, guard := none }])
    (hchk : chkN rotPre ops = true) (hsz : a0.tmps.size = 39) (e4 : a0.eval (.tmp 4) = .pointer (some ⟨C, 0, none⟩)) (e5 : a0.eval (.tmp 5) = .pointer (some ⟨S, 0, none⟩)) (hne : w0.heap.size ≤ C ∧ w0.heap.size ≤ S ∧ C ≠ S) (hB : Bel w0 w1) (tC : Two w1 C cx cy) (tS : Two w1 S sx sy)
    (hc : ∀ w, Calls Try.prog 24 #[dv sx sy] w fun r w' => r = .returned (dv ox oy) ∧ Bel w w')
    (hQ : ∀ f w, Bel w0 w → Two w C ox oy → Two w S cx cy → Q .normal (actOf a0 [33, 34, 35] f) w) : (Code.region id ops true).wp Try.prog Q a0 w1 := by
  obtain ⟨y0, y1, y2, y3, y4, q0, q1, q2, q3, q4, g0, g1, g2, g3, g4, rfl⟩ := hops
  obtain ⟨n1, n2, n3⟩ := hne
  have out : ∀ f t, t ∉ [33, 34, 35] → (actOf a0 [33, 34, 35] f).eval (.tmp t) = a0.eval (.tmp t) := fun f t h => actOf_out a0 _ f h
  have inn : ∀ f t, t ∈ [33, 34, 35] → t < 39 → (actOf a0 [33, 34, 35] f).eval (.tmp t) = f t := fun f t h h2 => actOf_in a0 _ f h (by rw [hsz]; exact h2)
  rw [← actOf_self a0 [33, 34, 35]]
  have cC : (⟨C, cx, cy, 3, ox, oy⟩ : Ob) ∈ [(⟨C, cx, cy, 3, ox, oy⟩ : Ob), ⟨S, sx, sy, 4, cx, cy⟩] := by simp
  have cS : (⟨S, sx, sy, 4, cx, cy⟩ : Ob) ∈ [(⟨C, cx, cy, 3, ox, oy⟩ : Ob), ⟨S, sx, sy, 4, cx, cy⟩] := by simp
  refine wp_region_ov (pre := rotPre) (w0 := w0) (actOf a0 [33, 34, 35]) (fun t => a0.eval (.tmp t)) (by kernel_rfl) hchk [(0, 33, dv sx sy), (1, 34, dv ox oy), (2, 35, dv cx cy)] [⟨C, cx, cy, 3, ox, oy⟩, ⟨S, sx, sy, 4, cx, cy⟩]
    (by simp) (by simp) (by simp [n3]) (by simp) (by simp) (by simp [n1, n2]) hB (by simp [tC, tS]) ?_ (by simp) ?_
  · intro i hi
    have hi : i < 5 := hi
    match i, hi with
    | 0, _ => exact .value 33 (dv sx sy) (by simp) fun f w hB h ht => wpOp_go rfl rfl (step_load (d := some 33) rfl rfl ((out f 5 (by decide)).trans e5) (load_num (ht _ cS (Or.inl (by simp [rotPre])))) ⟨actOf_put _ _ _ (by decide) _, Bel.refl _⟩)
    | 1, _ => exact .value 34 (dv ox oy) (by simp) fun f w hB h ht => wpOp_go rfl rfl (step_call1 (d := some 34) rfl rfl ((inn f 33 (by decide) (by decide)).trans (h (0, 33, dv sx sy) (by simp) (by simp [rotPre]))) (by kernel_rfl) ((hc _).mono fun _ _ ⟨k1, k2⟩ => ⟨_, k1, actOf_put _ _ _ (by decide) _, k2⟩))
    | 2, _ => exact .value 35 (dv cx cy) (by simp) fun f w hB h ht => wpOp_go rfl rfl (step_load (d := some 35) rfl rfl ((out f 4 (by decide)).trans e4) (load_num (ht _ cC (Or.inl (by simp [rotPre])))) ⟨actOf_put _ _ _ (by decide) _, Bel.refl _⟩)
    | 3, _ => exact .store _ cC rfl (by simp) fun f w K h ht hK => wpOp_go rfl rfl (step_store (d := none) rfl rfl ((out f 4 (by decide)).trans e4) ((inn f 34 (by decide) (by decide)).trans (h (1, 34, dv ox oy) (by simp) (by simp [rotPre]))) ht hK)
    | 4, _ => exact .store _ cS rfl (by simp) fun f w K h ht hK => wpOp_go rfl rfl (step_store (d := none) rfl rfl ((out f 5 (by decide)).trans e5) ((inn f 35 (by decide) (by decide)).trans (h (2, 35, dv cx cy) (by simp) (by simp [rotPre]))) ht hK)
  · intro f w hb hc ht
    have k1 := ht _ cC
    have k2 := ht _ cS
    exact hQ f w hb (by simpa using k1) (by simpa using k2)
set_option maxHeartbeats 4000000 in
theorem exact_run {F : Int → Int → W4} (hF : AxisF F) (k n : Int) (hn : 1 ≤ n ∧ n ≤ 1099511627776) (w : World) :
    Calls Try.prog 13 #[.int .i64 k, .int .i64 n] w fun q w' => q = .returned (.tuple #[dv (exW F k n).a (exW F k n).b, dv (exW F k n).c (exW F k n).d]) ∧ Bel w w' := by
  have sf := run_store_float Try.prog
  obtain ⟨o0, o8⟩ := octO_range (k := k) (n := n) (by omega)
  obtain ⟨r0, r1⟩ := octR_range (k := k) (n := n) (by omega)
  have hO := fun w => loct_any k n w hn
  have hR := fun w => hF.run (octR k n) n r0 r1 hn.1 hn.2 w
  have hSt := hF.st (octR k n) n r0 r1 hn.1 hn.2
  unfold exW
  obtain ⟨o, ho⟩ : ∃ o, o = octO k n := ⟨_, rfl⟩
  obtain ⟨r, hr⟩ : ∃ r, r = octR k n := ⟨_, rfl⟩
  rw [← ho, ← hr] at hO
  rw [← ho] at o0 o8 ⊢
  rw [← hr] at hR hSt ⊢
  obtain ⟨h, hh⟩ : ∃ h : Nat, o / 2 = (h : Int) := ⟨(o / 2).toNat, by omega⟩
  have hh3 : h ≤ 3 := by omega
  have ht : (o / 2).toNat = h := by omega
  rw [ht]
  obtain ⟨W, hW⟩ : ∃ W, W = F r n := ⟨_, rfl⟩
  rw [← hW] at hR hSt ⊢
  have dneg : decide (o < 0) = false := decide_eq_false (by omega)
  have hB0H := Lib.hid (And.intro hh3 hn)
  clear ho hr hW ht r0 r1 hF hn
  obtain ⟨A, hA⟩ : ∃ A, A = w.heap.size := ⟨_, rfl⟩
  obtain ⟨w1, hw1⟩ : ∃ w1, w1 = (w.alloc (Obj.cells #[.float .f64 0, .float .f64 0] 30)).alloc (Obj.cells #[.float .f64 0, .float .f64 0] 30) := ⟨_, rfl⟩
  have hB1 : Bel w w1 := by rw [hw1]; exact ((Bel.refl w).alloc _).alloc _
  have tC : Two w1 A 0 0 := by rw [hw1, hA]; exact (Two.newN _ 0 0 _ _ rfl).al _
  have tS : Two w1 (A + 1) 0 0 := by rw [hw1, hA]; exact Two.newN _ 0 0 _ _ (by simp)
  have hAw := Lib.hid (show w.heap.size ≤ A by omega)
  have hord := Lib.hid (show w.heap.size ≤ A ∧ w.heap.size ≤ A + 1 ∧ A ≠ A + 1 from ⟨hAw.out, Nat.le_succ_of_le hAw.out, by omega⟩)
  have hw1H := Lib.hid (And.intro hw1 hA)
  clear hw1 hA
  by_cases ev : o % 2 = 1
  · have c2 : (o % 2 == 1) = true := by rw [beq_iff_eq]; omega
    have hStH := Lib.hid (show ∃ C S, WSt C S (swapW W) from ⟨_, _, hSt.swap⟩)
    rw [if_pos ev]
    clear ev hSt
    go_enter Try.func13, Try.ntmps13
    go_wp2_with fail
    rw [← hw1H.out.1, ← hw1H.out.2]
    refine (hO _).mono ?_; rintro q w2 ⟨rfl, rfl⟩
    go_wp2_with fail
    refine (hR _).mono ?_; rintro q w7 ⟨rfl, hB⟩
    have tC2 := tC.by hB
    have tS2 := tS.by hB
    obtain ⟨m1, m2⟩ := tC2.mid W.a
    have tC3 := tC2.set W.a W.b
    have tS3 := tS2.so (X := A) (by omega) (.float .f64 W.a) (.float .f64 W.b)
    have hB3' := ((hB1.trans hB).setCell (p := ⟨A, 0, none⟩) hord.out.1 (.float .f64 W.a)).setCell (p := ⟨A, 1, none⟩) hord.out.1 (.float .f64 W.b)
    obtain ⟨c0, c1, f0, f1⟩ := tC2
    obtain ⟨m3, m4⟩ := tS3.mid W.c
    have tS4 := tS3.set W.c W.d
    have tC4 := tC3.so (X := A + 1) (by omega) (.float .f64 W.c) (.float .f64 W.d)
    have hB4' := (hB3'.setCell (p := ⟨A + 1, 0, none⟩) hord.out.2.1 (.float .f64 W.c)).setCell (p := ⟨A + 1, 1, none⟩) hord.out.2.1 (.float .f64 W.d)
    obtain ⟨s0, s1, z0, z1⟩ := tS3
    obtain ⟨m5, m6⟩ := tC4.mid W.c
    have tC5 := tC4.set W.c W.d
    have tS5 := tS4.so (X := A) (by omega) (.float .f64 W.c) (.float .f64 W.d)
    have hB5' := (hB4'.setCell (p := ⟨A, 0, none⟩) hord.out.1 (.float .f64 W.c)).setCell (p := ⟨A, 1, none⟩) hord.out.1 (.float .f64 W.d)
    obtain ⟨u0, u1, u2, u3⟩ := tC4
    obtain ⟨v0, v1, v2, v3⟩ := tS4
    obtain ⟨m7, m8⟩ := tS5.mid W.a
    have tS6 := tS5.set W.a W.b
    have tC6 := tC5.so (X := A + 1) (by omega) (.float .f64 W.a) (.float .f64 W.b)
    have hB6' := (hB5'.setCell (p := ⟨A + 1, 0, none⟩) hord.out.2.1 (.float .f64 W.a)).setCell (p := ⟨A + 1, 1, none⟩) hord.out.2.1 (.float .f64 W.b)
    obtain ⟨y0, y1, y2, y3⟩ := tS5
    have hq := Lib.hid (And.intro tC6 (And.intro tS6 hB6'))
    obtain ⟨W0, hW0⟩ : ∃ W0, W0 = swapW W := ⟨_, rfl⟩
    clear hO hR hB3' hB4' tC3 tS2 tC tS hB1 hB tC6 tS6 hB5' hB6' tC5
    go_wp2
    have hk1 := hq.out.1
    have hk2 := hq.out.2.1
    have hk3 := hq.out.2.2
    generalize (World.setCell (World.setCell (World.setCell (World.setCell (World.setCell (World.setCell (World.setCell (World.setCell w7 ⟨A, 0, none⟩ (.float .f64 W.a)) ⟨A, 1, none⟩ (.float .f64 W.b)) ⟨A + 1, 0, none⟩ (.float .f64 W.c)) ⟨A + 1, 1, none⟩ (.float .f64 W.d)) ⟨A, 0, none⟩ (.float .f64 W.c)) ⟨A, 1, none⟩ (.float .f64 W.d)) ⟨A + 1, 0, none⟩ (.float .f64 W.a)) ⟨A + 1, 1, none⟩ (.float .f64 W.b)) = wS at hk1 hk2 hk3 ⊢
    clear hq m1 m2 m3 m4 c0 c1 f0 f1 s0 s1 z0 z1 m5 m6 m7 m8 u0 u1 u2 u3 v0 v1 v2 v3 y0 y1 y2 y3
    have e4 : swapW W = W0 := hW0.symm
    go_loopw [31] (fun v wr => ∃ i : Nat, i ≤ h ∧ v = .int .i64 (i : Int) ∧ Two wr A (rotN i W0).a (rotN i W0).b ∧ Two wr (A + 1) (rotN i W0).c (rotN i W0).d ∧ Bel w wr) (fun v _ => ((h : Int) - intOf v).toNat)
    case atStart => exact ⟨0, by omega, by simp, by rw [hW0]; exact hk1, by rw [hW0]; exact hk2, hk3⟩
    case round =>
      obtain ⟨i, hi, rfl, tC, tS, hB⟩ := hrel
      clear hk1 hk2 hk3
      by_cases hlt : i < h
      · have dl : decide ((i : Int) < (h : Int)) = true := decide_eq_true (by omega)
        obtain ⟨C', S', hst⟩ := hStH.out
        rw [e4] at hst
        obtain ⟨C2, S2, hst2⟩ := hst.rotN i
        obtain ⟨c', s', _, ds', _, _⟩ := hst2.ex
        have hc := fun w => opp_any ds' w
        have hlH := Lib.hid hlt
        clear hlt hst hst2
        go_upto_region 9 with fail
        refine rot_reg (w0 := w) _ A (A + 1) (rotN i W0).a (rotN i W0).b (rotN i W0).c (rotN i W0).d _ _ ⟨_, _, _, _, _, _, _, _, _, _, _, _, _, _, _, rfl⟩ (by decide +kernel) rfl rfl rfl hord.out hB tC tS hc ?_
        intro f wy hBy tCy tSy
        clear tC tS hB hc
        unfold actOf
        simp only [List.mapIdx_toArray, List.mapIdx_cons, List.mapIdx_nil, List.mem_cons, List.mem_nil_iff, Nat.reduceEqDiff, Nat.reduceAdd, or_false, or_true, if_true, if_false]
        have wk : IntKind.i64.wrap ((i : Int) + 1) = (i : Int) + 1 := by
          have h1 := hlH.out
          have h2 := hB0H.out.1
          rw [IntKind.wrap_i64]; omega
        go_wp2
        go_roundw
        case rel =>
          have h1 := hlH.out
          exact ⟨i + 1, by omega, by simp, tCy, tSy, hBy⟩
        case measure =>
          have h1 := hlH.out
          simp [intOf]; omega
      · have hih : i = h := by omega
        subst hih
        have dl : decide ((i : Int) < (i : Int)) = false := decide_eq_false (by omega)
        clear hlt hi
        go_upto_region 11 with fail
        refine ret_two (w0 := w) _ 4 5 37 38 A (A + 1) (rotN i W0).a (rotN i W0).b (rotN i W0).c (rotN i W0).d ⟨_, _, _, _, _, _, _, _, _, _, _, _, rfl⟩ (by decide +kernel) (Nat.le_of_ble_eq_true rfl) (Nat.le_of_ble_eq_true rfl) (by decide) rfl rfl hord.out.2.2 hord.out.1 hord.out.2.1 hB tC tS ?_
        intro f wy hBy tCy tSy
        obtain ⟨e0, e1, _, _⟩ := tCy
        obtain ⟨e2, e3, _, _⟩ := tSy
        clear tC tS hB
        unfold actOf
        simp only [List.mapIdx_toArray, List.mapIdx_cons, List.mapIdx_nil, List.mem_cons, List.mem_nil_iff, Nat.reduceEqDiff, Nat.reduceAdd, or_false, or_true, if_true, if_false]
        go_wp2
        refine bodyPost_ret (by simp [results, go_sem, e0, e1, e2, e3]; try rfl) rfl ?_
        exact ⟨by rw [e4], hBy⟩
  · have c2 : (o % 2 == 1) = false := by rw [beq_eq_false_iff_ne]; omega
    have hStH := Lib.hid (show ∃ C S, WSt C S (W) from ⟨_, _, hSt⟩)
    rw [if_neg ev]
    clear ev hSt
    go_enter Try.func13, Try.ntmps13
    go_wp2_with fail
    rw [← hw1H.out.1, ← hw1H.out.2]
    refine (hO _).mono ?_; rintro q w2 ⟨rfl, rfl⟩
    go_wp2_with fail
    refine (hR _).mono ?_; rintro q w7 ⟨rfl, hB⟩
    have tC2 := tC.by hB
    have tS2 := tS.by hB
    obtain ⟨m1, m2⟩ := tC2.mid W.a
    have tC3 := tC2.set W.a W.b
    have tS3 := tS2.so (X := A) (by omega) (.float .f64 W.a) (.float .f64 W.b)
    have hB3' := ((hB1.trans hB).setCell (p := ⟨A, 0, none⟩) hord.out.1 (.float .f64 W.a)).setCell (p := ⟨A, 1, none⟩) hord.out.1 (.float .f64 W.b)
    obtain ⟨c0, c1, f0, f1⟩ := tC2
    obtain ⟨m3, m4⟩ := tS3.mid W.c
    have tS4 := tS3.set W.c W.d
    have tC4 := tC3.so (X := A + 1) (by omega) (.float .f64 W.c) (.float .f64 W.d)
    have hB4' := (hB3'.setCell (p := ⟨A + 1, 0, none⟩) hord.out.2.1 (.float .f64 W.c)).setCell (p := ⟨A + 1, 1, none⟩) hord.out.2.1 (.float .f64 W.d)
    obtain ⟨s0, s1, z0, z1⟩ := tS3
    have hq := Lib.hid (And.intro tC4 (And.intro tS4 hB4'))
    obtain ⟨W0, hW0⟩ : ∃ W0, W0 = W := ⟨_, rfl⟩
    clear hO hR hB3' hB4' tC3 tS2 tC tS hB1 hB tC4 tS4 
    go_wp2
    have hk1 := hq.out.1
    have hk2 := hq.out.2.1
    have hk3 := hq.out.2.2
    generalize (World.setCell (World.setCell (World.setCell (World.setCell w7 ⟨A, 0, none⟩ (.float .f64 W.a)) ⟨A, 1, none⟩ (.float .f64 W.b)) ⟨A + 1, 0, none⟩ (.float .f64 W.c)) ⟨A + 1, 1, none⟩ (.float .f64 W.d)) = wS at hk1 hk2 hk3 ⊢
    clear hq m1 m2 m3 m4 c0 c1 f0 f1 s0 s1 z0 z1 
    have e4 : W = W0 := hW0.symm
    go_loopw [31] (fun v wr => ∃ i : Nat, i ≤ h ∧ v = .int .i64 (i : Int) ∧ Two wr A (rotN i W0).a (rotN i W0).b ∧ Two wr (A + 1) (rotN i W0).c (rotN i W0).d ∧ Bel w wr) (fun v _ => ((h : Int) - intOf v).toNat)
    case atStart => exact ⟨0, by omega, by simp, by rw [hW0]; exact hk1, by rw [hW0]; exact hk2, hk3⟩
    case round =>
      obtain ⟨i, hi, rfl, tC, tS, hB⟩ := hrel
      clear hk1 hk2 hk3
      by_cases hlt : i < h
      · have dl : decide ((i : Int) < (h : Int)) = true := decide_eq_true (by omega)
        obtain ⟨C', S', hst⟩ := hStH.out
        rw [e4] at hst
        obtain ⟨C2, S2, hst2⟩ := hst.rotN i
        obtain ⟨c', s', _, ds', _, _⟩ := hst2.ex
        have hc := fun w => opp_any ds' w
        have hlH := Lib.hid hlt
        clear hlt hst hst2
        go_upto_region 9 with fail
        refine rot_reg (w0 := w) _ A (A + 1) (rotN i W0).a (rotN i W0).b (rotN i W0).c (rotN i W0).d _ _ ⟨_, _, _, _, _, _, _, _, _, _, _, _, _, _, _, rfl⟩ (by decide +kernel) rfl rfl rfl hord.out hB tC tS hc ?_
        intro f wy hBy tCy tSy
        clear tC tS hB hc
        unfold actOf
        simp only [List.mapIdx_toArray, List.mapIdx_cons, List.mapIdx_nil, List.mem_cons, List.mem_nil_iff, Nat.reduceEqDiff, Nat.reduceAdd, or_false, or_true, if_true, if_false]
        have wk : IntKind.i64.wrap ((i : Int) + 1) = (i : Int) + 1 := by
          have h1 := hlH.out
          have h2 := hB0H.out.1
          rw [IntKind.wrap_i64]; omega
        go_wp2
        go_roundw
        case rel =>
          have h1 := hlH.out
          exact ⟨i + 1, by omega, by simp, tCy, tSy, hBy⟩
        case measure =>
          have h1 := hlH.out
          simp [intOf]; omega
      · have hih : i = h := by omega
        subst hih
        have dl : decide ((i : Int) < (i : Int)) = false := decide_eq_false (by omega)
        clear hlt hi
        go_upto_region 11 with fail
        refine ret_two (w0 := w) _ 4 5 37 38 A (A + 1) (rotN i W0).a (rotN i W0).b (rotN i W0).c (rotN i W0).d ⟨_, _, _, _, _, _, _, _, _, _, _, _, rfl⟩ (by decide +kernel) (Nat.le_of_ble_eq_true rfl) (Nat.le_of_ble_eq_true rfl) (by decide) rfl rfl hord.out.2.2 hord.out.1 hord.out.2.1 hB tC tS ?_
        intro f wy hBy tCy tSy
        obtain ⟨e0, e1, _, _⟩ := tCy
        obtain ⟨e2, e3, _, _⟩ := tSy
        clear tC tS hB
        unfold actOf
        simp only [List.mapIdx_toArray, List.mapIdx_cons, List.mapIdx_nil, List.mem_cons, List.mem_nil_iff, Nat.reduceEqDiff, Nat.reduceAdd, or_false, or_true, if_true, if_false]
        go_wp2
        refine bodyPost_ret (by simp [results, go_sem, e0, e1, e2, e3]; try rfl) rfl ?_
        exact ⟨by rw [e4], hBy⟩
end Go.Proofs.Ytpifkjmdcbieoaa

/- Layer 5's statements: a number of parts made of any number. -/
namespace Go.Proofs.Ytpifkjmdcbieoaa
open Go.RowKit

def partsN (n most : Int) : Int := 1 + (if n < 0 then -(n + 1) else n) % most
theorem partsN_range {n most : Int} (h : 0 < most) : 1 ≤ partsN n most ∧ partsN n most ≤ most := by
  unfold partsN
  have h1 := Int.emod_nonneg (if n < 0 then -(n + 1) else n) (by omega : most ≠ 0)
  have h2 := Int.emod_lt_of_pos (if n < 0 then -(n + 1) else n) h
  omega
set_option maxHeartbeats 2000000 in
theorem parts5_any (n most : Int) (w : World) (hn : -9223372036854775808 ≤ n ∧ n < 9223372036854775808) (hm : 1 ≤ most ∧ most ≤ 1099511627776) :
    Calls Try.prog 9 #[.int .i64 n, .int .i64 most] w fun r w' => r = .returned (.int .i64 (partsN n most)) ∧ w = w' := by
  have hP : partsN n most = 1 + (if n < 0 then -(n + 1) else n) % most := rfl
  have m0 : (most == 0) = false := by rw [beq_eq_false_iff_ne]; omega
  by_cases c : n < 0
  · rw [if_pos c] at hP
    have d1 : decide (n < 0) = true := decide_eq_true c
    obtain ⟨q, hq⟩ : ∃ q, q = -(n + 1) := ⟨_, rfl⟩
    have q0 : 0 ≤ q := by omega
    have h1 := Int.emod_nonneg q (by omega : most ≠ 0)
    have h2 := Int.emod_lt_of_pos q (by omega : 0 < most)
    rw [← hq] at hP
    have w1 : wrap64 (-wrap64 (n + 1)) = q := by unfold wrap64; omega
    have e3 := Lib.hid (show wrap64 (1 + (wrap64 (-wrap64 (n + 1))).tmod most) = partsN n most by
      rw [hP, w1, Int.tmod_eq_emod_of_nonneg q0]
      unfold wrap64
      omega)
    clear hP hq q0 h1 h2 c w1
    go_enter Try.func9, Try.ntmps9
    go_wp2
    go_ret
    exact ⟨by rw [← e3.out]; rfl, rfl⟩
  · rw [if_neg c] at hP
    have d1 : decide (n < 0) = false := decide_eq_false c
    have h1 := Int.emod_nonneg n (by omega : most ≠ 0)
    have h2 := Int.emod_lt_of_pos n (by omega : 0 < most)
    have e3 := Lib.hid hP
    have n0 : 0 ≤ n := by omega
    clear hP c
    go_enter Try.func9, Try.ntmps9
    go_wp2
    go_ret
    exact ⟨by rw [e3.out]; rfl, rfl⟩
end Go.Proofs.Ytpifkjmdcbieoaa

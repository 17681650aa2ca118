/- Merged texts: Copy7, RegP, Regs7, Same7, Ref7, NumR7, RevR7, Said7. -/
import Derived.Test.YtniljnidpcgjgaaM1
import Derived.Deep.DeepCutAuto
/- A new list of ints; a copy made by append onto nil. -/
namespace Go.Proofs.Ytniljnidpcgjgaa
open Go.RowKit
set_option linter.unusedVariables false

/-- a list made since w -/
structure GL (w w' : World) (q : Option Addr) (m : Nat) (zs : List Int) : Prop where
  len : zs.length = m
  form : m = 0 ∨ ∃ G off, q = some ⟨G, off, none⟩ ∧ w.heap.size ≤ G ∧ WL w' G off m zs
theorem GL.il {w w' : World} {q : Option Addr} {m : Nat} {zs : List Int} (h : GL w w' q m zs) : IL w' q m zs := by
  refine ⟨h.len, ?_⟩
  rcases h.form with h | ⟨G, off, rfl, _, h⟩
  · exact Or.inl h
  · exact h.il.form
theorem GL.bel {w w' w'' : World} {q : Option Addr} {m : Nat} {zs : List Int} (h : GL w w' q m zs) (k : Bel w' w'') : GL w w'' q m zs := by
  refine ⟨h.len, ?_⟩
  rcases h.form with h | ⟨G, off, rfl, hg, h⟩
  · exact Or.inl h
  · exact Or.inr ⟨G, off, rfl, hg, h.bel k⟩
theorem append_none (ty : TypeId) (p : Option Addr) (cap : Nat) (w : World) : (Builtin.append_ #[22, 22] ty #[.slice none 0 0, .slice p 0 cap]).run Try.prog w = .ok (.slice none 0 0) w := by
  obtain ⟨i0, hi, _, _, _⟩ := info_parts int_info
  have hu := run_underlying (w := w) Try.underlying22
  have hl : ∀ a : Addr, (loadCells a 0).run Try.prog w = .ok #[] w := fun a => by rfl
  cases p <;> simp [Builtin.append_, hu, typeInfo, sizeOf, hi, hl, Builtin.firstCells, Builtin.lenOf]
theorem wpList_copy (w : World) {ops : Array Oper} {rest : List Oper} {o : Oper} {a : Act} {Q : Exit → Act → World → Prop} (hgd : o.guard = none) (x : Operand)
    (ho : o.op = .call { callee := .builtin .append, args := #[.const (.slice none 0 0), x], argTypes := #[22, 22] })
    (p : Option Addr) (n cap : Nat) (zs : List Int) (hx : a.eval x = .slice p n cap) (hA : IL w p n zs) (hn : n * 8 ≤ 140737488355328)
    (h : ∀ q c w', GL w w' q n zs → Bel w w' → wpList Try.prog ops Q rest (a.put o.dst (.slice q n c)) w') : wpList Try.prog ops Q (o :: rest) a w := by
  obtain ⟨i0, hi, hz0, hz1, hz2⟩ := info_parts int_info
  rcases hA.form with h0 | ⟨B, off, rfl, hB, hc⟩
  · subst h0
    refine wpList_plain hgd fun K hK => ?_
    have hr := append_none o.type p cap w
    have hev : a.eval (.const (.slice none 0 0)) = .slice none 0 0 := rfl
    unfold Oper.wp
    simp [execOp, ho, resolve, invoke, builtin, hx, hev, hr, Result.andThen]
    exact hK _ _ (h none 0 w ⟨hA.len, Or.inl rfl⟩ (Bel.refl _))
  · have hlen := hA.len
    refine wpList_append_own w hgd (.const (.slice none 0 0)) x 22 ho w.heap.size 3 i0 (.int .i64 0) 1 8 Try.underlying22 hi hz0 hz1 hz2 rfl (by decide) (.slice none 0 0) 0 [] rfl ⟨by simp, Or.inl ⟨rfl, rfl⟩⟩ ⟨B, off, none⟩ n cap (zs.map (Value.int .i64)) hx (by rw [List.length_map, hlen, Nat.mul_one]) ?_ ?_ ?_ (by omega) (Nat.le_refl _) ?_
    · intro j u hj
      rw [List.getElem?_map] at hj
      cases hz : zs[j]? with
      | none => rw [hz] at hj; cases hj
      | some z =>
        rw [hz] at hj
        obtain rfl := Option.some.inj hj
        rw [Go.WideShapes.add_plain]
        exact hc j z hz
    · intro u hu
      obtain ⟨z, _, rfl⟩ := List.mem_map.1 hu
      rfl
    · unfold maxLen; omega
    · intro v' w' hown hgrow _
      have hb : Bel w w' := (Bel.refl w).grown hgrow (by intro k hk; simp [Value.ownBlock] at hk)
      rw [Nat.zero_add, List.nil_append] at hown
      by_cases hn0 : n = 0
      · rcases ownsRow_form' hown with ⟨rfl, h2⟩ | ⟨g, cap', rfl, _⟩
        · have := h none 0 w' ⟨hlen, Or.inl hn0⟩ hb
          rw [hn0] at this
          exact this
        · exact h _ cap' w' ⟨hlen, Or.inl hn0⟩ hb
      · obtain ⟨G, c, rfl, hG, hW⟩ := WL.own hlen (by omega) hown
        exact h _ c w' ⟨hlen, Or.inr ⟨G, 0, rfl, hG, hW⟩⟩ hb
end Go.Proofs.Ytniljnidpcgjgaa

/- A region that draws its order, by a closed list of its operations and their temporaries and one function that says what each leaves. -/
namespace Go.Proofs.Ytniljnidpcgjgaa
open Go.RowKit

/-- what stands at a place of a region -/
def OpAt (ops : Array Oper) (i : Nat) (d : Option Nat) (op : Op) (g : Option (Nat × Bool)) : Prop := ∃ o, ops[i]? = some o ∧ o.dst = d ∧ o.op = op ∧ o.guard = g
theorem OpAt.dst {ops : Array Oper} {i : Nat} {d : Option Nat} {op : Op} {g : Option (Nat × Bool)} (h : OpAt ops i d op g) : (ops[i]?).bind (·.dst) = d := by
  obtain ⟨o, h1, h2, _, _⟩ := h
  rw [h1]; exact h2
abbrev Its := List (Nat × Nat)
def lv (its : Its) (phi : Nat → Value → Prop) : Leaves := its.map fun c => (c.1, c.2, phi c.1)
theorem lv_mem {its : Its} {phi : Nat → Value → Prop} {i t : Nat} (h : (i, t) ∈ its) : (i, t, phi i) ∈ lv its phi := List.mem_map_of_mem (f := fun c : Nat × Nat => (c.1, c.2, phi c.1)) h
theorem lv_fst (its : Its) (phi : Nat → Value → Prop) : (lv its phi).map (·.1) = its.map (·.1) := by unfold lv; rw [List.map_map]; rfl
theorem lv_snd (its : Its) (phi : Nat → Value → Prop) : (lv its phi).map (·.2.1) = its.map (·.2) := by unfold lv; rw [List.map_map]; rfl
theorem lv_in {its : Its} {phi : Nat → Value → Prop} {c : Nat × Nat × (Value → Prop)} (h : c ∈ lv its phi) : (c.1, c.2.1) ∈ its ∧ c.2.2 = phi c.1 := by
  obtain ⟨d, hd, rfl⟩ := List.mem_map.1 h
  exact ⟨hd, rfl⟩
/-- the closed check that operations and temporaries are apart -/
def apartB (its : Its) (bs : List Blk) (n : Nat) : Bool :=
  decide (its.map (·.1)).Nodup && decide (its.map (·.2)).Nodup && decide (bs.map (·.a)).Nodup && decide (bs.map (·.p)).Nodup && decide (bs.map (·.s)).Nodup &&
  its.all (fun c => decide (c.1 < n) && bs.all fun b => decide (c.1 ≠ b.a) && decide (c.1 ≠ b.s) && decide (c.2 ≠ b.p)) &&
  bs.all (fun b => decide (b.a < n) && decide (b.s < n) && its.contains (b.vo, b.v) && bs.all fun b' => decide (b.a ≠ b'.s))
theorem apartB_apart {its : Its} {bs : List Blk} {n : Nat} (phi : Nat → Value → Prop) (h : apartB its bs n = true) : Apart (lv its phi) bs ∧ (∀ c ∈ lv its phi, c.1 < n) ∧ ∀ b ∈ bs, b.a < n ∧ b.s < n := by
  unfold apartB at h
  simp only [Bool.and_eq_true, decide_eq_true_eq, List.all_eq_true, List.contains_eq_mem] at h
  obtain ⟨⟨⟨⟨⟨⟨h1, h2⟩, h3⟩, h4⟩, h5⟩, h6⟩, h7⟩ := h
  refine ⟨⟨by rw [lv_fst]; exact h1, by rw [lv_snd]; exact h2, h3, h4, h5, fun c hc b hb => ?_, fun b hb b' hb' => (h7 b hb).2 b' hb', fun b hb => ⟨phi b.vo, lv_mem (h7 b hb).1.2⟩⟩, fun c hc => (h6 _ (lv_in hc).1).1, fun b hb => ⟨(h7 b hb).1.1.1, (h7 b hb).1.1.2⟩⟩
  have k := (h6 _ (lv_in hc).1).2 b hb
  exact ⟨k.1.1, k.1.2, k.2⟩
theorem wp_region_pv {P : Program} {ops : Array Oper} {Q : Exit → Act → World → Prop} {pre : Nat → List Nat} {id : Nat} {w1 : World} (act : (Nat → Value) → Act) (f0 : Nat → Value) (hm : P.follows .mixedOrders = true) (hc : chkN pre ops = true) (its : Its) (phi : Nat → Value → Prop) (bs : List Blk) (hA : apartB its bs ops.size = true)
    (hs : ∀ i, i < ops.size → Does P ops Q pre act (lv its phi) bs w1 i)
    (hQ : ∀ f w, Bel w1 w → (∀ i t, (i, t) ∈ its → phi i (f t)) → Filled bs w1 w f → Q .normal (act f) w) : (Code.region id ops true).wp P Q (act f0) w1 := by
  obtain ⟨a1, a2, a3⟩ := apartB_apart phi hA
  exact wp_region_gv act f0 hm hc _ _ a1 hs ⟨a2, a3⟩ fun f w hB h hF => hQ f w hB (fun i t hit => h _ (lv_mem hit)) hF
/-- the last operation waits for all others -/
theorem wp_region_pl {P : Program} {ops : Array Oper} {Q : Exit → Act → World → Prop} {pre : Nat → List Nat} {id z : Nat} {w1 : World} (act : (Nat → Value) → Act) (f0 : Nat → Value) (hm : P.follows .mixedOrders = true) (hc : chkN pre ops = true) (hz : z + 1 = ops.size) (hall : (List.range z).all (fun i => (pre z).contains i) = true) (its : Its) (phi : Nat → Value → Prop) (bs : List Blk) (hA : apartB its bs z = true)
    (hs : ∀ i, i < z → Does P ops Q pre act (lv its phi) bs w1 i)
    (hlast : ∀ f w, Bel w1 w → (∀ i t, (i, t) ∈ its → phi i (f t)) → Filled bs w1 w f → wpOp P ops Q z (fun a' w' => Q .normal a' w') (act f) w) : (Code.region id ops true).wp P Q (act f0) w1 := by
  obtain ⟨a1, a2, a3⟩ := apartB_apart phi hA
  have hall' : ∀ i, i < z → i ∈ pre z := fun i hi => by
    have := List.all_eq_true.1 hall i (List.mem_range.2 hi)
    simpa [List.contains_eq_mem] using this
  exact wp_region_last act f0 hm hc hz hall' _ _ a1 hs ⟨a2, a3⟩ fun f w hB h hF => hlast f w hB (fun i t hit => h _ (lv_mem hit)) hF
/-- an operation that leaves a value -/
theorem does_val {P : Program} {ops : Array Oper} {Q : Exit → Act → World → Prop} {pre : Nat → List Nat} {act : (Nat → Value) → Act} {its : Its} {phi : Nat → Value → Prop} {bs : List Blk} {w1 : World} {i : Nat} (t : Nat) (hit : (i, t) ∈ its)
    (h : ∀ f w, Bel w1 w → (∀ j s, (j, s) ∈ its → j ∈ pre i → phi j (f s)) → wpOp P ops Q i (fun a' w' => ∃ v, a' = act (tset f t v) ∧ phi i v ∧ Bel w w') (act f) w) : Does P ops Q pre act (lv its phi) bs w1 i :=
  .value t (phi i) (lv_mem hit) fun f w hB hp => h f w hB fun j s hj hji => hp (j, s, phi j) (lv_mem hj) hji
end Go.Proofs.Ytniljnidpcgjgaa

/- The regions of law 7 and ref07 that draw their order. -/
namespace Go.Proofs.Ytniljnidpcgjgaa
open Go.RowKit
set_option linter.unusedVariables false

def same7_regPre (i : Nat) : List Nat := match i with | 2 => [0, 1] | 3 => [2] | 6 => [4, 5] | 7 => [6] | 8 => [3, 7] | _ => []
def same7_regIts : Its := [(0, 16), (1, 17), (2, 18), (3, 19), (4, 20), (5, 21), (6, 22), (7, 23), (8, 24)]
def same7_regPhi (A B oa ob n ca cb m : Nat) (x y : Int) (i : Nat) (z : Value) : Prop := match i with
  | 0 => z = .slice (some ⟨A, oa, none⟩) n ca
  | 1 => z = .int .i64 (m : Int)
  | 2 => z = .pointer (some ⟨A, oa + m, none⟩)
  | 3 => z = .int .i64 x
  | 4 => z = .slice (some ⟨B, ob, none⟩) n cb
  | 5 => z = .int .i64 (m : Int)
  | 6 => z = .pointer (some ⟨B, ob + m, none⟩)
  | 7 => z = .int .i64 y
  | 8 => z = .bool (x != y)
  | _ => True
set_option maxHeartbeats 4000000 in
theorem same7_reg {Q : Exit → Act → World → Prop} {ops : Array Oper} {id : Nat} {w1 : World} (a0 : Act) (A B oa ob n ca cb m : Nat) (x y : Int)
    (k0 : OpAt ops 0 (some 16) (.move (.tmp 0)) none)
    (k1 : OpAt ops 1 (some 17) (.move (.tmp 5)) none)
    (k2 : OpAt ops 2 (some 18) (.indexAddr 22 (.tmp 16) (.tmp 17)) none)
    (k3 : OpAt ops 3 (some 19) (.load 3 (.tmp 18)) none)
    (k4 : OpAt ops 4 (some 20) (.move (.tmp 1)) none)
    (k5 : OpAt ops 5 (some 21) (.move (.tmp 5)) none)
    (k6 : OpAt ops 6 (some 22) (.indexAddr 22 (.tmp 20) (.tmp 21)) none)
    (k7 : OpAt ops 7 (some 23) (.load 3 (.tmp 22)) none)
    (k8 : OpAt ops 8 (some 24) (.binOp .neq 3 (.tmp 19) (.tmp 23) 3) none)
    (hn : ops.size = 9) (hchk : chkN same7_regPre ops = true) (hsz : a0.tmps.size = 26) (e0 : a0.eval (.tmp 0) = .slice (some ⟨A, oa, none⟩) n ca) (e1 : a0.eval (.tmp 1) = .slice (some ⟨B, ob, none⟩) n cb) (e5 : a0.eval (.tmp 5) = .int .i64 (m : Int)) 
    (hlt : m < n)
    (cA : ∀ w, Bel w1 w → w.cell? ⟨A, oa + m, none⟩ = some (.int .i64 x))
    (cB : ∀ w, Bel w1 w → w.cell? ⟨B, ob + m, none⟩ = some (.int .i64 y))
    (hQ : ∀ f w, Bel w1 w → ((f 24) = .bool (x != y)) → Q .normal (actOf a0 [16, 17, 18, 19, 20, 21, 22, 23, 24] f) w) : (Code.region id ops true).wp Try.prog Q a0 w1 := by
  obtain ⟨ds, hds⟩ : ∃ ds, ds = [16, 17, 18, 19, 20, 21, 22, 23, 24] := ⟨_, rfl⟩
  rw [← hds] at hQ
  have out : ∀ f t, t ∉ ds → (actOf a0 ds f).eval (.tmp t) = a0.eval (.tmp t) := fun f t h => actOf_out a0 _ f h
  have inn : ∀ f t, t ∈ ds → t < 26 → (actOf a0 ds f).eval (.tmp t) = f t := fun f t h h2 => actOf_in a0 _ f h (by rw [hsz]; exact h2)
  rw [← actOf_self a0 ds]
  refine wp_region_pv (pre := same7_regPre) (actOf a0 ds) (fun t => a0.eval (.tmp t)) (by kernel_rfl) hchk same7_regIts (same7_regPhi A B oa ob n ca cb m x y) [] (by rw [hn]; decide +kernel) ?_ ?_
  · intro i hi
    rw [hn] at hi
    match i, hi with
    | 0, _ =>
      obtain ⟨o, o1, o2, o3, o4⟩ := k0
      exact does_val 16 (by decide) fun f w hB h => wpOp_go o1 o4 (step_move (d := some 16) o2 (Or.inl o3) ((out f 0 (by rw [hds]; decide)).trans e0) ⟨_, (actOf_put _ _ _ (by rw [hds]; decide) _), rfl, Bel.refl _⟩)
    | 1, _ =>
      obtain ⟨o, o1, o2, o3, o4⟩ := k1
      exact does_val 17 (by decide) fun f w hB h => wpOp_go o1 o4 (step_move (d := some 17) o2 (Or.inl o3) ((out f 5 (by rw [hds]; decide)).trans e5) ⟨_, (actOf_put _ _ _ (by rw [hds]; decide) _), rfl, Bel.refl _⟩)
    | 2, _ =>
      obtain ⟨o, o1, o2, o3, o4⟩ := k2
      exact does_val 18 (by decide) fun f w hB h => wpOp_go o1 o4 (step_indexM (d := some 18) o2 o3 ((inn f 16 (by rw [hds]; decide) (by decide)).trans (h 0 16 (by decide) (by decide))) ((inn f 17 (by rw [hds]; decide) (by decide)).trans (h 1 17 (by decide) (by decide))) (index_ints _ _ _ _ _ hlt _) ⟨_, (actOf_put _ _ _ (by rw [hds]; decide) _), rfl, Bel.refl _⟩)
    | 3, _ =>
      obtain ⟨o, o1, o2, o3, o4⟩ := k3
      exact does_val 19 (by decide) fun f w hB h => wpOp_go o1 o4 (step_load (d := some 19) o2 o3 ((inn f 18 (by rw [hds]; decide) (by decide)).trans (h 2 18 (by decide) (by decide))) (load_int (cA _ hB)) ⟨_, (actOf_put _ _ _ (by rw [hds]; decide) _), rfl, Bel.refl _⟩)
    | 4, _ =>
      obtain ⟨o, o1, o2, o3, o4⟩ := k4
      exact does_val 20 (by decide) fun f w hB h => wpOp_go o1 o4 (step_move (d := some 20) o2 (Or.inl o3) ((out f 1 (by rw [hds]; decide)).trans e1) ⟨_, (actOf_put _ _ _ (by rw [hds]; decide) _), rfl, Bel.refl _⟩)
    | 5, _ =>
      obtain ⟨o, o1, o2, o3, o4⟩ := k5
      exact does_val 21 (by decide) fun f w hB h => wpOp_go o1 o4 (step_move (d := some 21) o2 (Or.inl o3) ((out f 5 (by rw [hds]; decide)).trans e5) ⟨_, (actOf_put _ _ _ (by rw [hds]; decide) _), rfl, Bel.refl _⟩)
    | 6, _ =>
      obtain ⟨o, o1, o2, o3, o4⟩ := k6
      exact does_val 22 (by decide) fun f w hB h => wpOp_go o1 o4 (step_indexM (d := some 22) o2 o3 ((inn f 20 (by rw [hds]; decide) (by decide)).trans (h 4 20 (by decide) (by decide))) ((inn f 21 (by rw [hds]; decide) (by decide)).trans (h 5 21 (by decide) (by decide))) (index_ints _ _ _ _ _ hlt _) ⟨_, (actOf_put _ _ _ (by rw [hds]; decide) _), rfl, Bel.refl _⟩)
    | 7, _ =>
      obtain ⟨o, o1, o2, o3, o4⟩ := k7
      exact does_val 23 (by decide) fun f w hB h => wpOp_go o1 o4 (step_load (d := some 23) o2 o3 ((inn f 22 (by rw [hds]; decide) (by decide)).trans (h 6 22 (by decide) (by decide))) (load_int (cB _ hB)) ⟨_, (actOf_put _ _ _ (by rw [hds]; decide) _), rfl, Bel.refl _⟩)
    | 8, _ =>
      obtain ⟨o, o1, o2, o3, o4⟩ := k8
      exact does_val 24 (by decide) fun f w hB h => wpOp_go o1 o4 (step_bin (d := some 24) o2 o3 ((inn f 19 (by rw [hds]; decide) (by decide)).trans (h 3 19 (by decide) (by decide))) ((inn f 23 (by rw [hds]; decide) (by decide)).trans (h 7 23 (by decide) (by decide))) (grd_ints _ _ _ _ _ _ _) (by simp [go_sem]) ⟨_, (actOf_put _ _ _ (by rw [hds]; decide) _), rfl, Bel.refl _⟩)
    | (m + 9), hi => exact absurd hi (by omega)
  · intro f w hB h _
    exact hQ f w hB (h 8 24 (by decide))
def num7_regPre (i : Nat) : List Nat := match i with | 2 => [0, 1] | 3 => [2] | 4 => [3] | 5 => [4] | 6 => [5] | 7 => [5] | 8 => [5, 6, 7] | 9 => [5, 8] | 10 => [5] | 11 => [5] | 12 => [5, 10, 11] | 13 => [5, 12] | 14 => [5, 9, 13] | 15 => [5, 14] | _ => []
def num7_regIts : Its := [(0, 25), (1, 26), (2, 27), (3, 28), (4, 29), (5, 30), (6, 31), (7, 32), (8, 33), (9, 34), (10, 35), (11, 36), (12, 37), (13, 38), (14, 39), (15, 40)]
def num7_regPhi (A B oa ob n ca cb m : Nat) (x y : Int) (i : Nat) (z : Value) : Prop := match i with
  | 0 => z = .slice (some ⟨A, oa, none⟩) n ca
  | 1 => z = .int .i64 (m : Int)
  | 2 => z = .pointer (some ⟨A, oa + m, none⟩)
  | 3 => z = .int .i64 x
  | 4 => z = .bool false
  | 5 => z = .bool false
  | 6 => z = .slice (some ⟨A, oa, none⟩) n ca
  | 7 => z = .int .i64 (m : Int)
  | 8 => z = .pointer (some ⟨A, oa + m, none⟩)
  | 9 => z = .int .i64 x
  | 10 => z = .slice (some ⟨B, ob, none⟩) n cb
  | 11 => z = .int .i64 (m : Int)
  | 12 => z = .pointer (some ⟨B, ob + m, none⟩)
  | 13 => z = .int .i64 y
  | 14 => z = .bool (decide (y ≤ x))
  | 15 => z = .bool (decide (y ≤ x))
  | _ => True
set_option maxHeartbeats 4000000 in
theorem num7_reg {Q : Exit → Act → World → Prop} {ops : Array Oper} {id : Nat} {w1 : World} (a0 : Act) (A B oa ob n ca cb m : Nat) (x y : Int)
    (k0 : OpAt ops 0 (some 25) (.move (.tmp 0)) none)
    (k1 : OpAt ops 1 (some 26) (.move (.tmp 9)) none)
    (k2 : OpAt ops 2 (some 27) (.indexAddr 22 (.tmp 25) (.tmp 26)) none)
    (k3 : OpAt ops 3 (some 28) (.load 3 (.tmp 27)) none)
    (k4 : OpAt ops 4 (some 29) (.binOp .lss 3 (.tmp 28) (.const (.int .i64 0)) 3) none)
    (k5 : OpAt ops 5 (some 30) (.move (.tmp 29)) none)
    (k6 : OpAt ops 6 (some 31) (.move (.tmp 0)) (some (5, false)))
    (k7 : OpAt ops 7 (some 32) (.move (.tmp 9)) (some (5, false)))
    (k8 : OpAt ops 8 (some 33) (.indexAddr 22 (.tmp 31) (.tmp 32)) (some (5, false)))
    (k9 : OpAt ops 9 (some 34) (.load 3 (.tmp 33)) (some (5, false)))
    (k10 : OpAt ops 10 (some 35) (.move (.tmp 1)) (some (5, false)))
    (k11 : OpAt ops 11 (some 36) (.move (.tmp 9)) (some (5, false)))
    (k12 : OpAt ops 12 (some 37) (.indexAddr 22 (.tmp 35) (.tmp 36)) (some (5, false)))
    (k13 : OpAt ops 13 (some 38) (.load 3 (.tmp 37)) (some (5, false)))
    (k14 : OpAt ops 14 (some 39) (.binOp .geq 3 (.tmp 34) (.tmp 38) 3) (some (5, false)))
    (k15 : OpAt ops 15 (some 40) (.pick (.tmp 30) (.const (.bool true)) (.tmp 39)) none)
    (hn : ops.size = 16) (hchk : chkN num7_regPre ops = true) (hsz : a0.tmps.size = 56) (e0 : a0.eval (.tmp 0) = .slice (some ⟨A, oa, none⟩) n ca) (e1 : a0.eval (.tmp 1) = .slice (some ⟨B, ob, none⟩) n cb) (e9 : a0.eval (.tmp 9) = .int .i64 (m : Int)) 
    (hlt : m < n) (hx : ¬ x < 0)
    (cA : ∀ w, Bel w1 w → w.cell? ⟨A, oa + m, none⟩ = some (.int .i64 x))
    (cB : ∀ w, Bel w1 w → w.cell? ⟨B, ob + m, none⟩ = some (.int .i64 y))
    (hQ : ∀ f w, Bel w1 w → ((f 40) = .bool (decide (y ≤ x))) → Q .normal (actOf a0 [25, 26, 27, 28, 29, 30, 31, 32, 33, 34, 35, 36, 37, 38, 39, 40] f) w) : (Code.region id ops true).wp Try.prog Q a0 w1 := by
  obtain ⟨ds, hds⟩ : ∃ ds, ds = [25, 26, 27, 28, 29, 30, 31, 32, 33, 34, 35, 36, 37, 38, 39, 40] := ⟨_, rfl⟩
  rw [← hds] at hQ
  have out : ∀ f t, t ∉ ds → (actOf a0 ds f).eval (.tmp t) = a0.eval (.tmp t) := fun f t h => actOf_out a0 _ f h
  have inn : ∀ f t, t ∈ ds → t < 56 → (actOf a0 ds f).eval (.tmp t) = f t := fun f t h h2 => actOf_in a0 _ f h (by rw [hsz]; exact h2)
  rw [← actOf_self a0 ds]
  refine wp_region_pv (pre := num7_regPre) (actOf a0 ds) (fun t => a0.eval (.tmp t)) (by kernel_rfl) hchk num7_regIts (num7_regPhi A B oa ob n ca cb m x y) [] (by rw [hn]; decide +kernel) ?_ ?_
  · intro i hi
    rw [hn] at hi
    match i, hi with
    | 0, _ =>
      obtain ⟨o, o1, o2, o3, o4⟩ := k0
      exact does_val 25 (by decide) fun f w hB h => wpOp_go o1 o4 (step_move (d := some 25) o2 (Or.inl o3) ((out f 0 (by rw [hds]; decide)).trans e0) ⟨_, (actOf_put _ _ _ (by rw [hds]; decide) _), rfl, Bel.refl _⟩)
    | 1, _ =>
      obtain ⟨o, o1, o2, o3, o4⟩ := k1
      exact does_val 26 (by decide) fun f w hB h => wpOp_go o1 o4 (step_move (d := some 26) o2 (Or.inl o3) ((out f 9 (by rw [hds]; decide)).trans e9) ⟨_, (actOf_put _ _ _ (by rw [hds]; decide) _), rfl, Bel.refl _⟩)
    | 2, _ =>
      obtain ⟨o, o1, o2, o3, o4⟩ := k2
      exact does_val 27 (by decide) fun f w hB h => wpOp_go o1 o4 (step_indexM (d := some 27) o2 o3 ((inn f 25 (by rw [hds]; decide) (by decide)).trans (h 0 25 (by decide) (by decide))) ((inn f 26 (by rw [hds]; decide) (by decide)).trans (h 1 26 (by decide) (by decide))) (index_ints _ _ _ _ _ hlt _) ⟨_, (actOf_put _ _ _ (by rw [hds]; decide) _), rfl, Bel.refl _⟩)
    | 3, _ =>
      obtain ⟨o, o1, o2, o3, o4⟩ := k3
      exact does_val 28 (by decide) fun f w hB h => wpOp_go o1 o4 (step_load (d := some 28) o2 o3 ((inn f 27 (by rw [hds]; decide) (by decide)).trans (h 2 27 (by decide) (by decide))) (load_int (cA _ hB)) ⟨_, (actOf_put _ _ _ (by rw [hds]; decide) _), rfl, Bel.refl _⟩)
    | 4, _ =>
      obtain ⟨o, o1, o2, o3, o4⟩ := k4
      exact does_val 29 (by decide) fun f w hB h => wpOp_go o1 o4 (step_bin (d := some 29) o2 o3 ((inn f 28 (by rw [hds]; decide) (by decide)).trans (h 3 28 (by decide) (by decide))) rfl (grd_ints _ _ _ _ _ _ _) (by simp [go_sem]; omega) ⟨_, (actOf_put _ _ _ (by rw [hds]; decide) _), rfl, Bel.refl _⟩)
    | 5, _ =>
      obtain ⟨o, o1, o2, o3, o4⟩ := k5
      exact does_val 30 (by decide) fun f w hB h => wpOp_go o1 o4 (step_move (d := some 30) o2 (Or.inl o3) ((inn f 29 (by rw [hds]; decide) (by decide)).trans (h 4 29 (by decide) (by decide))) ⟨_, (actOf_put _ _ _ (by rw [hds]; decide) _), rfl, Bel.refl _⟩)
    | 6, _ =>
      obtain ⟨o, o1, o2, o3, o4⟩ := k6
      exact does_val 31 (by decide) fun f w hB h => wpOp_if o1 o4 k5.dst ((inn f 30 (by rw [hds]; decide) (by decide)).trans (h 5 30 (by decide) (by decide))) (step_move (d := some 31) o2 (Or.inl o3) ((out f 0 (by rw [hds]; decide)).trans e0) ⟨_, (actOf_put _ _ _ (by rw [hds]; decide) _), rfl, Bel.refl _⟩)
    | 7, _ =>
      obtain ⟨o, o1, o2, o3, o4⟩ := k7
      exact does_val 32 (by decide) fun f w hB h => wpOp_if o1 o4 k5.dst ((inn f 30 (by rw [hds]; decide) (by decide)).trans (h 5 30 (by decide) (by decide))) (step_move (d := some 32) o2 (Or.inl o3) ((out f 9 (by rw [hds]; decide)).trans e9) ⟨_, (actOf_put _ _ _ (by rw [hds]; decide) _), rfl, Bel.refl _⟩)
    | 8, _ =>
      obtain ⟨o, o1, o2, o3, o4⟩ := k8
      exact does_val 33 (by decide) fun f w hB h => wpOp_if o1 o4 k5.dst ((inn f 30 (by rw [hds]; decide) (by decide)).trans (h 5 30 (by decide) (by decide))) (step_indexM (d := some 33) o2 o3 ((inn f 31 (by rw [hds]; decide) (by decide)).trans (h 6 31 (by decide) (by decide))) ((inn f 32 (by rw [hds]; decide) (by decide)).trans (h 7 32 (by decide) (by decide))) (index_ints _ _ _ _ _ hlt _) ⟨_, (actOf_put _ _ _ (by rw [hds]; decide) _), rfl, Bel.refl _⟩)
    | 9, _ =>
      obtain ⟨o, o1, o2, o3, o4⟩ := k9
      exact does_val 34 (by decide) fun f w hB h => wpOp_if o1 o4 k5.dst ((inn f 30 (by rw [hds]; decide) (by decide)).trans (h 5 30 (by decide) (by decide))) (step_load (d := some 34) o2 o3 ((inn f 33 (by rw [hds]; decide) (by decide)).trans (h 8 33 (by decide) (by decide))) (load_int (cA _ hB)) ⟨_, (actOf_put _ _ _ (by rw [hds]; decide) _), rfl, Bel.refl _⟩)
    | 10, _ =>
      obtain ⟨o, o1, o2, o3, o4⟩ := k10
      exact does_val 35 (by decide) fun f w hB h => wpOp_if o1 o4 k5.dst ((inn f 30 (by rw [hds]; decide) (by decide)).trans (h 5 30 (by decide) (by decide))) (step_move (d := some 35) o2 (Or.inl o3) ((out f 1 (by rw [hds]; decide)).trans e1) ⟨_, (actOf_put _ _ _ (by rw [hds]; decide) _), rfl, Bel.refl _⟩)
    | 11, _ =>
      obtain ⟨o, o1, o2, o3, o4⟩ := k11
      exact does_val 36 (by decide) fun f w hB h => wpOp_if o1 o4 k5.dst ((inn f 30 (by rw [hds]; decide) (by decide)).trans (h 5 30 (by decide) (by decide))) (step_move (d := some 36) o2 (Or.inl o3) ((out f 9 (by rw [hds]; decide)).trans e9) ⟨_, (actOf_put _ _ _ (by rw [hds]; decide) _), rfl, Bel.refl _⟩)
    | 12, _ =>
      obtain ⟨o, o1, o2, o3, o4⟩ := k12
      exact does_val 37 (by decide) fun f w hB h => wpOp_if o1 o4 k5.dst ((inn f 30 (by rw [hds]; decide) (by decide)).trans (h 5 30 (by decide) (by decide))) (step_indexM (d := some 37) o2 o3 ((inn f 35 (by rw [hds]; decide) (by decide)).trans (h 10 35 (by decide) (by decide))) ((inn f 36 (by rw [hds]; decide) (by decide)).trans (h 11 36 (by decide) (by decide))) (index_ints _ _ _ _ _ hlt _) ⟨_, (actOf_put _ _ _ (by rw [hds]; decide) _), rfl, Bel.refl _⟩)
    | 13, _ =>
      obtain ⟨o, o1, o2, o3, o4⟩ := k13
      exact does_val 38 (by decide) fun f w hB h => wpOp_if o1 o4 k5.dst ((inn f 30 (by rw [hds]; decide) (by decide)).trans (h 5 30 (by decide) (by decide))) (step_load (d := some 38) o2 o3 ((inn f 37 (by rw [hds]; decide) (by decide)).trans (h 12 37 (by decide) (by decide))) (load_int (cB _ hB)) ⟨_, (actOf_put _ _ _ (by rw [hds]; decide) _), rfl, Bel.refl _⟩)
    | 14, _ =>
      obtain ⟨o, o1, o2, o3, o4⟩ := k14
      exact does_val 39 (by decide) fun f w hB h => wpOp_if o1 o4 k5.dst ((inn f 30 (by rw [hds]; decide) (by decide)).trans (h 5 30 (by decide) (by decide))) (step_bin (d := some 39) o2 o3 ((inn f 34 (by rw [hds]; decide) (by decide)).trans (h 9 34 (by decide) (by decide))) ((inn f 38 (by rw [hds]; decide) (by decide)).trans (h 13 38 (by decide) (by decide))) (grd_ints _ _ _ _ _ _ _) (by simp [go_sem]) ⟨_, (actOf_put _ _ _ (by rw [hds]; decide) _), rfl, Bel.refl _⟩)
    | 15, _ =>
      obtain ⟨o, o1, o2, o3, o4⟩ := k15
      exact does_val 40 (by decide) fun f w hB h => wpOp_go o1 o4 (step_pickf (d := some 40) o2 o3 ((inn f 30 (by rw [hds]; decide) (by decide)).trans (h 5 30 (by decide) (by decide))) ((inn f 39 (by rw [hds]; decide) (by decide)).trans (h 14 39 (by decide) (by decide))) ⟨_, (actOf_put _ _ _ (by rw [hds]; decide) _), rfl, Bel.refl _⟩)
    | (m + 16), hi => exact absurd hi (by omega)
  · intro f w hB h _
    exact hQ f w hB (h 15 40 (by decide))
def numneg7_regPre (i : Nat) : List Nat := match i with | 2 => [0, 1] | 3 => [2] | 4 => [3] | 5 => [4] | 6 => [5] | 7 => [5] | 8 => [5, 6, 7] | 9 => [5, 8] | 10 => [5] | 11 => [5] | 12 => [5, 10, 11] | 13 => [5, 12] | 14 => [5, 9, 13] | 15 => [5, 14] | _ => []
def numneg7_regIts : Its := [(0, 25), (1, 26), (2, 27), (3, 28), (4, 29), (5, 30), (6, 31), (7, 32), (8, 33), (9, 34), (10, 35), (11, 36), (12, 37), (13, 38), (14, 39), (15, 40)]
def numneg7_regPhi (A B oa ob n ca cb m : Nat) (x y : Int) (i : Nat) (z : Value) : Prop := match i with
  | 0 => z = .slice (some ⟨A, oa, none⟩) n ca
  | 1 => z = .int .i64 (m : Int)
  | 2 => z = .pointer (some ⟨A, oa + m, none⟩)
  | 3 => z = .int .i64 x
  | 4 => z = .bool true
  | 5 => z = .bool true
  | 6 => z = undef
  | 7 => z = undef
  | 8 => z = undef
  | 9 => z = undef
  | 10 => z = undef
  | 11 => z = undef
  | 12 => z = undef
  | 13 => z = undef
  | 14 => z = undef
  | 15 => z = .bool true
  | _ => True
set_option maxHeartbeats 4000000 in
theorem numneg7_reg {Q : Exit → Act → World → Prop} {ops : Array Oper} {id : Nat} {w1 : World} (a0 : Act) (A B oa ob n ca cb m : Nat) (x y : Int)
    (k0 : OpAt ops 0 (some 25) (.move (.tmp 0)) none)
    (k1 : OpAt ops 1 (some 26) (.move (.tmp 9)) none)
    (k2 : OpAt ops 2 (some 27) (.indexAddr 22 (.tmp 25) (.tmp 26)) none)
    (k3 : OpAt ops 3 (some 28) (.load 3 (.tmp 27)) none)
    (k4 : OpAt ops 4 (some 29) (.binOp .lss 3 (.tmp 28) (.const (.int .i64 0)) 3) none)
    (k5 : OpAt ops 5 (some 30) (.move (.tmp 29)) none)
    (k6 : OpAt ops 6 (some 31) (.move (.tmp 0)) (some (5, false)))
    (k7 : OpAt ops 7 (some 32) (.move (.tmp 9)) (some (5, false)))
    (k8 : OpAt ops 8 (some 33) (.indexAddr 22 (.tmp 31) (.tmp 32)) (some (5, false)))
    (k9 : OpAt ops 9 (some 34) (.load 3 (.tmp 33)) (some (5, false)))
    (k10 : OpAt ops 10 (some 35) (.move (.tmp 1)) (some (5, false)))
    (k11 : OpAt ops 11 (some 36) (.move (.tmp 9)) (some (5, false)))
    (k12 : OpAt ops 12 (some 37) (.indexAddr 22 (.tmp 35) (.tmp 36)) (some (5, false)))
    (k13 : OpAt ops 13 (some 38) (.load 3 (.tmp 37)) (some (5, false)))
    (k14 : OpAt ops 14 (some 39) (.binOp .geq 3 (.tmp 34) (.tmp 38) 3) (some (5, false)))
    (k15 : OpAt ops 15 (some 40) (.pick (.tmp 30) (.const (.bool true)) (.tmp 39)) none)
    (hn : ops.size = 16) (hchk : chkN numneg7_regPre ops = true) (hsz : a0.tmps.size = 56) (e0 : a0.eval (.tmp 0) = .slice (some ⟨A, oa, none⟩) n ca) (e1 : a0.eval (.tmp 1) = .slice (some ⟨B, ob, none⟩) n cb) (e9 : a0.eval (.tmp 9) = .int .i64 (m : Int)) 
    (hlt : m < n) (hx : x < 0)
    (cA : ∀ w, Bel w1 w → w.cell? ⟨A, oa + m, none⟩ = some (.int .i64 x))
    (hQ : ∀ f w, Bel w1 w → ((f 40) = .bool true) → Q .normal (actOf a0 [25, 26, 27, 28, 29, 30, 31, 32, 33, 34, 35, 36, 37, 38, 39, 40] f) w) : (Code.region id ops true).wp Try.prog Q a0 w1 := by
  obtain ⟨ds, hds⟩ : ∃ ds, ds = [25, 26, 27, 28, 29, 30, 31, 32, 33, 34, 35, 36, 37, 38, 39, 40] := ⟨_, rfl⟩
  rw [← hds] at hQ
  have out : ∀ f t, t ∉ ds → (actOf a0 ds f).eval (.tmp t) = a0.eval (.tmp t) := fun f t h => actOf_out a0 _ f h
  have inn : ∀ f t, t ∈ ds → t < 56 → (actOf a0 ds f).eval (.tmp t) = f t := fun f t h h2 => actOf_in a0 _ f h (by rw [hsz]; exact h2)
  rw [← actOf_self a0 ds]
  refine wp_region_pv (pre := numneg7_regPre) (actOf a0 ds) (fun t => a0.eval (.tmp t)) (by kernel_rfl) hchk numneg7_regIts (numneg7_regPhi A B oa ob n ca cb m x y) [] (by rw [hn]; decide +kernel) ?_ ?_
  · intro i hi
    rw [hn] at hi
    match i, hi with
    | 0, _ =>
      obtain ⟨o, o1, o2, o3, o4⟩ := k0
      exact does_val 25 (by decide) fun f w hB h => wpOp_go o1 o4 (step_move (d := some 25) o2 (Or.inl o3) ((out f 0 (by rw [hds]; decide)).trans e0) ⟨_, (actOf_put _ _ _ (by rw [hds]; decide) _), rfl, Bel.refl _⟩)
    | 1, _ =>
      obtain ⟨o, o1, o2, o3, o4⟩ := k1
      exact does_val 26 (by decide) fun f w hB h => wpOp_go o1 o4 (step_move (d := some 26) o2 (Or.inl o3) ((out f 9 (by rw [hds]; decide)).trans e9) ⟨_, (actOf_put _ _ _ (by rw [hds]; decide) _), rfl, Bel.refl _⟩)
    | 2, _ =>
      obtain ⟨o, o1, o2, o3, o4⟩ := k2
      exact does_val 27 (by decide) fun f w hB h => wpOp_go o1 o4 (step_indexM (d := some 27) o2 o3 ((inn f 25 (by rw [hds]; decide) (by decide)).trans (h 0 25 (by decide) (by decide))) ((inn f 26 (by rw [hds]; decide) (by decide)).trans (h 1 26 (by decide) (by decide))) (index_ints _ _ _ _ _ hlt _) ⟨_, (actOf_put _ _ _ (by rw [hds]; decide) _), rfl, Bel.refl _⟩)
    | 3, _ =>
      obtain ⟨o, o1, o2, o3, o4⟩ := k3
      exact does_val 28 (by decide) fun f w hB h => wpOp_go o1 o4 (step_load (d := some 28) o2 o3 ((inn f 27 (by rw [hds]; decide) (by decide)).trans (h 2 27 (by decide) (by decide))) (load_int (cA _ hB)) ⟨_, (actOf_put _ _ _ (by rw [hds]; decide) _), rfl, Bel.refl _⟩)
    | 4, _ =>
      obtain ⟨o, o1, o2, o3, o4⟩ := k4
      exact does_val 29 (by decide) fun f w hB h => wpOp_go o1 o4 (step_bin (d := some 29) o2 o3 ((inn f 28 (by rw [hds]; decide) (by decide)).trans (h 3 28 (by decide) (by decide))) rfl (grd_ints _ _ _ _ _ _ _) (by simp [go_sem]; omega) ⟨_, (actOf_put _ _ _ (by rw [hds]; decide) _), rfl, Bel.refl _⟩)
    | 5, _ =>
      obtain ⟨o, o1, o2, o3, o4⟩ := k5
      exact does_val 30 (by decide) fun f w hB h => wpOp_go o1 o4 (step_move (d := some 30) o2 (Or.inl o3) ((inn f 29 (by rw [hds]; decide) (by decide)).trans (h 4 29 (by decide) (by decide))) ⟨_, (actOf_put _ _ _ (by rw [hds]; decide) _), rfl, Bel.refl _⟩)
    | 6, _ =>
      obtain ⟨o, o1, o2, o3, o4⟩ := k6
      exact does_val 31 (by decide) fun f w hB h => wpOp_skip o1 o2 o4 k5.dst ((inn f 30 (by rw [hds]; decide) (by decide)).trans (h 5 30 (by decide) (by decide))) ⟨_, actOf_put _ _ _ (by rw [hds]; decide) _, rfl, Bel.refl _⟩
    | 7, _ =>
      obtain ⟨o, o1, o2, o3, o4⟩ := k7
      exact does_val 32 (by decide) fun f w hB h => wpOp_skip o1 o2 o4 k5.dst ((inn f 30 (by rw [hds]; decide) (by decide)).trans (h 5 30 (by decide) (by decide))) ⟨_, actOf_put _ _ _ (by rw [hds]; decide) _, rfl, Bel.refl _⟩
    | 8, _ =>
      obtain ⟨o, o1, o2, o3, o4⟩ := k8
      exact does_val 33 (by decide) fun f w hB h => wpOp_skip o1 o2 o4 k5.dst ((inn f 30 (by rw [hds]; decide) (by decide)).trans (h 5 30 (by decide) (by decide))) ⟨_, actOf_put _ _ _ (by rw [hds]; decide) _, rfl, Bel.refl _⟩
    | 9, _ =>
      obtain ⟨o, o1, o2, o3, o4⟩ := k9
      exact does_val 34 (by decide) fun f w hB h => wpOp_skip o1 o2 o4 k5.dst ((inn f 30 (by rw [hds]; decide) (by decide)).trans (h 5 30 (by decide) (by decide))) ⟨_, actOf_put _ _ _ (by rw [hds]; decide) _, rfl, Bel.refl _⟩
    | 10, _ =>
      obtain ⟨o, o1, o2, o3, o4⟩ := k10
      exact does_val 35 (by decide) fun f w hB h => wpOp_skip o1 o2 o4 k5.dst ((inn f 30 (by rw [hds]; decide) (by decide)).trans (h 5 30 (by decide) (by decide))) ⟨_, actOf_put _ _ _ (by rw [hds]; decide) _, rfl, Bel.refl _⟩
    | 11, _ =>
      obtain ⟨o, o1, o2, o3, o4⟩ := k11
      exact does_val 36 (by decide) fun f w hB h => wpOp_skip o1 o2 o4 k5.dst ((inn f 30 (by rw [hds]; decide) (by decide)).trans (h 5 30 (by decide) (by decide))) ⟨_, actOf_put _ _ _ (by rw [hds]; decide) _, rfl, Bel.refl _⟩
    | 12, _ =>
      obtain ⟨o, o1, o2, o3, o4⟩ := k12
      exact does_val 37 (by decide) fun f w hB h => wpOp_skip o1 o2 o4 k5.dst ((inn f 30 (by rw [hds]; decide) (by decide)).trans (h 5 30 (by decide) (by decide))) ⟨_, actOf_put _ _ _ (by rw [hds]; decide) _, rfl, Bel.refl _⟩
    | 13, _ =>
      obtain ⟨o, o1, o2, o3, o4⟩ := k13
      exact does_val 38 (by decide) fun f w hB h => wpOp_skip o1 o2 o4 k5.dst ((inn f 30 (by rw [hds]; decide) (by decide)).trans (h 5 30 (by decide) (by decide))) ⟨_, actOf_put _ _ _ (by rw [hds]; decide) _, rfl, Bel.refl _⟩
    | 14, _ =>
      obtain ⟨o, o1, o2, o3, o4⟩ := k14
      exact does_val 39 (by decide) fun f w hB h => wpOp_skip o1 o2 o4 k5.dst ((inn f 30 (by rw [hds]; decide) (by decide)).trans (h 5 30 (by decide) (by decide))) ⟨_, actOf_put _ _ _ (by rw [hds]; decide) _, rfl, Bel.refl _⟩
    | 15, _ =>
      obtain ⟨o, o1, o2, o3, o4⟩ := k15
      exact does_val 40 (by decide) fun f w hB h => wpOp_go o1 o4 (step_pick (d := some 40) o2 o3 ((inn f 30 (by rw [hds]; decide) (by decide)).trans (h 5 30 (by decide) (by decide))) rfl ⟨_, (actOf_put _ _ _ (by rw [hds]; decide) _), rfl, Bel.refl _⟩)
    | (m + 16), hi => exact absurd hi (by omega)
  · intro f w hB h _
    exact hQ f w hB (h 15 40 (by decide))
def abc7_regPre (i : Nat) : List Nat := match i with | 1 => [0] | 3 => [2] | 5 => [4] | 6 => [0, 1] | 7 => [0, 1, 2, 3, 6] | 8 => [0, 1, 2, 3, 4, 5, 6, 7] | _ => []
def abc7_regIts : Its := [(0, 19), (1, 20), (2, 21), (3, 22), (4, 23), (5, 24), (6, 7), (7, 8), (8, 9)]
def abc7_regPhi (X : Nat) (x y u : Int) (i : Nat) (z : Value) : Prop := match i with
  | 0 => z = .pointer (some ⟨X, 0, none⟩)
  | 1 => z = .int .i64 x
  | 2 => z = .pointer (some ⟨X, 1, none⟩)
  | 3 => z = .int .i64 y
  | 4 => z = .pointer (some ⟨X, 2, none⟩)
  | 5 => z = .int .i64 u
  | 6 => z = .int .i64 x
  | 7 => z = .int .i64 y
  | 8 => z = .int .i64 u
  | _ => True
set_option maxHeartbeats 4000000 in
theorem abc7_reg {Q : Exit → Act → World → Prop} {ops : Array Oper} {id : Nat} {w1 : World} (a0 : Act) (X : Nat) (x y u : Int)
    (k0 : OpAt ops 0 (some 19) (.indexAddr 42 (.tmp 4) (.const (.int .i64 0))) none)
    (k1 : OpAt ops 1 (some 20) (.load 3 (.tmp 19)) none)
    (k2 : OpAt ops 2 (some 21) (.indexAddr 42 (.tmp 4) (.const (.int .i64 1))) none)
    (k3 : OpAt ops 3 (some 22) (.load 3 (.tmp 21)) none)
    (k4 : OpAt ops 4 (some 23) (.indexAddr 42 (.tmp 4) (.const (.int .i64 2))) none)
    (k5 : OpAt ops 5 (some 24) (.load 3 (.tmp 23)) none)
    (k6 : OpAt ops 6 (some 7) (.assign (.tmp 20)) none)
    (k7 : OpAt ops 7 (some 8) (.assign (.tmp 22)) none)
    (k8 : OpAt ops 8 (some 9) (.assign (.tmp 24)) none)
    (hn : ops.size = 9) (hchk : chkN abc7_regPre ops = true) (hsz : a0.tmps.size = 160) (e4 : a0.eval (.tmp 4) = .pointer (some ⟨X, 0, none⟩)) 
    (c0 : ∀ w, Bel w1 w → w.cell? ⟨X, 0, none⟩ = some (.int .i64 x))
    (c1 : ∀ w, Bel w1 w → w.cell? ⟨X, 1, none⟩ = some (.int .i64 y))
    (c2 : ∀ w, Bel w1 w → w.cell? ⟨X, 2, none⟩ = some (.int .i64 u))
    (hQ : ∀ f w, Bel w1 w → ((f 7) = .int .i64 x) → ((f 8) = .int .i64 y) → ((f 9) = .int .i64 u) → Q .normal (actOf a0 [19, 20, 21, 22, 23, 24, 7, 8, 9] f) w) : (Code.region id ops true).wp Try.prog Q a0 w1 := by
  obtain ⟨ds, hds⟩ : ∃ ds, ds = [19, 20, 21, 22, 23, 24, 7, 8, 9] := ⟨_, rfl⟩
  rw [← hds] at hQ
  have out : ∀ f t, t ∉ ds → (actOf a0 ds f).eval (.tmp t) = a0.eval (.tmp t) := fun f t h => actOf_out a0 _ f h
  have inn : ∀ f t, t ∈ ds → t < 160 → (actOf a0 ds f).eval (.tmp t) = f t := fun f t h h2 => actOf_in a0 _ f h (by rw [hsz]; exact h2)
  rw [← actOf_self a0 ds]
  refine wp_region_pv (pre := abc7_regPre) (actOf a0 ds) (fun t => a0.eval (.tmp t)) (by kernel_rfl) hchk abc7_regIts (abc7_regPhi X x y u) [] (by rw [hn]; decide +kernel) ?_ ?_
  · intro i hi
    rw [hn] at hi
    match i, hi with
    | 0, _ =>
      obtain ⟨o, o1, o2, o3, o4⟩ := k0
      exact does_val 19 (by decide) fun f w hB h => wpOp_go o1 o4 (step_indexM (d := some 19) o2 o3 ((out f 4 (by rw [hds]; decide)).trans e4) rfl (by simp [go_sem]) ⟨_, (actOf_put _ _ _ (by rw [hds]; decide) _), rfl, Bel.refl _⟩)
    | 1, _ =>
      obtain ⟨o, o1, o2, o3, o4⟩ := k1
      exact does_val 20 (by decide) fun f w hB h => wpOp_go o1 o4 (step_load (d := some 20) o2 o3 ((inn f 19 (by rw [hds]; decide) (by decide)).trans (h 0 19 (by decide) (by decide))) (load_int (c0 _ hB)) ⟨_, (actOf_put _ _ _ (by rw [hds]; decide) _), rfl, Bel.refl _⟩)
    | 2, _ =>
      obtain ⟨o, o1, o2, o3, o4⟩ := k2
      exact does_val 21 (by decide) fun f w hB h => wpOp_go o1 o4 (step_indexM (d := some 21) o2 o3 ((out f 4 (by rw [hds]; decide)).trans e4) rfl (by simp [go_sem]) ⟨_, (actOf_put _ _ _ (by rw [hds]; decide) _), rfl, Bel.refl _⟩)
    | 3, _ =>
      obtain ⟨o, o1, o2, o3, o4⟩ := k3
      exact does_val 22 (by decide) fun f w hB h => wpOp_go o1 o4 (step_load (d := some 22) o2 o3 ((inn f 21 (by rw [hds]; decide) (by decide)).trans (h 2 21 (by decide) (by decide))) (load_int (c1 _ hB)) ⟨_, (actOf_put _ _ _ (by rw [hds]; decide) _), rfl, Bel.refl _⟩)
    | 4, _ =>
      obtain ⟨o, o1, o2, o3, o4⟩ := k4
      exact does_val 23 (by decide) fun f w hB h => wpOp_go o1 o4 (step_indexM (d := some 23) o2 o3 ((out f 4 (by rw [hds]; decide)).trans e4) rfl (by simp [go_sem]) ⟨_, (actOf_put _ _ _ (by rw [hds]; decide) _), rfl, Bel.refl _⟩)
    | 5, _ =>
      obtain ⟨o, o1, o2, o3, o4⟩ := k5
      exact does_val 24 (by decide) fun f w hB h => wpOp_go o1 o4 (step_load (d := some 24) o2 o3 ((inn f 23 (by rw [hds]; decide) (by decide)).trans (h 4 23 (by decide) (by decide))) (load_int (c2 _ hB)) ⟨_, (actOf_put _ _ _ (by rw [hds]; decide) _), rfl, Bel.refl _⟩)
    | 6, _ =>
      obtain ⟨o, o1, o2, o3, o4⟩ := k6
      exact does_val 7 (by decide) fun f w hB h => wpOp_go o1 o4 (step_move (d := some 7) o2 (Or.inr o3) ((inn f 20 (by rw [hds]; decide) (by decide)).trans (h 1 20 (by decide) (by decide))) ⟨_, (actOf_put _ _ _ (by rw [hds]; decide) _), rfl, Bel.refl _⟩)
    | 7, _ =>
      obtain ⟨o, o1, o2, o3, o4⟩ := k7
      exact does_val 8 (by decide) fun f w hB h => wpOp_go o1 o4 (step_move (d := some 8) o2 (Or.inr o3) ((inn f 22 (by rw [hds]; decide) (by decide)).trans (h 3 22 (by decide) (by decide))) ⟨_, (actOf_put _ _ _ (by rw [hds]; decide) _), rfl, Bel.refl _⟩)
    | 8, _ =>
      obtain ⟨o, o1, o2, o3, o4⟩ := k8
      exact does_val 9 (by decide) fun f w hB h => wpOp_go o1 o4 (step_move (d := some 9) o2 (Or.inr o3) ((inn f 24 (by rw [hds]; decide) (by decide)).trans (h 5 24 (by decide) (by decide))) ⟨_, (actOf_put _ _ _ (by rw [hds]; decide) _), rfl, Bel.refl _⟩)
    | (m + 9), hi => exact absurd hi (by omega)
  · intro f w hB h _
    exact hQ f w hB (h 6 7 (by decide)) (h 7 8 (by decide)) (h 8 9 (by decide))
def gat7_regPre (i : Nat) : List Nat := match i with | 2 => [0, 1] | 3 => [2] | 8 => [6, 7] | 9 => [5, 8] | 10 => [4, 9] | 11 => [10] | 12 => [3, 11] | _ => []
def gat7_regIts : Its := [(0, 80), (1, 81), (2, 82), (3, 83), (4, 84), (5, 85), (6, 86), (7, 87), (8, 88), (9, 89), (10, 90), (11, 91), (12, 92)]
def gat7_regPhi (A G oa og n ca c cg m k : Nat) (o s x y : Int) (i : Nat) (z : Value) : Prop := match i with
  | 0 => z = .slice (some ⟨G, og, none⟩) c cg
  | 1 => z = .int .i64 (m : Int)
  | 2 => z = .pointer (some ⟨G, og + m, none⟩)
  | 3 => z = .int .i64 x
  | 4 => z = .slice (some ⟨A, oa, none⟩) n ca
  | 5 => z = .int .i64 o
  | 6 => z = .int .i64 (m : Int)
  | 7 => z = .int .i64 s
  | 8 => z = .int .i64 ((m : Int) * s)
  | 9 => z = .int .i64 (k : Int)
  | 10 => z = .pointer (some ⟨A, oa + k, none⟩)
  | 11 => z = .int .i64 y
  | 12 => z = .bool (x != y)
  | _ => True
set_option maxHeartbeats 4000000 in
theorem gat7_reg {Q : Exit → Act → World → Prop} {ops : Array Oper} {id : Nat} {w1 : World} (a0 : Act) (A G oa og n ca c cg m k : Nat) (o s x y : Int)
    (k0 : OpAt ops 0 (some 80) (.move (.tmp 11)) none)
    (k1 : OpAt ops 1 (some 81) (.move (.tmp 13)) none)
    (k2 : OpAt ops 2 (some 82) (.indexAddr 22 (.tmp 80) (.tmp 81)) none)
    (k3 : OpAt ops 3 (some 83) (.load 3 (.tmp 82)) none)
    (k4 : OpAt ops 4 (some 84) (.move (.tmp 0)) none)
    (k5 : OpAt ops 5 (some 85) (.move (.tmp 7)) none)
    (k6 : OpAt ops 6 (some 86) (.move (.tmp 13)) none)
    (k7 : OpAt ops 7 (some 87) (.move (.tmp 8)) none)
    (k8 : OpAt ops 8 (some 88) (.binOp .mul 3 (.tmp 86) (.tmp 87) 3) none)
    (k9 : OpAt ops 9 (some 89) (.binOp .add 3 (.tmp 85) (.tmp 88) 3) none)
    (k10 : OpAt ops 10 (some 90) (.indexAddr 22 (.tmp 84) (.tmp 89)) none)
    (k11 : OpAt ops 11 (some 91) (.load 3 (.tmp 90)) none)
    (k12 : OpAt ops 12 (some 92) (.binOp .neq 3 (.tmp 83) (.tmp 91) 3) none)
    (hn : ops.size = 13) (hchk : chkN gat7_regPre ops = true) (hsz : a0.tmps.size = 160) (e0 : a0.eval (.tmp 0) = .slice (some ⟨A, oa, none⟩) n ca) (e7 : a0.eval (.tmp 7) = .int .i64 o) (e8 : a0.eval (.tmp 8) = .int .i64 s) (e11 : a0.eval (.tmp 11) = .slice (some ⟨G, og, none⟩) c cg) (e13 : a0.eval (.tmp 13) = .int .i64 (m : Int)) 
    (hg : m < c) (hk : k < n) (hw : IntKind.i64.wrap ((m : Int) * s) = (m : Int) * s) (ek : IntKind.i64.wrap (o + (m : Int) * s) = (k : Int))
    (cG : ∀ w, Bel w1 w → w.cell? ⟨G, og + m, none⟩ = some (.int .i64 x))
    (cA : ∀ w, Bel w1 w → w.cell? ⟨A, oa + k, none⟩ = some (.int .i64 y))
    (hQ : ∀ f w, Bel w1 w → ((f 92) = .bool (x != y)) → Q .normal (actOf a0 [80, 81, 82, 83, 84, 85, 86, 87, 88, 89, 90, 91, 92] f) w) : (Code.region id ops true).wp Try.prog Q a0 w1 := by
  obtain ⟨ds, hds⟩ : ∃ ds, ds = [80, 81, 82, 83, 84, 85, 86, 87, 88, 89, 90, 91, 92] := ⟨_, rfl⟩
  rw [← hds] at hQ
  have out : ∀ f t, t ∉ ds → (actOf a0 ds f).eval (.tmp t) = a0.eval (.tmp t) := fun f t h => actOf_out a0 _ f h
  have inn : ∀ f t, t ∈ ds → t < 160 → (actOf a0 ds f).eval (.tmp t) = f t := fun f t h h2 => actOf_in a0 _ f h (by rw [hsz]; exact h2)
  rw [← actOf_self a0 ds]
  refine wp_region_pv (pre := gat7_regPre) (actOf a0 ds) (fun t => a0.eval (.tmp t)) (by kernel_rfl) hchk gat7_regIts (gat7_regPhi A G oa og n ca c cg m k o s x y) [] (by rw [hn]; decide +kernel) ?_ ?_
  · intro i hi
    rw [hn] at hi
    match i, hi with
    | 0, _ =>
      obtain ⟨o, o1, o2, o3, o4⟩ := k0
      exact does_val 80 (by decide) fun f w hB h => wpOp_go o1 o4 (step_move (d := some 80) o2 (Or.inl o3) ((out f 11 (by rw [hds]; decide)).trans e11) ⟨_, (actOf_put _ _ _ (by rw [hds]; decide) _), rfl, Bel.refl _⟩)
    | 1, _ =>
      obtain ⟨o, o1, o2, o3, o4⟩ := k1
      exact does_val 81 (by decide) fun f w hB h => wpOp_go o1 o4 (step_move (d := some 81) o2 (Or.inl o3) ((out f 13 (by rw [hds]; decide)).trans e13) ⟨_, (actOf_put _ _ _ (by rw [hds]; decide) _), rfl, Bel.refl _⟩)
    | 2, _ =>
      obtain ⟨o, o1, o2, o3, o4⟩ := k2
      exact does_val 82 (by decide) fun f w hB h => wpOp_go o1 o4 (step_indexM (d := some 82) o2 o3 ((inn f 80 (by rw [hds]; decide) (by decide)).trans (h 0 80 (by decide) (by decide))) ((inn f 81 (by rw [hds]; decide) (by decide)).trans (h 1 81 (by decide) (by decide))) (index_ints _ _ _ _ _ hg _) ⟨_, (actOf_put _ _ _ (by rw [hds]; decide) _), rfl, Bel.refl _⟩)
    | 3, _ =>
      obtain ⟨o, o1, o2, o3, o4⟩ := k3
      exact does_val 83 (by decide) fun f w hB h => wpOp_go o1 o4 (step_load (d := some 83) o2 o3 ((inn f 82 (by rw [hds]; decide) (by decide)).trans (h 2 82 (by decide) (by decide))) (load_int (cG _ hB)) ⟨_, (actOf_put _ _ _ (by rw [hds]; decide) _), rfl, Bel.refl _⟩)
    | 4, _ =>
      obtain ⟨o, o1, o2, o3, o4⟩ := k4
      exact does_val 84 (by decide) fun f w hB h => wpOp_go o1 o4 (step_move (d := some 84) o2 (Or.inl o3) ((out f 0 (by rw [hds]; decide)).trans e0) ⟨_, (actOf_put _ _ _ (by rw [hds]; decide) _), rfl, Bel.refl _⟩)
    | 5, _ =>
      obtain ⟨o, o1, o2, o3, o4⟩ := k5
      exact does_val 85 (by decide) fun f w hB h => wpOp_go o1 o4 (step_move (d := some 85) o2 (Or.inl o3) ((out f 7 (by rw [hds]; decide)).trans e7) ⟨_, (actOf_put _ _ _ (by rw [hds]; decide) _), rfl, Bel.refl _⟩)
    | 6, _ =>
      obtain ⟨o, o1, o2, o3, o4⟩ := k6
      exact does_val 86 (by decide) fun f w hB h => wpOp_go o1 o4 (step_move (d := some 86) o2 (Or.inl o3) ((out f 13 (by rw [hds]; decide)).trans e13) ⟨_, (actOf_put _ _ _ (by rw [hds]; decide) _), rfl, Bel.refl _⟩)
    | 7, _ =>
      obtain ⟨o, o1, o2, o3, o4⟩ := k7
      exact does_val 87 (by decide) fun f w hB h => wpOp_go o1 o4 (step_move (d := some 87) o2 (Or.inl o3) ((out f 8 (by rw [hds]; decide)).trans e8) ⟨_, (actOf_put _ _ _ (by rw [hds]; decide) _), rfl, Bel.refl _⟩)
    | 8, _ =>
      obtain ⟨o, o1, o2, o3, o4⟩ := k8
      exact does_val 88 (by decide) fun f w hB h => wpOp_go o1 o4 (step_bin (d := some 88) o2 o3 ((inn f 86 (by rw [hds]; decide) (by decide)).trans (h 6 86 (by decide) (by decide))) ((inn f 87 (by rw [hds]; decide) (by decide)).trans (h 7 87 (by decide) (by decide))) (grd_ints _ _ _ _ _ _ _) (by simp [go_sem, hw]) ⟨_, (actOf_put _ _ _ (by rw [hds]; decide) _), rfl, Bel.refl _⟩)
    | 9, _ =>
      obtain ⟨o, o1, o2, o3, o4⟩ := k9
      exact does_val 89 (by decide) fun f w hB h => wpOp_go o1 o4 (step_bin (d := some 89) o2 o3 ((inn f 85 (by rw [hds]; decide) (by decide)).trans (h 5 85 (by decide) (by decide))) ((inn f 88 (by rw [hds]; decide) (by decide)).trans (h 8 88 (by decide) (by decide))) (grd_ints _ _ _ _ _ _ _) (by simp [go_sem, ek]) ⟨_, (actOf_put _ _ _ (by rw [hds]; decide) _), rfl, Bel.refl _⟩)
    | 10, _ =>
      obtain ⟨o, o1, o2, o3, o4⟩ := k10
      exact does_val 90 (by decide) fun f w hB h => wpOp_go o1 o4 (step_indexM (d := some 90) o2 o3 ((inn f 84 (by rw [hds]; decide) (by decide)).trans (h 4 84 (by decide) (by decide))) ((inn f 89 (by rw [hds]; decide) (by decide)).trans (h 9 89 (by decide) (by decide))) (index_ints _ _ _ _ _ hk _) ⟨_, (actOf_put _ _ _ (by rw [hds]; decide) _), rfl, Bel.refl _⟩)
    | 11, _ =>
      obtain ⟨o, o1, o2, o3, o4⟩ := k11
      exact does_val 91 (by decide) fun f w hB h => wpOp_go o1 o4 (step_load (d := some 91) o2 o3 ((inn f 90 (by rw [hds]; decide) (by decide)).trans (h 10 90 (by decide) (by decide))) (load_int (cA _ hB)) ⟨_, (actOf_put _ _ _ (by rw [hds]; decide) _), rfl, Bel.refl _⟩)
    | 12, _ =>
      obtain ⟨o, o1, o2, o3, o4⟩ := k12
      exact does_val 92 (by decide) fun f w hB h => wpOp_go o1 o4 (step_bin (d := some 92) o2 o3 ((inn f 83 (by rw [hds]; decide) (by decide)).trans (h 3 83 (by decide) (by decide))) ((inn f 91 (by rw [hds]; decide) (by decide)).trans (h 11 91 (by decide) (by decide))) (grd_ints _ _ _ _ _ _ _) (by simp [go_sem]) ⟨_, (actOf_put _ _ _ (by rw [hds]; decide) _), rfl, Bel.refl _⟩)
    | (m + 13), hi => exact absurd hi (by omega)
  · intro f w hB h _
    exact hQ f w hB (h 12 92 (by decide))
def there7_regPre (i : Nat) : List Nat := match i with | 2 => [0, 1] | 3 => [2] | 6 => [4, 5] | 7 => [6] | 8 => [3, 7] | _ => []
def there7_regIts : Its := [(0, 75), (1, 76), (2, 77), (3, 78), (4, 79), (5, 80), (6, 81), (7, 82), (8, 83)]
def there7_regPhi (A G oa og n ca cg m : Nat) (x y : Int) (i : Nat) (z : Value) : Prop := match i with
  | 0 => z = .slice (some ⟨G, og, none⟩) n cg
  | 1 => z = .int .i64 (m : Int)
  | 2 => z = .pointer (some ⟨G, og + m, none⟩)
  | 3 => z = .int .i64 x
  | 4 => z = .slice (some ⟨A, oa, none⟩) n ca
  | 5 => z = .int .i64 (m : Int)
  | 6 => z = .pointer (some ⟨A, oa + m, none⟩)
  | 7 => z = .int .i64 y
  | 8 => z = .bool (x != y)
  | _ => True
set_option maxHeartbeats 4000000 in
theorem there7_reg {Q : Exit → Act → World → Prop} {ops : Array Oper} {id : Nat} {w1 : World} (a0 : Act) (A G oa og n ca cg m : Nat) (x y : Int)
    (k0 : OpAt ops 0 (some 75) (.move (.tmp 7)) none)
    (k1 : OpAt ops 1 (some 76) (.move (.tmp 10)) none)
    (k2 : OpAt ops 2 (some 77) (.indexAddr 22 (.tmp 75) (.tmp 76)) none)
    (k3 : OpAt ops 3 (some 78) (.load 3 (.tmp 77)) none)
    (k4 : OpAt ops 4 (some 79) (.move (.tmp 0)) none)
    (k5 : OpAt ops 5 (some 80) (.move (.tmp 10)) none)
    (k6 : OpAt ops 6 (some 81) (.indexAddr 22 (.tmp 79) (.tmp 80)) none)
    (k7 : OpAt ops 7 (some 82) (.load 3 (.tmp 81)) none)
    (k8 : OpAt ops 8 (some 83) (.binOp .neq 3 (.tmp 78) (.tmp 82) 3) none)
    (hn : ops.size = 9) (hchk : chkN there7_regPre ops = true) (hsz : a0.tmps.size = 91) (e0 : a0.eval (.tmp 0) = .slice (some ⟨A, oa, none⟩) n ca) (e7 : a0.eval (.tmp 7) = .slice (some ⟨G, og, none⟩) n cg) (e10 : a0.eval (.tmp 10) = .int .i64 (m : Int)) 
    (hlt : m < n)
    (cG : ∀ w, Bel w1 w → w.cell? ⟨G, og + m, none⟩ = some (.int .i64 x))
    (cA : ∀ w, Bel w1 w → w.cell? ⟨A, oa + m, none⟩ = some (.int .i64 y))
    (hQ : ∀ f w, Bel w1 w → ((f 83) = .bool (x != y)) → Q .normal (actOf a0 [75, 76, 77, 78, 79, 80, 81, 82, 83] f) w) : (Code.region id ops true).wp Try.prog Q a0 w1 := by
  obtain ⟨ds, hds⟩ : ∃ ds, ds = [75, 76, 77, 78, 79, 80, 81, 82, 83] := ⟨_, rfl⟩
  rw [← hds] at hQ
  have out : ∀ f t, t ∉ ds → (actOf a0 ds f).eval (.tmp t) = a0.eval (.tmp t) := fun f t h => actOf_out a0 _ f h
  have inn : ∀ f t, t ∈ ds → t < 91 → (actOf a0 ds f).eval (.tmp t) = f t := fun f t h h2 => actOf_in a0 _ f h (by rw [hsz]; exact h2)
  rw [← actOf_self a0 ds]
  refine wp_region_pv (pre := there7_regPre) (actOf a0 ds) (fun t => a0.eval (.tmp t)) (by kernel_rfl) hchk there7_regIts (there7_regPhi A G oa og n ca cg m x y) [] (by rw [hn]; decide +kernel) ?_ ?_
  · intro i hi
    rw [hn] at hi
    match i, hi with
    | 0, _ =>
      obtain ⟨o, o1, o2, o3, o4⟩ := k0
      exact does_val 75 (by decide) fun f w hB h => wpOp_go o1 o4 (step_move (d := some 75) o2 (Or.inl o3) ((out f 7 (by rw [hds]; decide)).trans e7) ⟨_, (actOf_put _ _ _ (by rw [hds]; decide) _), rfl, Bel.refl _⟩)
    | 1, _ =>
      obtain ⟨o, o1, o2, o3, o4⟩ := k1
      exact does_val 76 (by decide) fun f w hB h => wpOp_go o1 o4 (step_move (d := some 76) o2 (Or.inl o3) ((out f 10 (by rw [hds]; decide)).trans e10) ⟨_, (actOf_put _ _ _ (by rw [hds]; decide) _), rfl, Bel.refl _⟩)
    | 2, _ =>
      obtain ⟨o, o1, o2, o3, o4⟩ := k2
      exact does_val 77 (by decide) fun f w hB h => wpOp_go o1 o4 (step_indexM (d := some 77) o2 o3 ((inn f 75 (by rw [hds]; decide) (by decide)).trans (h 0 75 (by decide) (by decide))) ((inn f 76 (by rw [hds]; decide) (by decide)).trans (h 1 76 (by decide) (by decide))) (index_ints _ _ _ _ _ hlt _) ⟨_, (actOf_put _ _ _ (by rw [hds]; decide) _), rfl, Bel.refl _⟩)
    | 3, _ =>
      obtain ⟨o, o1, o2, o3, o4⟩ := k3
      exact does_val 78 (by decide) fun f w hB h => wpOp_go o1 o4 (step_load (d := some 78) o2 o3 ((inn f 77 (by rw [hds]; decide) (by decide)).trans (h 2 77 (by decide) (by decide))) (load_int (cG _ hB)) ⟨_, (actOf_put _ _ _ (by rw [hds]; decide) _), rfl, Bel.refl _⟩)
    | 4, _ =>
      obtain ⟨o, o1, o2, o3, o4⟩ := k4
      exact does_val 79 (by decide) fun f w hB h => wpOp_go o1 o4 (step_move (d := some 79) o2 (Or.inl o3) ((out f 0 (by rw [hds]; decide)).trans e0) ⟨_, (actOf_put _ _ _ (by rw [hds]; decide) _), rfl, Bel.refl _⟩)
    | 5, _ =>
      obtain ⟨o, o1, o2, o3, o4⟩ := k5
      exact does_val 80 (by decide) fun f w hB h => wpOp_go o1 o4 (step_move (d := some 80) o2 (Or.inl o3) ((out f 10 (by rw [hds]; decide)).trans e10) ⟨_, (actOf_put _ _ _ (by rw [hds]; decide) _), rfl, Bel.refl _⟩)
    | 6, _ =>
      obtain ⟨o, o1, o2, o3, o4⟩ := k6
      exact does_val 81 (by decide) fun f w hB h => wpOp_go o1 o4 (step_indexM (d := some 81) o2 o3 ((inn f 79 (by rw [hds]; decide) (by decide)).trans (h 4 79 (by decide) (by decide))) ((inn f 80 (by rw [hds]; decide) (by decide)).trans (h 5 80 (by decide) (by decide))) (index_ints _ _ _ _ _ hlt _) ⟨_, (actOf_put _ _ _ (by rw [hds]; decide) _), rfl, Bel.refl _⟩)
    | 7, _ =>
      obtain ⟨o, o1, o2, o3, o4⟩ := k7
      exact does_val 82 (by decide) fun f w hB h => wpOp_go o1 o4 (step_load (d := some 82) o2 o3 ((inn f 81 (by rw [hds]; decide) (by decide)).trans (h 6 81 (by decide) (by decide))) (load_int (cA _ hB)) ⟨_, (actOf_put _ _ _ (by rw [hds]; decide) _), rfl, Bel.refl _⟩)
    | 8, _ =>
      obtain ⟨o, o1, o2, o3, o4⟩ := k8
      exact does_val 83 (by decide) fun f w hB h => wpOp_go o1 o4 (step_bin (d := some 83) o2 o3 ((inn f 78 (by rw [hds]; decide) (by decide)).trans (h 3 78 (by decide) (by decide))) ((inn f 82 (by rw [hds]; decide) (by decide)).trans (h 7 82 (by decide) (by decide))) (grd_ints _ _ _ _ _ _ _) (by simp [go_sem]) ⟨_, (actOf_put _ _ _ (by rw [hds]; decide) _), rfl, Bel.refl _⟩)
    | (m + 9), hi => exact absurd hi (by omega)
  · intro f w hB h _
    exact hQ f w hB (h 8 83 (by decide))
end Go.Proofs.Ytniljnidpcgjgaa

/- Law 7's same, of two lists that are the same; ref07's Product and turned. -/
namespace Go.Proofs.Ytniljnidpcgjgaa
open Go.RowKit

theorem same_ints (p q : Option Addr) (n ca cb : Nat) (l : List Int) (w : World) (hA : IL w p n l) (hB : IL w q n l) (hn : n ≤ 4611686018427387904) :
    Calls Try.prog 15 #[.slice p n ca, .slice q n cb] w fun r w' => r = .returned (.bool true) ∧ Bel w w' := by
  have HA := Lib.hid hA
  have HB := Lib.hid hB
  clear hA hB
  go_enter Try.func15, Try.ntmps15
  go_wp2
  go_loopw [5, 13] (fun _ a wr => ∃ i : Nat, i ≤ n ∧ a = .int .i64 (i : Int) ∧ Bel w wr) (fun _ a _ => n - (intOf a).toNat)
  case atStart => exact ⟨0, by omega, rfl, Bel.refl _⟩
  case round =>
    obtain ⟨i, hi, rfl, hB⟩ := hrel
    by_cases hlt : i < n
    · obtain ⟨A, oa, x, rfl, hAl, hx, hAc⟩ := HA.out.at hlt
      obtain ⟨B, ob, y, rfl, hBl, hy, hBc⟩ := HB.out.at hlt
      obtain rfl : x = y := by rw [hx] at hy; exact Option.some.inj hy
      have sA := Nat.lt_of_lt_of_le hAl hB.size
      have sB := Nat.lt_of_lt_of_le hBl hB.size
      have kA := (hB.cell (p := ⟨A, oa + i, none⟩) hAl).trans hAc
      have kB := (hB.cell (p := ⟨B, ob + i, none⟩) hBl).trans hBc
      clear hx hy hAc hBc HA HB
      go_upto_region 6 with fail
      refine same7_reg _ A B oa ob n ca cb i x x ⟨_, rfl, rfl, rfl, rfl⟩ ⟨_, rfl, rfl, rfl, rfl⟩ ⟨_, rfl, rfl, rfl, rfl⟩ ⟨_, rfl, rfl, rfl, rfl⟩ ⟨_, rfl, rfl, rfl, rfl⟩ ⟨_, rfl, rfl, rfl, rfl⟩ ⟨_, rfl, rfl, rfl, rfl⟩ ⟨_, rfl, rfl, rfl, rfl⟩ ⟨_, rfl, rfl, rfl, rfl⟩ rfl (by decide +kernel) rfl rfl rfl rfl hlt (fun w' h => (h.cell sA).trans kA) (fun w' h => (h.cell sB).trans kB) ?_
      intro f w2 g2 hf
      have B2 := hB.trans g2
      have hf : f 24 = .bool false := by rw [hf]; simp
      clear g2 hB kA kB sA sB
      unfold actOf
      simp only [List.mapIdx_toArray, List.mapIdx_cons, List.mapIdx_nil, List.mem_cons, List.mem_nil_iff, Nat.reduceEqDiff, Nat.reduceAdd, or_false, or_true, if_true, if_false, hf]
      go_wp2
      go_roundw
      case rel => exact ⟨i + 1, by omega, (by first | rfl | simp), B2⟩
      case measure => simp [intOf]; omega
    · clear HA HB
      go_wp2
      go_ret
      exact ⟨rfl, hB⟩
/-- the product of radices from a number on; 0: there is none -/
def prodFrom : Int → List Int → Int
  | n, [] => n
  | n, r :: rs => if r < 2 ∨ 1048576 < r then 0 else if 1048576 < n * r then 0 else prodFrom (n * r) rs
def prodI (rs : List Int) : Int := if 30 < rs.length then 0 else prodFrom 1 rs
theorem prod_run (p : Option Addr) (n cap : Nat) (rs : List Int) (w : World) (hA : IL w p n rs) (hn : n ≤ 4611686018427387904) :
    Calls Try.prog 16 #[.slice p n cap] w fun r w' => r = .returned (.int .i64 (prodI rs)) ∧ w = w' := by
  by_cases h30 : 30 < n
  · have e : prodI rs = 0 := by unfold prodI; rw [if_pos (by rw [hA.len]; exact h30)]
    rw [e]
    clear hA e
    go_enter Try.func16, Try.ntmps16
    go_wp2
    go_ret
    exact ⟨rfl, rfl⟩
  · have e : prodI rs = prodFrom 1 (rs.drop 0) := by unfold prodI; rw [if_neg (by rw [hA.len]; exact h30)]; rfl
    have HA := Lib.hid hA
    obtain ⟨R, hR⟩ : ∃ R, R = prodI rs := ⟨_, rfl⟩
    rw [← hR] at e ⊢
    have hlen := hA.len
    clear hA hR
    go_enter Try.func16, Try.ntmps16
    go_wp2
    go_loop [3, 4] (fun a b => ∃ (m : Int) (i : Nat), i ≤ n ∧ a = .int .i64 m ∧ b = .int .i64 (i : Int) ∧ 1 ≤ m ∧ m ≤ 1048576 ∧ R = prodFrom m (rs.drop i)) (fun _ b => n - (intOf b).toNat)
    case atStart => exact ⟨1, 0, by omega, rfl, rfl, by omega, by omega, e⟩
    case round =>
      obtain ⟨m, i, hi, rfl, rfl, m1, m2, hm⟩ := hrel
      clear e
      by_cases hlt : i < n
      · obtain ⟨A, oa, x, rfl, hAl, hx, hAc⟩ := HA.out.at hlt
        have hd : rs.drop i = x :: rs.drop (i + 1) := by
          rw [List.drop_eq_getElem_cons (by omega)]
          obtain ⟨h1, h2⟩ := List.getElem?_eq_some_iff.1 hx
          rw [h2]
        rw [hd] at hm
        unfold prodFrom at hm
        by_cases c1 : x < 2 ∨ 1048576 < x
        · rw [if_pos c1] at hm
          subst hm
          clear hd hx HA
          by_cases c2 : x < 2
          · clear c1
            go_wp2
            go_ret
            exact ⟨rfl, rfl⟩
          · have c3 : 1048576 < x := by omega
            clear c1
            go_wp2
            go_ret
            exact ⟨rfl, rfl⟩
        · rw [if_neg c1] at hm
          have x1 : ¬ x < 2 := by omega
          have x2 : ¬ 1048576 < x := by omega
          have b1 : m * x ≤ 1048576 * 1048576 := Int.mul_le_mul m2 (by omega) (by omega) (by omega)
          have b0 : 1 * 2 ≤ m * x := Int.mul_le_mul m1 (by omega) (by omega) (by omega)
          have e4 : IntKind.i64.wrap (m * x) = m * x := by rw [IntKind.wrap_i64]; omega
          by_cases c4 : 1048576 < m * x
          · rw [if_pos c4] at hm
            subst hm
            clear hd hx HA c1
            go_wp2
            go_ret
            exact ⟨rfl, rfl⟩
          · rw [if_neg c4] at hm
            have HM := Lib.hid hm
            clear hd hx HA c1 hm
            go_wp2
            go_round
            case rel => exact ⟨m * x, i + 1, by omega, rfl, (by first | rfl | simp), by omega, by omega, HM.out⟩
            case measure => simp [intOf]; omega
      · have hi2 : i = n := by omega
        subst hi2
        rw [List.drop_eq_nil_of_le (by omega)] at hm
        have hm2 : R = m := hm
        clear hm
        subst hm2
        clear HA hlen
        go_wp2
        go_ret
        exact ⟨rfl, rfl⟩
set_option maxHeartbeats 1000000 in
theorem turned_run (p : Option Addr) (n cap : Nat) (zs : List Int) (w : World) (hA : IL w p n zs) (hn : n * 8 ≤ 140737488355328) :
    Calls Try.prog 28 #[.slice p n cap] w fun r w' => ∃ q c, r = .returned (.slice q n c) ∧ IL w' q n zs.reverse ∧ Bel w w' := by
  have HA := Lib.hid hA
  have hlen := Lib.hid hA.len
  obtain ⟨i0, hi, hz0, hz1, hz2⟩ := info_parts int_info
  clear hA
  go_enter Try.func28, Try.ntmps28
  go_wp2
  go_loopw [3, 4] (fun v a wr => ∃ j : Nat, j ≤ n ∧ a = .int .i64 ((n : Int) - 1 - (j : Int)) ∧ wr.ownsRow w.heap.size 3 1 v j ((zs.reverse.take j).map (Value.int .i64)) ∧ Bel w wr) (fun _ a _ => (intOf a + 1).toNat)
  case atStart => exact ⟨0, by omega, by simp, ⟨by simp, Or.inl ⟨rfl, rfl⟩⟩, Bel.refl _⟩
  case round =>
    obtain ⟨j, hj, rfl, hown, hB⟩ := hrel
    by_cases hlt : j < n
    · obtain ⟨k, hk⟩ : ∃ k : Nat, k = n - 1 - j := ⟨_, rfl⟩
      have hkn : k < n := by omega
      obtain ⟨A, oa, z, rfl, hAl, hz, hAc⟩ := HA.out.at hkn
      have hcj := (hB.cell (p := ⟨A, oa + k, none⟩) hAl).trans hAc
      have ek : (n : Int) - 1 - (j : Int) = (k : Int) := by omega
      have hz' : zs.reverse[j]? = some z := by
        rw [List.getElem?_reverse (by rw [hlen.out]; omega), hlen.out, ← hk]; exact hz
      have hnextH := Lib.hid (ints_take hz')
      obtain ⟨L, hL⟩ : ∃ L, L = (zs.reverse.take j).map (Value.int .i64) := ⟨_, rfl⟩
      rw [← hL] at hown hnextH
      have HK := Lib.hid hk
      clear hz hz' hL HA hAc hk
      rw [ek]
      go_wp2_with (at_builtin; refine wpList_append_own _ rfl _ _ 22 rfl w.heap.size 3 i0 (.int .i64 0) 1 8 Try.underlying22 hi hz0 hz1 hz2 rfl (by decide) _ _ _ rfl (hown.alloc _) ⟨wr.heap.size, 0, none⟩ 1 1 [.int .i64 z] rfl rfl ?c1 ?c2 ?c3 ?c4 ?c5 ?_)
      case c1 =>
        intro i x hi
        match i, hi with
        | 0, hi => simp at hi; subst hi; simp [Addr.add]
        | i + 1, hi => simp at hi
      case c2 => intro x hx; simp at hx; subst hx; rfl
      case c3 => unfold maxLen; omega
      case c4 => omega
      case c5 => have := hB.size; simp; omega
      intro v' w2 hown2 hgrow _
      have hb2 := ((hB.alloc _).grown hgrow (ownsRow_block hown))
      rw [hnextH.out] at hown2
      clear hown hB
      go_wp2
      go_roundw
      case rel => exact ⟨j + 1, by omega, (by rw [← ek]; first | rfl | (simp; omega)), hown2, hb2⟩
      case measure => first | (simp [intOf]; done) | (simp [intOf]; omega)
    · obtain rfl : j = n := by omega
      rw [List.take_of_length_le (by rw [List.length_reverse, hlen.out]; omega)] at hown
      obtain ⟨q, c, rfl, hq⟩ := IL.own (by rw [List.length_reverse, hlen.out]) hown
      clear hown HA hlen hi hz0 hz1 hz2
      go_wp2
      go_ret
      exact ⟨q, c, rfl, hq, hB⟩
end Go.Proofs.Ytniljnidpcgjgaa

/- ref07's Digits, Number and Reverse. -/
namespace Go.Proofs.Ytniljnidpcgjgaa
open Go.RowKit

def digs : Int → List Int → List Int
  | _, [] => []
  | k, r :: rs => k % r :: digs (k / r) rs
def digE (k : Int) (rs : List Int) : Int := if prodI rs = 0 then 2 else if k < 0 ∨ prodI rs ≤ k then 3 else 0
def digL (k : Int) (rs : List Int) : List Int := if digE k rs = 0 then digs k rs else []
theorem prodFrom_mem : ∀ (rs : List Int) (n : Int), prodFrom n rs ≠ 0 → ∀ r ∈ rs, 2 ≤ r ∧ r ≤ 1048576
  | [], _, _, r, hr => by cases hr
  | x :: rs, n, h, r, hr => by
    unfold prodFrom at h
    split at h
    · exact absurd rfl h
    · split at h
      · exact absurd rfl h
      · rcases List.mem_cons.1 hr with rfl | hr
        · omega
        · exact prodFrom_mem rs _ h r hr
theorem prodFrom_le : ∀ (rs : List Int) (n : Int), 0 ≤ n → n ≤ 1048576 → 0 ≤ prodFrom n rs ∧ prodFrom n rs ≤ 1048576
  | [], n, h, h' => ⟨h, h'⟩
  | x :: rs, n, h, h' => by
    unfold prodFrom
    split
    · omega
    · split
      · omega
      · exact prodFrom_le rs _ (Int.mul_nonneg h (by omega)) (by omega)
theorem prodI_mem {rs : List Int} (h : prodI rs ≠ 0) : rs.length ≤ 30 ∧ ∀ r ∈ rs, 2 ≤ r ∧ r ≤ 1048576 := by
  unfold prodI at h
  split at h
  · exact absurd rfl h
  · exact ⟨by omega, prodFrom_mem rs 1 h⟩
theorem prodI_le (rs : List Int) : 0 ≤ prodI rs ∧ prodI rs ≤ 1048576 := by
  unfold prodI
  split
  · omega
  · exact prodFrom_le rs 1 (by omega) (by omega)
theorem digs_len : ∀ (rs : List Int) (k : Int), (digs k rs).length = rs.length
  | [], _ => rfl
  | r :: rs, k => by show (digs (k / r) rs).length + 1 = rs.length + 1; rw [digs_len rs]
theorem drop_head {α : Type} {l t : List α} {a : α} {j : Nat} (h : l.drop j = a :: t) : l[j]? = some a ∧ l.drop (j + 1) = t := by
  constructor
  · have e : (l.drop j)[0]? = some a := by rw [h]; rfl
    rw [List.getElem?_drop] at e
    exact e
  · rw [← List.drop_drop, h]; rfl
theorem at_drop {α : Type} {l : List α} {a : α} {j : Nat} (h : l[j]? = some a) : l.drop j = a :: l.drop (j + 1) := by
  obtain ⟨h1, h2⟩ := List.getElem?_eq_some_iff.1 h
  rw [List.drop_eq_getElem_cons h1, h2]
set_option maxHeartbeats 1000000 in
theorem refdig_run (k : Int) (p : Option Addr) (n cap : Nat) (rs : List Int) (w : World) (hA : IL w p n rs) (hn : n ≤ 4611686018427387904) (hk63 : k ≤ 9223372036854775807) :
    Calls Try.prog 11 #[.int .i64 k, .slice p n cap] w fun r w' => ∃ q m c, r = .returned (.tuple #[.slice q m c, .int .i64 (digE k rs)]) ∧ IL w' q m (digL k rs) ∧ Bel w w' := by
  have hP := fun w (h : IL w p n rs) => prod_run p n cap rs w h hn
  obtain ⟨hp0, hp1⟩ := prodI_le rs
  by_cases h0 : prodI rs = 0
  · have e1 : digE k rs = 2 := by unfold digE; rw [if_pos h0]
    have e2 : digL k rs = [] := by unfold digL; rw [e1]; rfl
    rw [e1, e2]
    rw [h0] at hP
    replace hP := hP w hA
    clear hA h0 hp0 hp1 e1 e2
    go_enter Try.func11, Try.ntmps11
    go_wp2_with fail
    refine hP.mono ?_; rintro r w1 ⟨rfl, rfl⟩
    go_wp2
    refine bodyPost_ret (by simp [results, go_sem]; try rfl) rfl ?_
    exact ⟨none, 0, 0, rfl, IL.nil _ _, Bel.refl _⟩
  · have hmem := prodI_mem h0
    obtain ⟨P, hPP⟩ : ∃ P, P = prodI rs := ⟨_, rfl⟩
    rw [← hPP] at hP h0 hp0 hp1
    have t0 : (P == 0) = false := by rw [beq_eq_false_iff_ne]; exact h0
    replace hP := hP w hA
    by_cases hb : k < 0 ∨ P ≤ k
    · have e1 : digE k rs = 3 := by unfold digE; rw [← hPP, if_neg h0, if_pos hb]
      have e2 : digL k rs = [] := by unfold digL; rw [e1]; rfl
      rw [e1, e2]
      by_cases hb1 : k < 0
      · clear hA h0 e1 e2 hPP hb hmem
        go_enter Try.func11, Try.ntmps11
        go_wp2_with fail
        refine hP.mono ?_; rintro r w1 ⟨rfl, rfl⟩
        go_wp2
        refine bodyPost_ret (by simp [results, go_sem]; try rfl) rfl ?_
        exact ⟨none, 0, 0, rfl, IL.nil _ _, Bel.refl _⟩
      · have hb2 : P ≤ k := by omega
        clear hA h0 e1 e2 hPP hb hmem
        go_enter Try.func11, Try.ntmps11
        go_wp2_with fail
        refine hP.mono ?_; rintro r w1 ⟨rfl, rfl⟩
        go_wp2
        refine bodyPost_ret (by simp [results, go_sem]; try rfl) rfl ?_
        exact ⟨none, 0, 0, rfl, IL.nil _ _, Bel.refl _⟩
    · have e1 : digE k rs = 0 := by unfold digE; rw [← hPP, if_neg h0, if_neg hb]
      have e2 : digL k rs = digs k rs := by unfold digL; rw [e1]; rfl
      rw [e1, e2]
      have hk0 : 0 ≤ k := by omega
      have hk1 : k < P := by omega
      obtain ⟨i0, hi, hz0, hz1, hz2⟩ := info_parts int_info
      have HA := Lib.hid hA
      have HM := Lib.hid hmem
      have hn30 : n ≤ 30 := by rw [← hA.len]; exact hmem.1
      obtain ⟨D, hD⟩ : ∃ D, D = digs k rs := ⟨_, rfl⟩
      have hDl : D.length = n := by rw [hD, digs_len, hA.len]
      have hst : D.drop 0 = digs k (rs.drop 0) := by rw [hD]; rfl
      rw [← hD]
      have HD := Lib.hid hDl
      clear hA h0 e1 e2 hPP hb hmem hD hDl
      go_enter Try.func11, Try.ntmps11
      go_wp2_with fail
      refine hP.mono ?_; rintro r w1 ⟨rfl, rfl⟩
      go_wp2
      go_loopw [0, 7, 8] (fun a v b wr => ∃ (x : Int) (j : Nat), j ≤ n ∧ a = .int .i64 x ∧ b = .int .i64 (j : Int) ∧ 0 ≤ x ∧ x ≤ k ∧ D.drop j = digs x (rs.drop j) ∧ wr.ownsRow w.heap.size 3 1 v j ((D.take j).map (Value.int .i64)) ∧ Bel w wr) (fun _ _ b _ => n - (intOf b).toNat)
      case atStart => exact ⟨k, 0, by omega, rfl, by simp, hk0, Int.le_refl _, hst, ⟨by simp, Or.inl ⟨rfl, rfl⟩⟩, Bel.refl _⟩
      case round =>
        obtain ⟨x, j, hj, rfl, rfl, x0, x1, hdr, hown, hB⟩ := hrel
        clear hst
        by_cases hlt : j < n
        · obtain ⟨A, oa, r, rfl, hAl, hr, hAc⟩ := HA.out.at hlt
          obtain ⟨r2, r3⟩ := HM.out.2 r (List.mem_of_getElem? hr)
          have hcj := (hB.cell (p := ⟨A, oa + j, none⟩) hAl).trans hAc
          rw [at_drop hr] at hdr
          have hdr : D.drop j = (x % r) :: digs (x / r) (rs.drop (j + 1)) := hdr
          obtain ⟨hg, hnx⟩ := drop_head hdr
          have hnextH := Lib.hid (ints_take hg)
          have HN := Lib.hid hnx
          have t1 : (r == 0) = false := by rw [beq_eq_false_iff_ne]; omega
          have y0 : 0 ≤ x / r := Int.ediv_nonneg x0 (by omega)
          have y1 : x / r ≤ x := Int.ediv_le_self _ x0
          obtain ⟨L, hL⟩ : ∃ L, L = (D.take j).map (Value.int .i64) := ⟨_, rfl⟩
          rw [← hL] at hown hnextH
          clear hr hAc hdr hg hnx hL HA HM
          go_wp2_with (at_builtin; refine wpList_append_own _ rfl _ _ 22 rfl w.heap.size 3 i0 (.int .i64 0) 1 8 Try.underlying22 hi hz0 hz1 hz2 rfl (by decide) _ _ _ rfl (hown.alloc _) ⟨wr.heap.size, 0, none⟩ 1 1 [.int .i64 (x % r)] rfl rfl ?c1 ?c2 ?c3 ?c4 ?c5 ?_)
          case c1 =>
            intro i x hi
            match i, hi with
            | 0, hi => simp at hi; subst hi; simp [Addr.add]
            | i + 1, hi => simp at hi
          case c2 => intro x hx; simp at hx; subst hx; rfl
          case c3 => unfold maxLen; omega
          case c4 => omega
          case c5 => have := hB.size; simp; omega
          intro v' w2 hown2 hgrow _
          have hb2 := ((hB.alloc _).grown hgrow (ownsRow_block hown))
          have hcj2 := (hb2.cell (p := ⟨A, oa + j, none⟩) hAl)
          have hcj3 : w2.cell? ⟨A, oa + j, none⟩ = some (.int .i64 r) := hcj2.trans (((hB.cell (p := ⟨A, oa + j, none⟩) hAl).symm).trans hcj)
          rw [hnextH.out] at hown2
          clear hown hB hcj hcj2
          go_wp2
          go_roundw
          case rel => exact ⟨x / r, j + 1, by omega, rfl, (by first | rfl | simp), y0, by omega, HN.out, hown2, hb2⟩
          case measure => first | (simp [intOf]; done) | (simp [intOf]; omega)
        · obtain rfl : j = n := by omega
          rw [List.take_of_length_le (by rw [HD.out]; omega)] at hown
          obtain ⟨q, c, rfl, hq⟩ := IL.own HD.out hown
          clear hown HA HD HM hi hz0 hz1 hz2 hdr
          go_wp2
          refine bodyPost_ret (by simp [results, go_sem]; try rfl) rfl ?_
          exact ⟨q, _, c, rfl, hq, hB⟩
end Go.Proofs.Ytniljnidpcgjgaa

/- ref07's Number. -/
namespace Go.Proofs.Ytniljnidpcgjgaa
open Go.RowKit

def numFrom : Int → Int → List Int → List Int → Int × Int
  | k, wt, d :: ds, r :: rs => if d < 0 ∨ r ≤ d then (0, 3) else numFrom (k + wt * d) (wt * r) ds rs
  | k, _, _, _ => (k, 0)
def numR (ds rs : List Int) : Int × Int := if prodI rs = 0 then (0, 2) else if ds.length ≠ rs.length then (0, 4) else numFrom 0 1 ds rs
theorem num_bounds {wt d r k : Int} (h1 : 1 ≤ wt) (_hk0 : 0 ≤ k) (hk : k < wt) (hd0 : 0 ≤ d) (hd : d < r) (hr : wt * r ≤ 1048576) : 0 ≤ wt * d ∧ k + wt * d < wt * r ∧ 1 ≤ wt * r ∧ wt * d ≤ 1048576 := by
  have a1 : 0 ≤ wt * d := Int.mul_nonneg (by omega) hd0
  have a2 : wt * (d + 1) ≤ wt * r := Int.mul_le_mul_of_nonneg_left (by omega) (by omega)
  have a3 : wt * (d + 1) = wt * d + wt := by rw [Int.mul_add, Int.mul_one]
  omega
set_option maxHeartbeats 4000000 in
theorem num_run (p q : Option Addr) (n m ca cb : Nat) (ds rs : List Int) (w : World) (hA : IL w p n ds) (hB : IL w q m rs) (hn : n ≤ 4611686018427387904) (hm : m ≤ 4611686018427387904) :
    Calls Try.prog 13 #[.slice p n ca, .slice q m cb] w fun r w' => r = .returned (.tuple #[.int .i64 (numR ds rs).1, .int .i64 (numR ds rs).2]) ∧ Bel w w' := by
  have hP := prod_run q m cb rs w hB hm
  by_cases h0 : prodI rs = 0
  · have e1 : numR ds rs = (0, 2) := by unfold numR; rw [if_pos h0]
    rw [e1]
    rw [h0] at hP
    clear hA hB h0 e1
    go_enter Try.func13, Try.ntmps13
    go_wp2_with fail
    refine hP.mono ?_; rintro r w1 ⟨rfl, rfl⟩
    go_wp2
    refine bodyPost_ret (by simp [results, go_sem]; try rfl) rfl ?_
    exact ⟨rfl, Bel.refl _⟩
  · obtain ⟨P, hPP⟩ : ∃ P, P = prodI rs := ⟨_, rfl⟩
    rw [← hPP] at hP
    have hP0 : P ≠ 0 := by rw [hPP]; exact h0
    have t0 : (P == 0) = false := by rw [beq_eq_false_iff_ne]; exact hP0
    by_cases hl : n = m
    · have hst : numR ds rs = numFrom 0 1 (ds.drop 0) (rs.drop 0) := by unfold numR; rw [if_neg h0, if_neg (by rw [hA.len, hB.len]; omega)]; rfl
      have hpr : prodFrom 1 (rs.drop 0) ≠ 0 := by
        have h := h0
        unfold prodI at h
        split at h
        · exact absurd rfl h
        · exact h
      have hn30 : m ≤ 30 := by rw [← hB.len]; exact (prodI_mem h0).1
      obtain ⟨R, hR⟩ : ∃ R, R = numR ds rs := ⟨_, rfl⟩
      rw [← hR] at hst ⊢
      subst hl
      have HA := Lib.hid hA
      have HB := Lib.hid hB
      clear hA hB h0 hPP hP0 hR
      go_enter Try.func13, Try.ntmps13
      go_wp2_with fail
      refine hP.mono ?_; rintro r w1 ⟨rfl, rfl⟩
      go_wp2
      go_loopw [7, 8, 9] (fun a b c wr => ∃ (k wt : Int) (j : Nat), j ≤ n ∧ a = .int .i64 k ∧ b = .int .i64 wt ∧ c = .int .i64 (j : Int) ∧ 0 ≤ k ∧ k < wt ∧ 1 ≤ wt ∧ wt ≤ 1048576 ∧ prodFrom wt (rs.drop j) ≠ 0 ∧ R = numFrom k wt (ds.drop j) (rs.drop j) ∧ Bel w wr) (fun _ _ c _ => n - (intOf c).toNat)
      case atStart => exact ⟨0, 1, 0, by omega, rfl, rfl, rfl, by omega, by omega, by omega, by omega, hpr, hst, Bel.refl _⟩
      case round =>
        obtain ⟨k, wt, j, hj, rfl, rfl, rfl, k0, k1, w1, w2, hpj, hrj, hBl⟩ := hrel
        clear hst hpr
        by_cases hlt : j < n
        · obtain ⟨A, oa, d, rfl, hAl, hd, hAc⟩ := HA.out.at hlt
          obtain ⟨B, ob, r, rfl, hBlk, hr, hBc⟩ := HB.out.at hlt
          have sA := Nat.lt_of_lt_of_le hAl hBl.size
          have sB := Nat.lt_of_lt_of_le hBlk hBl.size
          have kA := (hBl.cell (p := ⟨A, oa + j, none⟩) hAl).trans hAc
          have kB := (hBl.cell (p := ⟨B, ob + j, none⟩) hBlk).trans hBc
          rw [at_drop hr] at hpj hrj
          rw [at_drop hd] at hrj
          unfold numFrom at hrj
          unfold prodFrom at hpj
          by_cases c1 : d < 0
          · rw [if_pos (Or.inl c1)] at hrj
            subst hrj
            clear hpj hd hr hAc hBc HA HB
            go_upto_region 11 with fail
            refine numneg7_reg _ A B oa ob n ca cb j d 0 ⟨_, rfl, rfl, rfl, rfl⟩ ⟨_, rfl, rfl, rfl, rfl⟩ ⟨_, rfl, rfl, rfl, rfl⟩ ⟨_, rfl, rfl, rfl, rfl⟩ ⟨_, rfl, rfl, rfl, rfl⟩ ⟨_, rfl, rfl, rfl, rfl⟩ ⟨_, rfl, rfl, rfl, rfl⟩ ⟨_, rfl, rfl, rfl, rfl⟩ ⟨_, rfl, rfl, rfl, rfl⟩ ⟨_, rfl, rfl, rfl, rfl⟩ ⟨_, rfl, rfl, rfl, rfl⟩ ⟨_, rfl, rfl, rfl, rfl⟩ ⟨_, rfl, rfl, rfl, rfl⟩ ⟨_, rfl, rfl, rfl, rfl⟩ ⟨_, rfl, rfl, rfl, rfl⟩ ⟨_, rfl, rfl, rfl, rfl⟩  rfl (by decide +kernel) rfl rfl rfl rfl hlt c1 (fun w' h => (h.cell sA).trans kA) ?_
            intro f w2 g2 hf
            have B2 := hBl.trans g2
            clear g2 hBl kA kB sA sB
            unfold actOf
            simp only [List.mapIdx_toArray, List.mapIdx_cons, List.mapIdx_nil, List.mem_cons, List.mem_nil_iff, Nat.reduceEqDiff, Nat.reduceAdd, or_false, or_true, if_true, if_false, hf]
            go_wp2
            refine bodyPost_ret (by simp [results, go_sem]; try rfl) rfl ?_
            exact ⟨rfl, B2⟩
          · by_cases c2 : r ≤ d
            · rw [if_pos (Or.inr c2)] at hrj
              subst hrj
              clear hpj hd hr hAc hBc HA HB
              go_upto_region 11 with fail
              refine num7_reg _ A B oa ob n ca cb j d r ⟨_, rfl, rfl, rfl, rfl⟩ ⟨_, rfl, rfl, rfl, rfl⟩ ⟨_, rfl, rfl, rfl, rfl⟩ ⟨_, rfl, rfl, rfl, rfl⟩ ⟨_, rfl, rfl, rfl, rfl⟩ ⟨_, rfl, rfl, rfl, rfl⟩ ⟨_, rfl, rfl, rfl, rfl⟩ ⟨_, rfl, rfl, rfl, rfl⟩ ⟨_, rfl, rfl, rfl, rfl⟩ ⟨_, rfl, rfl, rfl, rfl⟩ ⟨_, rfl, rfl, rfl, rfl⟩ ⟨_, rfl, rfl, rfl, rfl⟩ ⟨_, rfl, rfl, rfl, rfl⟩ ⟨_, rfl, rfl, rfl, rfl⟩ ⟨_, rfl, rfl, rfl, rfl⟩ ⟨_, rfl, rfl, rfl, rfl⟩  rfl (by decide +kernel) rfl rfl rfl rfl hlt c1 (fun w' h => (h.cell sA).trans kA) (fun w' h => (h.cell sB).trans kB) ?_
              intro f w2 g2 hf
              have B2 := hBl.trans g2
              have hf : f 40 = .bool true := by rw [hf, decide_eq_true c2]
              clear g2 hBl kA kB sA sB
              unfold actOf
              simp only [List.mapIdx_toArray, List.mapIdx_cons, List.mapIdx_nil, List.mem_cons, List.mem_nil_iff, Nat.reduceEqDiff, Nat.reduceAdd, or_false, or_true, if_true, if_false, hf]
              go_wp2
              refine bodyPost_ret (by simp [results, go_sem]; try rfl) rfl ?_
              exact ⟨rfl, B2⟩
            · rw [if_neg (by omega)] at hrj
              have hpj2 : ¬ 1048576 < wt * r ∧ prodFrom (wt * r) (rs.drop (j + 1)) ≠ 0 := by
                split at hpj
                · exact absurd rfl hpj
                · split at hpj
                  · exact absurd rfl hpj
                  · exact ⟨by assumption, hpj⟩
              obtain ⟨a1, a2, a3, a4⟩ := num_bounds (d := d) (r := r) w1 k0 k1 (by omega) (by omega) (by omega)
              have a5 : wt * r ≤ 1048576 := by omega
              have HP := Lib.hid hpj2.2
              have HR := Lib.hid hrj
              clear hpj hpj2 hrj hd hr hAc hBc HA HB
              go_upto_region 11 with fail
              refine num7_reg _ A B oa ob n ca cb j d r ⟨_, rfl, rfl, rfl, rfl⟩ ⟨_, rfl, rfl, rfl, rfl⟩ ⟨_, rfl, rfl, rfl, rfl⟩ ⟨_, rfl, rfl, rfl, rfl⟩ ⟨_, rfl, rfl, rfl, rfl⟩ ⟨_, rfl, rfl, rfl, rfl⟩ ⟨_, rfl, rfl, rfl, rfl⟩ ⟨_, rfl, rfl, rfl, rfl⟩ ⟨_, rfl, rfl, rfl, rfl⟩ ⟨_, rfl, rfl, rfl, rfl⟩ ⟨_, rfl, rfl, rfl, rfl⟩ ⟨_, rfl, rfl, rfl, rfl⟩ ⟨_, rfl, rfl, rfl, rfl⟩ ⟨_, rfl, rfl, rfl, rfl⟩ ⟨_, rfl, rfl, rfl, rfl⟩ ⟨_, rfl, rfl, rfl, rfl⟩  rfl (by decide +kernel) rfl rfl rfl rfl hlt c1 (fun w' h => (h.cell sA).trans kA) (fun w' h => (h.cell sB).trans kB) ?_
              intro f w2 g2 hf
              have B2 := hBl.trans g2
              have kA2 := (g2.cell (p := ⟨A, oa + j, none⟩) sA).trans kA
              have kB2 := (g2.cell (p := ⟨B, ob + j, none⟩) sB).trans kB
              have hf : f 40 = .bool false := by rw [hf, decide_eq_false c2]
              clear g2 hBl kA kB sA sB
              unfold actOf
              simp only [List.mapIdx_toArray, List.mapIdx_cons, List.mapIdx_nil, List.mem_cons, List.mem_nil_iff, Nat.reduceEqDiff, Nat.reduceAdd, or_false, or_true, if_true, if_false, hf]
              go_wp2
              go_roundw
              case rel => exact ⟨k + wt * d, wt * r, j + 1, by omega, rfl, rfl, (by first | rfl | simp), by omega, by omega, a3, a5, HP.out, HR.out, B2⟩
              case measure => first | (simp [intOf]; done) | (simp [intOf]; omega)
        · obtain rfl : j = n := by omega
          have hl2 : ds.drop j = [] := List.drop_eq_nil_of_le (by have := HA.out.len; omega)
          rw [hl2] at hrj
          have hrj2 : R = (k, 0) := hrj
          clear hrj HA HB hpj hl2
          subst hrj2
          go_wp2
          refine bodyPost_ret (by simp [results, go_sem]; try rfl) rfl ?_
          exact ⟨rfl, hBl⟩
    · have e1 : numR ds rs = (0, 4) := by unfold numR; rw [if_neg h0, if_pos (by rw [hA.len, hB.len]; exact hl)]
      rw [e1]
      have t1 : ((n : Int) != (m : Int)) = true := by rw [bne_iff_ne]; omega
      clear hA hB h0 e1 hPP hP0
      go_enter Try.func13, Try.ntmps13
      go_wp2_with fail
      refine hP.mono ?_; rintro r w1 ⟨rfl, rfl⟩
      go_wp2
      refine bodyPost_ret (by simp [results, go_sem]; try rfl) rfl ?_
      exact ⟨rfl, Bel.refl _⟩
end Go.Proofs.Ytniljnidpcgjgaa

/- ref07's Reverse. -/
namespace Go.Proofs.Ytniljnidpcgjgaa
open Go.RowKit

/-- where a number goes whose digits are turned about -/
def revV (rs : List Int) (k : Nat) : Int := (numR (digs (k : Int) rs).reverse rs.reverse).1
def revI (rs : List Int) : List Int := if prodI rs = 0 then [] else (List.range (prodI rs).toNat).map (revV rs)
def revE (rs : List Int) : Int := if prodI rs = 0 then 2 else 0
theorem rev_next {rs : List Int} {k : Nat} (h : k < (prodI rs).toNat) (h0 : prodI rs ≠ 0) : (revI rs)[k]? = some (revV rs k) := by
  unfold revI
  rw [if_neg h0, List.getElem?_map, List.getElem?_range h]; rfl
theorem revI_len {rs : List Int} (h0 : prodI rs ≠ 0) : (revI rs).length = (prodI rs).toNat := by
  unfold revI
  rw [if_neg h0, List.length_map, List.length_range]
set_option maxHeartbeats 2000000 in
theorem refrev_run (p : Option Addr) (n cap : Nat) (rs : List Int) (w : World) (hA : IL w p n rs) (hn : n ≤ 4611686018427387904) :
    Calls Try.prog 18 #[.slice p n cap] w fun r w' => ∃ q m c, r = .returned (.tuple #[.slice q m c, .int .i64 (revE rs)]) ∧ IL w' q m (revI rs) ∧ Bel w w' := by
  have hP := prod_run p n cap rs w hA hn
  obtain ⟨hp0, hp1⟩ := prodI_le rs
  by_cases h0 : prodI rs = 0
  · have e1 : revE rs = 2 := by unfold revE; rw [if_pos h0]
    have e2 : revI rs = [] := by unfold revI; rw [if_pos h0]
    rw [e1, e2]
    rw [h0] at hP
    clear hA h0 hp0 hp1 e1 e2
    go_enter Try.func18, Try.ntmps18
    go_wp2_with fail
    refine hP.mono ?_; rintro r w1 ⟨rfl, rfl⟩
    go_wp2
    refine bodyPost_ret (by simp [results, go_sem]; try rfl) rfl ?_
    exact ⟨none, 0, 0, rfl, IL.nil _ _, Bel.refl _⟩
  · have e1 : revE rs = 0 := by unfold revE; rw [if_neg h0]
    have hn30 : n ≤ 30 := by rw [← hA.len]; exact (prodI_mem h0).1
    have hnx : ∀ k, k < (prodI rs).toNat → (revI rs)[k]? = some (revV rs k) := fun k h => rev_next h h0
    have hll := revI_len h0
    have hdE : ∀ k : Nat, k < (prodI rs).toNat → digE (k : Int) rs = 0 ∧ digL (k : Int) rs = digs (k : Int) rs := by
      intro k hk
      have e : digE (k : Int) rs = 0 := by unfold digE; rw [if_neg h0, if_neg (by omega)]
      exact ⟨e, by unfold digL; rw [e]; rfl⟩
    rw [e1]
    obtain ⟨P, hPP⟩ : ∃ P, P = (prodI rs).toNat := ⟨_, rfl⟩
    have hPi : prodI rs = (P : Int) := by omega
    rw [hPi] at hP h0
    rw [← hPP] at hnx hdE hll
    have hP1 : P ≤ 1048576 := by omega
    have t0 : ((P : Int) == 0) = false := by rw [beq_eq_false_iff_ne]; exact h0
    obtain ⟨i0, hi, hz0, hz1, hz2⟩ := info_parts int_info
    have HA := Lib.hid hA
    have HX := Lib.hid hnx
    have HE := Lib.hid hdE
    have HL := Lib.hid hll
    have hT := turned_run p n cap rs w hA (by omega)
    clear hA h0 hp0 hp1 e1 hPP hPi hnx hdE hll
    go_enter Try.func18, Try.ntmps18
    go_wp2_with fail
    refine hP.mono ?_; rintro r w1 ⟨rfl, rfl⟩
    go_wp2_with fail
    refine hT.mono ?_; rintro r w1 ⟨q1, c1, rfl, hback, g1⟩
    clear hP hT
    go_wp2
    go_loopw [6, 7, 8, 9, 10, 11] (fun v a _ _ _ _ wr => ∃ k : Nat, k ≤ P ∧ a = .int .i64 (k : Int) ∧ wr.ownsRow w1.heap.size 3 1 v k (((revI rs).take k).map (Value.int .i64)) ∧ Bel w1 wr) (fun _ a _ _ _ _ _ => P - (intOf a).toNat)
    case atStart => exact ⟨0, by omega, by simp, ⟨by simp, Or.inl ⟨rfl, rfl⟩⟩, Bel.refl _⟩
    case round =>
      obtain ⟨k, hk, rfl, hown, hB⟩ := hrel
      by_cases hlt : k < P
      · obtain ⟨d1, d2⟩ := HE.out k hlt
        have hD := fun w' (g : Bel w w') => refdig_run (k : Int) p n cap rs w' (HA.out.bel g) hn (by omega)
        rw [d1, d2] at hD
        have hnext := ints_take (HX.out k hlt)
        have hrv : revV rs k = (numR (digs (k : Int) rs).reverse rs.reverse).1 := rfl
        rw [hrv] at hnext
        have hnextH := Lib.hid hnext
        obtain ⟨L, hL⟩ : ∃ L, L = ((revI rs).take k).map (Value.int .i64) := ⟨_, rfl⟩
        rw [← hL] at hown hnextH
        have hdl : (digs (k : Int) rs).length = n := by rw [digs_len, HA.out.len]
        clear hL d1 d2 hrv hnext HA HX HE HL
        go_wp2_with fail
        refine (hD _ (g1.trans hB)).mono ?_; rintro r w2 ⟨q2, m2, c2, rfl, hd, g2⟩
        have em : m2 = n := by rw [← hd.len]; exact hdl
        subst em
        clear hdl hD
        go_wp2_with fail
        refine (turned_run _ _ _ _ _ hd (by omega)).mono ?_; rintro r w3 ⟨q3, c3, rfl, hd3, g3⟩
        go_wp2_with fail
        refine (num_run _ _ _ _ _ _ _ _ _ hd3 (((hback.bel hB).bel g2).bel g3) hn hn).mono ?_; rintro r w4 ⟨rfl, g4⟩
        obtain ⟨rv, hrv⟩ : ∃ rv, rv = (numR (digs (k : Int) rs).reverse rs.reverse).1 := ⟨_, rfl⟩
        rw [← hrv] at hnextH ⊢
        have g24 := (g2.trans g3).trans g4
        have hB4 := hB.trans g24
        have hown4 := ownsRow_bel hown g24
        clear hrv hd hd3 g2 g3 g4 g24 hB hown
        go_wp2_with (at_builtin; refine wpList_append_own _ rfl _ _ 22 rfl w1.heap.size 3 i0 (.int .i64 0) 1 8 Try.underlying22 hi hz0 hz1 hz2 rfl (by decide) _ _ _ rfl (hown4.alloc _) ⟨w4.heap.size, 0, none⟩ 1 1 [.int .i64 rv] rfl rfl ?c1 ?c2 ?c3 ?c4 ?c5 ?_)
        case c1 =>
          intro i x hi
          match i, hi with
          | 0, hi => simp at hi; subst hi; simp [Addr.add]
          | i + 1, hi => simp at hi
        case c2 => intro x hx; simp at hx; subst hx; rfl
        case c3 => unfold maxLen; omega
        case c4 => omega
        case c5 => have := hB4.size; simp; omega
        intro v' w5 hown5 hgrow _
        have hb5 := ((hB4.alloc _).grown hgrow (ownsRow_block hown4))
        rw [hnextH.out] at hown5
        clear hown4 hB4 hgrow
        go_wp2
        go_roundw
        case rel => exact ⟨k + 1, by omega, (by first | rfl | simp), hown5, hb5⟩
        case measure => first | (simp [intOf]; done) | (simp [intOf]; omega)
      · obtain rfl : k = P := by omega
        rw [List.take_of_length_le (by rw [HL.out]; omega)] at hown
        obtain ⟨q, c, rfl, hq⟩ := IL.own HL.out hown
        have hB2 := g1.trans hB
        clear hown HA HX HE HL hi hz0 hz1 hz2 hback g1 hB
        go_wp2
        refine bodyPost_ret (by simp [results, go_sem]; try rfl) rfl ?_
        exact ⟨q, _, c, rfl, hq, hB2⟩
end Go.Proofs.Ytniljnidpcgjgaa

/- What the landed index is to answer of digits, numbers, turned numbers. -/
namespace Go.Proofs.Ytniljnidpcgjgaa
open Go.RowKit

def DigSaid7 : Prop := ∀ (k : Int) (p : Option Addr) (n cap : Nat) (rs : List Int) (w : World), IL w p n rs → n * 8 ≤ 140737488351232 → -9223372036854775808 ≤ k ∧ k ≤ 9223372036854775807 →
  Calls Try.prog 10 #[.int .i64 k, .slice p n cap] w fun r w' => ∃ q m c, r = .returned (.tuple #[.slice q m c, .int .i64 (digE k rs)]) ∧ IL w' q m (digL k rs) ∧ Bel w w'
def NumSaid7 : Prop := ∀ (p q : Option Addr) (n m ca cb : Nat) (ds rs : List Int) (w : World), IL w p n ds → IL w q m rs → n * 8 ≤ 140737488351232 → m * 8 ≤ 140737488351232 →
  Calls Try.prog 12 #[.slice p n ca, .slice q m cb] w fun r w' => r = .returned (.tuple #[.int .i64 (numR ds rs).1, .int .i64 (numR ds rs).2]) ∧ Bel w w'
def RevSaid7 : Prop := ∀ (p : Option Addr) (n cap : Nat) (rs : List Int) (w : World), IL w p n rs → n * 8 ≤ 140737488351232 →
  Calls Try.prog 17 #[.slice p n cap] w fun r w' => ∃ q m c, r = .returned (.tuple #[.slice q m c, .int .i64 (revE rs)]) ∧ IL w' q m (revI rs) ∧ Bel w w'
def WakesSaid7 : Prop := ∀ w : World, Calls Try.prog 14 #[] w fun r w' => r = .returned (.bool true) ∧ Bel w w'
theorem IL.short {w : World} {p : Option Addr} {n m : Nat} {zs : List Int} (h : IL w p n zs) (hl : zs.length ≤ m) : n ≤ m := by rw [← h.len]; exact hl
theorem digL_len (k : Int) (rs : List Int) : (digL k rs).length ≤ rs.length := by
  unfold digL
  split
  · rw [digs_len]; exact Nat.le_refl _
  · exact Nat.zero_le _
end Go.Proofs.Ytniljnidpcgjgaa

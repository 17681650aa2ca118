/- A region that draws its order, by a closed list of its operations and their temporaries and one function that says what each leaves. -/
import Derived.Test.YtnclnbbnkfolgaaActs
namespace Go.Proofs.Ytnclnbbnkfolgaa
open Go.RowKit

/-- what stands at a place of a region -/
def OpAt (ops : Array Oper) (i : Nat) (d : Option Nat) (op : Op) (g : Option (Nat × Bool)) : Prop := ∃ o, ops[i]? = some o ∧ o.dst = d ∧ o.op = op ∧ o.guard = g
theorem OpAt.dst {ops : Array Oper} {i : Nat} {d : Option Nat} {op : Op} {g : Option (Nat × Bool)} (h : OpAt ops i d op g) : (ops[i]?).bind (·.dst) = d := by
  obtain ⟨o, h1, h2, _, _⟩ := h
  rw [h1]; exact h2
abbrev Its := List (Nat × Nat)
def lv (its : Its) (phi : Nat → Value → Prop) : Leaves := its.map fun c => (c.1, c.2, phi c.1)
theorem lv_mem {its : Its} {phi : Nat → Value → Prop} {i t : Nat} (h : (i, t) ∈ its) : (i, t, phi i) ∈ lv its phi := List.mem_map_of_mem (f := fun c : Nat × Nat => (c.1, c.2, phi c.1)) h
theorem lv_fst (its : Its) (phi : Nat → Value → Prop) : (lv its phi).map (·.1) = its.map (·.1) := by unfold lv; rw [List.map_map]; rfl
theorem lv_snd (its : Its) (phi : Nat → Value → Prop) : (lv its phi).map (·.2.1) = its.map (·.2) := by unfold lv; rw [List.map_map]; rfl
theorem lv_in {its : Its} {phi : Nat → Value → Prop} {c : Nat × Nat × (Value → Prop)} (h : c ∈ lv its phi) : (c.1, c.2.1) ∈ its ∧ c.2.2 = phi c.1 := by
  obtain ⟨d, hd, rfl⟩ := List.mem_map.1 h
  exact ⟨hd, rfl⟩
/-- the closed check that operations and temporaries are apart -/
def apartB (its : Its) (bs : List Blk) (n : Nat) : Bool :=
  decide (its.map (·.1)).Nodup && decide (its.map (·.2)).Nodup && decide (bs.map (·.a)).Nodup && decide (bs.map (·.p)).Nodup && decide (bs.map (·.s)).Nodup &&
  its.all (fun c => decide (c.1 < n) && bs.all fun b => decide (c.1 ≠ b.a) && decide (c.1 ≠ b.s) && decide (c.2 ≠ b.p)) &&
  bs.all (fun b => decide (b.a < n) && decide (b.s < n) && its.contains (b.vo, b.v) && bs.all fun b' => decide (b.a ≠ b'.s))
theorem apartB_apart {its : Its} {bs : List Blk} {n : Nat} (phi : Nat → Value → Prop) (h : apartB its bs n = true) : Apart (lv its phi) bs ∧ (∀ c ∈ lv its phi, c.1 < n) ∧ ∀ b ∈ bs, b.a < n ∧ b.s < n := by
  unfold apartB at h
  simp only [Bool.and_eq_true, decide_eq_true_eq, List.all_eq_true, List.contains_eq_mem] at h
  obtain ⟨⟨⟨⟨⟨⟨h1, h2⟩, h3⟩, h4⟩, h5⟩, h6⟩, h7⟩ := h
  refine ⟨⟨by rw [lv_fst]; exact h1, by rw [lv_snd]; exact h2, h3, h4, h5, fun c hc b hb => ?_, fun b hb b' hb' => (h7 b hb).2 b' hb', fun b hb => ⟨phi b.vo, lv_mem (h7 b hb).1.2⟩⟩, fun c hc => (h6 _ (lv_in hc).1).1, fun b hb => ⟨(h7 b hb).1.1.1, (h7 b hb).1.1.2⟩⟩
  have k := (h6 _ (lv_in hc).1).2 b hb
  exact ⟨k.1.1, k.1.2, k.2⟩
theorem wp_region_pv {P : Program} {ops : Array Oper} {Q : Exit → Act → World → Prop} {pre : Nat → List Nat} {id : Nat} {w1 : World} (act : (Nat → Value) → Act) (f0 : Nat → Value) (hm : P.follows .mixedOrders = true) (hc : chkN pre ops = true) (its : Its) (phi : Nat → Value → Prop) (bs : List Blk) (hA : apartB its bs ops.size = true)
    (hs : ∀ i, i < ops.size → Does P ops Q pre act (lv its phi) bs w1 i)
    (hQ : ∀ f w, Bel w1 w → (∀ i t, (i, t) ∈ its → phi i (f t)) → Filled bs w1 w f → Q .normal (act f) w) : (Code.region id ops true).wp P Q (act f0) w1 := by
  obtain ⟨a1, a2, a3⟩ := apartB_apart phi hA
  exact wp_region_gv act f0 hm hc _ _ a1 hs ⟨a2, a3⟩ fun f w hB h hF => hQ f w hB (fun i t hit => h _ (lv_mem hit)) hF
/-- the last operation waits for all others -/
theorem wp_region_pl {P : Program} {ops : Array Oper} {Q : Exit → Act → World → Prop} {pre : Nat → List Nat} {id z : Nat} {w1 : World} (act : (Nat → Value) → Act) (f0 : Nat → Value) (hm : P.follows .mixedOrders = true) (hc : chkN pre ops = true) (hz : z + 1 = ops.size) (hall : (List.range z).all (fun i => (pre z).contains i) = true) (its : Its) (phi : Nat → Value → Prop) (bs : List Blk) (hA : apartB its bs z = true)
    (hs : ∀ i, i < z → Does P ops Q pre act (lv its phi) bs w1 i)
    (hlast : ∀ f w, Bel w1 w → (∀ i t, (i, t) ∈ its → phi i (f t)) → Filled bs w1 w f → wpOp P ops Q z (fun a' w' => Q .normal a' w') (act f) w) : (Code.region id ops true).wp P Q (act f0) w1 := by
  obtain ⟨a1, a2, a3⟩ := apartB_apart phi hA
  have hall' : ∀ i, i < z → i ∈ pre z := fun i hi => by
    have := List.all_eq_true.1 hall i (List.mem_range.2 hi)
    simpa [List.contains_eq_mem] using this
  exact wp_region_last act f0 hm hc hz hall' _ _ a1 hs ⟨a2, a3⟩ fun f w hB h hF => hlast f w hB (fun i t hit => h _ (lv_mem hit)) hF
/-- an operation that leaves a value -/
theorem does_val {P : Program} {ops : Array Oper} {Q : Exit → Act → World → Prop} {pre : Nat → List Nat} {act : (Nat → Value) → Act} {its : Its} {phi : Nat → Value → Prop} {bs : List Blk} {w1 : World} {i : Nat} (t : Nat) (hit : (i, t) ∈ its)
    (h : ∀ f w, Bel w1 w → (∀ j s, (j, s) ∈ its → j ∈ pre i → phi j (f s)) → wpOp P ops Q i (fun a' w' => ∃ v, a' = act (tset f t v) ∧ phi i v ∧ Bel w w') (act f) w) : Does P ops Q pre act (lv its phi) bs w1 i :=
  .value t (phi i) (lv_mem hit) fun f w hB hp => h f w hB fun j s hj hji => hp (j, s, phi j) (lv_mem hj) hji
end Go.Proofs.Ytnclnbbnkfolgaa

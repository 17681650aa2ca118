/- Merged texts: RegL, Near5, Near5W, Acts, Turn5Q, Truth, AddsR. -/
import Derived.Test.YtpifkjmdcbieoaaM3
import Derived.Test.YtpifkjmdcbieoaaM2
import Derived.Deep.DeepCutAuto
/- A region that draws its order, whose last operation waits for all others. -/
namespace Go.Proofs.Ytpifkjmdcbieoaa
open Go.RowKit

theorem wp_region_last {P : Program} {ops : Array Oper} {Q : Exit → Act → World → Prop} {pre : Nat → List Nat} {id z : Nat} {w1 : World} (act : (Nat → Value) → Act) (f0 : Nat → Value) (hm : P.follows .mixedOrders = true) (hc : chkN pre ops = true) (hz : z + 1 = ops.size) (hall : ∀ i, i < z → i ∈ pre z)
    (ps : Leaves) (bs : List Blk) (hA : Apart ps bs) (hs : ∀ i, i < z → Does P ops Q pre act ps bs w1 i) (hsz : (∀ c ∈ ps, c.1 < z) ∧ ∀ b ∈ bs, b.a < z ∧ b.s < z)
    (hlast : ∀ f w, Bel w1 w → (∀ c ∈ ps, c.2.2 (f c.2.1)) → Filled bs w1 w f → wpOp P ops Q z (fun a' w' => Q .normal a' w') (act f) w) : (Code.region id ops true).wp P Q (act f0) w1 := by
  refine wp_region_set (pre := pre) hm hc (fun D a w => (D z = false ∧ ∃ f, a = act f ∧ RegI ps bs w1 D f w) ∨ ((∀ i, i < ops.size → D i = true) ∧ Q .normal a w)) (Or.inl ⟨rfl, f0, rfl, (Bel.refl w1).drew, fun _ _ h => absurd h Bool.false_ne_true, fun _ _ h => absurd h Bool.false_ne_true, fun _ _ _ _ _ h => absurd h Bool.false_ne_true, fun _ _ h => absurd h Bool.false_ne_true⟩) ?_ ?_
  · intro D a w i hi hD hp hI
    rcases hI with ⟨hDz, f, rfl, hI⟩ | ⟨hall', _⟩
    · by_cases e : i = z
      · subst e
        have hd : ∀ j, j < i → D j = true := fun j hj => hp j (hall j hj)
        refine wpOp_mono ?_ (hlast f w hI.bel (fun c hc => hI.gv c hc (hd _ (hsz.1 c hc))) ⟨fun b hb => ?_, fun b hb b' hb' hne => hI.ne b hb b' hb' hne (hd _ (hsz.2 b hb).1) (hd _ (hsz.2 b' hb').1)⟩)
        · intro a' w' hq
          refine Or.inr ⟨fun j hj => ?_, hq⟩
          by_cases e2 : j = i
          · subst e2; simp
          · show (D j || j == i) = true
            rw [hd j (by omega)]; rfl
        · obtain ⟨X, α, β, r1, r2, r3, r4⟩ := hI.bk b hb (hd _ (hsz.2 b hb).1)
          exact ⟨X, α, β, r1, r2, r3, r4 (hd _ (hsz.2 b hb).2)⟩
      · have hzD : (D z || z == i) = false := by
          rw [hDz, show (z == i) = false from by rw [beq_eq_false_iff_ne]; exact fun h => e h.symm]; rfl
        cases hs i (by omega) with
        | value t φ hmem h =>
          refine wpOp_mono ?_ (h f w hI.bel fun c hc hj => hI.gv c hc (hp _ hj))
          rintro a' w' ⟨v, rfl, hv, g⟩
          exact Or.inl ⟨hzD, _, rfl, hI.value hA hmem hD hv g⟩
        | alloc b hb hi' ty h =>
          subst hi'
          exact h f w _ (Or.inl ⟨hzD, _, rfl, hI.alloc hA hb hD ty⟩)
        | store b hb hi' ha hvo hφ h =>
          have h1 := hp _ ha
          have h2 := hp _ hvo
          subst hi'
          obtain ⟨φ, hz⟩ := hA.z b hb
          obtain ⟨u, v, hv⟩ := hφ φ hz _ (hI.gv _ hz h2)
          obtain ⟨X, α, β, r1, r2, r3, _⟩ := hI.bk b hb h1
          exact h f w _ X u v α β r1 hv r3 (Or.inl ⟨hzD, _, rfl, hI.store hA hb h1 h2 r1 r2 r3 hv⟩)
    · rw [hall' i hi] at hD
      exact absurd hD (by decide)
  · rintro D a w hD (⟨hDz, _⟩ | ⟨_, hq⟩)
    · rw [hD z (by omega)] at hDz
      exact absurd hDz (by decide)
    · exact hq
end Go.Proofs.Ytpifkjmdcbieoaa

/- The reference's Near (layer 5). -/
namespace Go.Proofs.Ytpifkjmdcbieoaa
open Go.RowKit

theorem eighth_any (w : World) : Calls Try.prog 40 #[] w fun r w' => r = .returned (V5 (fixD eighthN)) ∧ Bel w w' := by
  go_enter Try.func40, Try.ntmps40
  go_wp2
  refine bodyPost_ret (by simp [results, go_sem]; try rfl) rfl ?_
  exact ⟨rfl, (Bel.refl _).alloc _⟩
theorem step_index {o : Oper} {d : Option Nat} {a : Act} {w : World} {K : Act → World → Prop} {Q : Exit → Act → World → Prop} {t : TypeId} {s x : Operand} {p i v : Value} (hd : o.dst = d) (hop : o.op = .indexAddr t s x) (hs : a.eval s = p) (hx : a.eval x = i)
    (hrun : (Instr.indexAt t p i).run Try.prog w = .ok v w) (hK : K (a.put d v) w) : Oper.wp Try.prog o a w K Q := by
  subst hd
  unfold Oper.wp
  simp [execOp, hop, hs, hx, hrun]
  exact hK
theorem step_bin {o : Oper} {d : Option Nat} {a : Act} {w : World} {K : Act → World → Prop} {Q : Exit → Act → World → Prop} {b : BinOp} {t t' : TypeId} {s x : Operand} {p i v : Value} (hd : o.dst = d) (hop : o.op = .binOp b t s x t') (hs : a.eval s = p) (hx : a.eval x = i)
    (h1 : (eqGuard b t s x p i).run Try.prog w = .ok () w) (h2 : (binOp b t p i).run Try.prog w = .ok v w) (hK : K (a.put d v) w) : Oper.wp Try.prog o a w K Q := by
  subst hd
  unfold Oper.wp
  have h3 : (execOp a.eval o).run Try.prog w = .ok (.value v) w := by
    simp only [execOp, hop, hs, hx]
    simp [Sem.run_bind, h1, h2]
  rw [h3]
  exact hK
theorem rem4_guard (w : World) (i : Nat) (s x : Operand) : (eqGuard .rem 2 s x (.int .i64 (i : Int)) (.int .i64 4)).run Try.prog w = .ok () w := by simp [go_sem]
theorem rem4_run (w : World) (i r : Nat) (h : r = i % 4) : (binOp .rem 2 (.int .i64 (i : Int)) (.int .i64 4)).run Try.prog w = .ok (.int .i64 (r : Int)) w := by
  simp [go_sem]
  rw [Int.tmod_eq_emod_of_nonneg (by omega)]
  omega
theorem at4_run (w : World) (S r : Nat) (h : r < 4) : (Instr.indexAt 68 (.pointer (some ⟨S, 0, none⟩)) (.int .i64 (r : Int))).run Try.prog w = .ok (.pointer (some ⟨S, r * 5, none⟩)) w := by
  simp [go_sem]
  intro h2
  omega
/-- four numbers in a block -/
def FourAt (w : World) (S : Nat) (s : Nat → Nat) : Prop := CellsAt 20 w S (fun j => fixD (s (j / 5)) (j % 5))
theorem FourAt.get {w : World} {S : Nat} {s : Nat → Nat} (h : FourAt w S s) {r : Nat} (hr : r < 4) {j : Nat} (hj : j < 5) : w.cell? ⟨S, r * 5 + j, none⟩ = some (.int .i64 (fixD (s r) j)) ∧ w.frozen? ⟨S, r * 5 + j, none⟩ = false := by
  have this : w.cell? ⟨S, r * 5 + j, none⟩ = some (.int .i64 (fixD (s ((r * 5 + j) / 5)) ((r * 5 + j) % 5))) ∧ w.frozen? ⟨S, r * 5 + j, none⟩ = false := h (r * 5 + j) (by omega)
  rw [show (r * 5 + j) / 5 = r from by omega, show (r * 5 + j) % 5 = j from by omega] at this
  exact this
def set5o (w : World) (R o : Nat) (v : Nat → Int) : World := ((((w.setCell ⟨R, o, none⟩ (.int .i64 (v 0))).setCell ⟨R, o + 1, none⟩ (.int .i64 (v 1))).setCell ⟨R, o + 2, none⟩ (.int .i64 (v 2))).setCell ⟨R, o + 3, none⟩ (.int .i64 (v 3))).setCell ⟨R, o + 4, none⟩ (.int .i64 (v 4))
theorem Bel.set5o {a w : World} {R : Nat} (h : Bel a w) (hR : a.heap.size ≤ R) (o : Nat) (v : Nat → Int) : Bel a (set5o w R o v) :=
  ((((h.setCell (p := ⟨R, o, none⟩) hR _).setCell (p := ⟨R, o + 1, none⟩) hR _).setCell (p := ⟨R, o + 2, none⟩) hR _).setCell (p := ⟨R, o + 3, none⟩) hR _).setCell (p := ⟨R, o + 4, none⟩) hR _
theorem CellsAt.so5o {n : Nat} {w : World} {g : Nat} {f : Nat → Int} (h : CellsAt n w g f) {X : Nat} (hX : g ≠ X) (o : Nat) (v : Nat → Int) : CellsAt n (set5o w X o v) g f := ((((h.so hX _).so hX _).so hX _).so hX _).so hX _
theorem FourAt.set {w : World} {S : Nat} {s : Nat → Nat} (h : FourAt w S s) {r : Nat} (hr : r < 4) (v : Nat) : FourAt (set5o w S (r * 5) (fixD v)) S (fun k => if k = r then v else s k) := by
  have h0 := CellsAt.put h (k := r * 5) (by omega) (fixD v 0)
  have h1 := h0.put (k := r * 5 + 1) (by omega) (fixD v 1)
  have h2 := h1.put (k := r * 5 + 2) (by omega) (fixD v 2)
  have h3 := h2.put (k := r * 5 + 3) (by omega) (fixD v 3)
  have h4 := h3.put (k := r * 5 + 4) (by omega) (fixD v 4)
  refine h4.congr fun i hi => ?_
  show upd _ _ _ i = fixD (if i / 5 = r then v else s (i / 5)) (i % 5)
  unfold upd
  by_cases c : i / 5 = r
  · rw [if_pos c]
    have hm : i % 5 < 5 := Nat.mod_lt _ (by decide)
    have e : i = r * 5 + i % 5 := by omega
    obtain ⟨m, hmm⟩ : ∃ m, m = i % 5 := ⟨_, rfl⟩
    rw [← hmm] at e hm ⊢
    subst e
    match m, hm with
    | 0, _ => simp
    | 1, _ => simp
    | 2, _ => simp
    | 3, _ => simp
    | 4, _ => simp
  · rw [if_neg c, if_neg (by omega), if_neg (by omega), if_neg (by omega), if_neg (by omega), if_neg (by omega)]
/-- the five stores into one of the four -/
theorem store_four {w : World} {S : Nat} {s : Nat → Nat} (h : FourAt w S s) {r : Nat} (hr : r < 4) (v : Nat) : (Instr.storeAt 37 (.pointer (some ⟨S, r * 5, none⟩)) (V5 (fixD v))).run Try.prog w = .ok () (set5o w S (r * 5) (fixD v)) := by
  have h0 := CellsAt.put h (k := r * 5) (by omega) (fixD v 0)
  have h1 := h0.put (k := r * 5 + 1) (by omega) (fixD v 1)
  have h2 := h1.put (k := r * 5 + 2) (by omega) (fixD v 2)
  have h3 := h2.put (k := r * 5 + 3) (by omega) (fixD v 3)
  obtain ⟨c0, z0⟩ := h (r * 5) (by omega)
  obtain ⟨c1, z1⟩ := h0 (r * 5 + 1) (by omega)
  obtain ⟨c2, z2⟩ := h1 (r * 5 + 2) (by omega)
  obtain ⟨c3, z3⟩ := h2 (r * 5 + 3) (by omega)
  obtain ⟨c4, z4⟩ := h3 (r * 5 + 4) (by omega)
  unfold V5 set5o
  simp [go_sem, c0, z0, c1, z1, c2, z2, c3, z3, c4, z4]
theorem load_four {w : World} {S : Nat} {s : Nat → Nat} (h : FourAt w S s) {r : Nat} (hr : r < 4) : (Instr.loadAt 37 (.pointer (some ⟨S, r * 5, none⟩))).run Try.prog w = .ok (V5 (fixD (s r))) w := by
  have c0 := (h.get hr (j := 0) (by decide)).1
  have c1 := (h.get hr (j := 1) (by decide)).1
  have c2 := (h.get hr (j := 2) (by decide)).1
  have c3 := (h.get hr (j := 3) (by decide)).1
  have c4 := (h.get hr (j := 4) (by decide)).1
  rw [Nat.add_zero] at c0
  unfold V5
  simp [go_sem, c0, c1, c2, c3, c4]
theorem lsum_add (f h : Nat → Int) : ∀ n, lsum (fun i => f i + h i) n = lsum f n + lsum h n
  | 0 => rfl
  | n + 1 => by
    show lsum (fun i => f i + h i) n + (f n + h n) * _ = lsum f n + f n * _ + (lsum h n + h n * _)
    rw [lsum_add f h n, Int.add_mul]; omega
theorem lsum_sub (f h : Nat → Int) : ∀ n, lsum (fun i => f i - h i) n = lsum f n - lsum h n
  | 0 => rfl
  | n + 1 => by
    show lsum (fun i => f i - h i) n + (f n - h n) * _ = lsum f n + f n * _ - (lsum h n + h n * _)
    rw [lsum_sub f h n, Int.sub_mul]; omega
theorem lsum_mul (f : Nat → Int) (m : Int) : ∀ n, lsum (fun i => f i * m) n = lsum f n * m
  | 0 => by simp [lsum]
  | n + 1 => by
    show lsum (fun i => f i * m) n + (f n * m) * _ = (lsum f n + f n * _) * m
    rw [lsum_mul f m n, Int.add_mul]
    have : f n * m * 2 ^ (30 * n) = f n * 2 ^ (30 * n) * m := by ac_rfl
    rw [this]
theorem fixD_na {v : Nat} (h : v < 1427247692705959881058285969449495136382746624) (i : Nat) : (fixD v i).natAbs ≤ 1073741824 := by
  have := fixD_le h i
  omega
/-- a number as its five limbs -/
theorem FV_eq (v : Nat) : FV v = .agg #[.int .i64 (fixD v 0), .int .i64 (fixD v 1), .int .i64 (fixD v 2), .int .i64 (fixD v 3), .int .i64 (fixD v 4)] := rfl
theorem plus_v (a b : Nat) (w : World) (ha : a < 1427247692705959881058285969449495136382746624) (hb : b < 1427247692705959881058285969449495136382746624) :
    Calls Try.prog 43 #[V5 (fixD a), V5 (fixD b)] w fun r w' => r = .returned (V5 (fixD (a + b))) ∧ Bel w w' :=
  plus_raw (fixD a) (fixD b) (a + b) w (fun i _ => fixD_na ha i) (fun i _ => fixD_na hb i) (by rw [lsum_add, fixD_sum, fixD_sum]; omega)
theorem minus_v (a b : Nat) (w : World) (ha : a < 1427247692705959881058285969449495136382746624) (hb : b ≤ a) :
    Calls Try.prog 45 #[V5 (fixD a), V5 (fixD b)] w fun r w' => r = .returned (V5 (fixD (a - b))) ∧ Bel w w' :=
  minus_raw (fixD a) (fixD b) (a - b) w (fun i _ => fixD_na ha i) (fun i _ => fixD_na (Nat.lt_of_le_of_lt hb ha) i) (by rw [lsum_sub, fixD_sum, fixD_sum]; omega)
theorem often_v (a n : Nat) (w : World) (ha : a < 1427247692705959881058285969449495136382746624) (hn : n ≤ 1073741824) :
    Calls Try.prog 41 #[V5 (fixD a), .int .i64 (n : Int)] w fun r w' => r = .returned (V5 (fixD (a * n))) ∧ Bel w w' :=
  often_raw (fixD a) n (a * n) w (fun i _ => fixD_na ha i) (by omega) (by rw [lsum_mul, fixD_sum, Int.natCast_mul])
theorem over_v' (v n : Nat) (w : World) (hv : v < 1427247692705959881058285969449495136382746624) (hn : 0 < n) (hn2 : n ≤ 1073741824) :
    Calls Try.prog 42 #[V5 (fixD v), .int .i64 (n : Int)] w fun r w' => r = .returned (V5 (fixD (v / n))) ∧ Bel w w' := over_v v n w hv hn hn2
theorem pow122 : (2 : Nat) ^ 122 = 5316911983139663491615228241121378304 := by decide
theorem times_v (a b : Nat) (w : World) (ha : a < 5316911983139663491615228241121378304) (hb : b < 5316911983139663491615228241121378304) :
    Calls Try.prog 44 #[V5 (fixD a), V5 (fixD b)] w fun r w' => r = .returned (V5 (fixD (a * b / 2 ^ 120))) ∧ Bel w w' :=
  times_raw (fixD a) (fixD b) a b w (fun i => fixD_le (by omega) i) (fun i => fixD_le (by omega) i) (fixD_sum a) (fixD_sum b) (by rw [pow122]; exact ha) (by rw [pow122]; exact hb)
end Go.Proofs.Ytpifkjmdcbieoaa

/- The reference's Near (layer 5): the walk. -/
namespace Go.Proofs.Ytpifkjmdcbieoaa
open Go.RowKit

theorem eighthN_lt : eighthN < one120 := by decide
theorem nearX_le {r n : Nat} (h : r ≤ n) : eighthN * r / n ≤ one120 := by
  have h1 : eighthN * r ≤ n * eighthN := by rw [Nat.mul_comm]; exact Nat.mul_le_mul_right _ h
  exact Nat.le_trans (Nat.div_le_of_le_mul h1) (Nat.le_of_lt eighthN_lt)
theorem four_zero (w : World) (t : TypeId) (N : Nat) (h : N = w.heap.size) (X : Nat) : FourAt (w.alloc (.cells #[.int .i64 0, .int .i64 0, .int .i64 0, .int .i64 0, .int .i64 0, .int .i64 0, .int .i64 0, .int .i64 0, .int .i64 0, .int .i64 0, .int .i64 0, .int .i64 0, .int .i64 0, .int .i64 0, .int .i64 0, .int .i64 0, .int .i64 0, .int .i64 0, .int .i64 0, .int .i64 0] t)) N (fun k => sumN X k 0) := by
  subst h
  intro i hi
  refine ⟨?_, frozen_of_row _ _ i _ t (heap_alloc_new w _)⟩
  rw [World.cell?_alloc_new]
  have h0 : ∀ j, fixD (sumN X (i / 5) 0) j = 0 := fun j => by
    show fixD 0 j = 0
    match j with
    | 0 => rfl
    | 1 => rfl
    | 2 => rfl
    | 3 => rfl
    | (_ + 4) => rfl
  show _ = some (Value.int .i64 (fixD (sumN X (i / 5) 0) (i % 5)))
  rw [h0]
  have : ∀ i, i < 20 → (#[Value.int .i64 0, .int .i64 0, .int .i64 0, .int .i64 0, .int .i64 0, .int .i64 0, .int .i64 0, .int .i64 0, .int .i64 0, .int .i64 0, .int .i64 0, .int .i64 0, .int .i64 0, .int .i64 0, .int .i64 0, .int .i64 0, .int .i64 0, .int .i64 0, .int .i64 0, .int .i64 0] : Array Value)[i]? = some (.int .i64 0) := by
    intro i hi
    match i, hi with
    | 0, _ => rfl
    | 1, _ => rfl
    | 2, _ => rfl
    | 3, _ => rfl
    | 4, _ => rfl
    | 5, _ => rfl
    | 6, _ => rfl
    | 7, _ => rfl
    | 8, _ => rfl
    | 9, _ => rfl
    | 10, _ => rfl
    | 11, _ => rfl
    | 12, _ => rfl
    | 13, _ => rfl
    | 14, _ => rfl
    | 15, _ => rfl
    | 16, _ => rfl
    | 17, _ => rfl
    | 18, _ => rfl
    | 19, _ => rfl
    | (n + 20), h => exact absurd h (by omega)
  exact this i hi
theorem FourAt.bel {w w' : World} {S : Nat} {s : Nat → Nat} (h : FourAt w S s) (hB : Bel w w') (hg : S < w.heap.size) : FourAt w' S s := CellsAt.bel h hB hg
def nearPre (i : Nat) : List Nat := match i with | 1 => [0] | 3 => [2] | 4 => [3] | 5 => [4] | 7 => [5, 6] | 8 => [1] | 9 => [0, 1, 2, 3, 4, 5, 6, 7, 8] | _ => []
def nearPs (i ρ S a b : Nat) : Leaves := [(0, 25, fun z => z = .int .i64 (i : Int)), (1, 26, fun z => z = .int .i64 (ρ : Int)), (2, 27, fun z => z = .int .i64 (i : Int)), (3, 28, fun z => z = .int .i64 (ρ : Int)), (4, 29, fun z => z = .pointer (some ⟨S, ρ * 5, none⟩)), (5, 30, fun z => z = V5 (fixD a)), (6, 31, fun z => z = V5 (fixD b)), (7, 32, fun z => z = V5 (fixD (a + b))), (8, 33, fun z => z = .pointer (some ⟨S, ρ * 5, none⟩))]
theorem near_apart (i ρ S a b : Nat) : Apart (nearPs i ρ S a b) [] := ⟨by simp [nearPs], by simp [nearPs], by simp, by simp, by simp, by simp, by simp, by simp⟩
theorem term_small {X : Nat} (hX : X ≤ one120) (i : Nat) : termN X i < 1427247692705959881058285969449495136382746624 := Nat.lt_of_le_of_lt (termN_le hX i) (by decide)
theorem sumN_small {X : Nat} (hX : X ≤ one120) (r : Nat) {i : Nat} (hi : i ≤ 32) : sumN X r i < 1427247692705959881058285969449495136382746624 := by
  have h1 := sumN_le hX r i
  have h2 : i * one120 ≤ 32 * one120 := Nat.mul_le_mul_right _ hi
  exact Nat.lt_of_le_of_lt (Nat.le_trans h1 h2) (by decide)
theorem step_put {o : Oper} {d : Option Nat} {a : Act} {w w' : World} {K : Act → World → Prop} {Q : Exit → Act → World → Prop} {t : TypeId} {s x : Operand} {p v : Value} (hd : o.dst = d) (hop : o.op = Op.store t s x) (hs : a.eval s = p) (hx : a.eval x = v)
    (hrun : (Instr.storeAt t p v).run Try.prog w = .ok () w') (hd0 : d = none) (hK : K a w') : Oper.wp Try.prog o a w K Q := by
  subst hd0
  unfold Oper.wp
  simp [execOp, hop, hs, hx, hrun]
  show K (a.put o.dst undef) w'
  rw [hd]
  exact hK
def outW (w : World) (A : Nat) (c s : Nat → Int) (D : Nat → Bool) : World := if D 3 = true then set5 (set5 w A c) (A + 1) s else if D 2 = true then set5 w A c else w
def outPre (i : Nat) : List Nat := match i with | 2 => [0] | 3 => [1, 2] | _ => []
/-- 'return c, s' of two numbers: the region that draws its order -/
theorem pair_out {Q : Exit → Act → World → Prop} {ops : Array Oper} {id : Nat} {w : World} (act : (Nat → Value) → Act) (A C G : Nat) (c s : Nat → Int) (hC : A + 1 < C) (hG : A + 1 < G) (ta : CellsAt 5 w A (fun _ => 0)) (tb : CellsAt 5 w (A + 1) (fun _ => 0)) (tC : CellsAt 5 w C c) (tG : CellsAt 5 w G s)
    (hops : ∃ y0 y1 y2 y3 q0 q1 q2 q3 f0 f1 f2 f3, ops = #[
      { dst := some 51, op := .load 37 (.tmp 10), type := y0, pos := q0, after := f0, guard := none },
      { dst := some 52, op := .load 37 (.tmp 11), type := y1, pos := q1, after := f1, guard := none },
      { dst := none, op := .store 37 (.tmp 4) (.tmp 51), type := y2, pos := q2, after := f2, guard := none },
      { dst := none, op := .store 37 (.tmp 5) (.tmp 52), type := y3, pos := q3, after := f3, guard := none }])
    (hchk : chkN outPre ops = true)
    (p1 : ∀ f v, (act f).put (some 51) v = act (tset f 51 v)) (p2 : ∀ f v, (act f).put (some 52) v = act (tset f 52 v)) (e1 : ∀ f, (act f).eval (.tmp 10) = .pointer (some ⟨C, 0, none⟩)) (e2 : ∀ f, (act f).eval (.tmp 11) = .pointer (some ⟨G, 0, none⟩)) (e3 : ∀ f, (act f).eval (.tmp 4) = .pointer (some ⟨A, 0, none⟩)) (e4 : ∀ f, (act f).eval (.tmp 5) = .pointer (some ⟨A + 1, 0, none⟩)) (e5 : ∀ f, (act f).eval (.tmp 51) = f 51) (e6 : ∀ f, (act f).eval (.tmp 52) = f 52)
    (f0 : Nat → Value) (hQ : ∀ f, Q .normal (act f) (set5 (set5 w.drew A c) (A + 1) s)) : (Code.region id ops true).wp Try.prog Q (act f0) w := by
  obtain ⟨y0, y1, y2, y3, q0, q1, q2, q3, g0, g1, g2, g3, rfl⟩ := hops
  refine wp_region_set (pre := outPre) (by kernel_rfl) hchk (fun D a w' => ∃ f, a = act f ∧ w' = outW w.drew A c s D ∧ (D 0 = true → f 51 = V5 c) ∧ (D 1 = true → f 52 = V5 s) ∧ (D 3 = true → D 2 = true)) ⟨f0, rfl, rfl, fun h => absurd h Bool.false_ne_true, fun h => absurd h Bool.false_ne_true, fun h => absurd h Bool.false_ne_true⟩ ?_ ?_
  · rintro D a w' i hi hD hp ⟨f, rfl, rfl, k0, k1, k3⟩
    have hi : i < 4 := hi
    have tCw : CellsAt 5 (outW w.drew A c s D) C c := by
      unfold outW
      by_cases h3 : D 3 = true
      · rw [if_pos h3]; exact (CellsAt.so5 (CellsAt.so5 tC.dr (by omega) c) (by omega) s)
      · rw [if_neg h3]
        by_cases h2 : D 2 = true
        · rw [if_pos h2]; exact CellsAt.so5 tC.dr (by omega) c
        · rw [if_neg h2]; exact tC.dr
    have tGw : CellsAt 5 (outW w.drew A c s D) G s := by
      unfold outW
      by_cases h3 : D 3 = true
      · rw [if_pos h3]; exact (CellsAt.so5 (CellsAt.so5 tG.dr (by omega) c) (by omega) s)
      · rw [if_neg h3]
        by_cases h2 : D 2 = true
        · rw [if_pos h2]; exact CellsAt.so5 tG.dr (by omega) c
        · rw [if_neg h2]; exact tG.dr
    match i, hi with
    | 0, _ =>
      refine wpOp_go rfl rfl (step_load (d := some 51) rfl rfl (e1 f) (load_fixed tCw) ?_)
      rw [p1]
      exact ⟨_, rfl, by simp [outW], fun _ => rfl, fun h => k1 (dn (by decide) h), fun h => dup (k3 (dn (by decide) h))⟩
    | 1, _ =>
      refine wpOp_go rfl rfl (step_load (d := some 52) rfl rfl (e2 f) (load_fixed tGw) ?_)
      rw [p2]
      exact ⟨_, rfl, by simp [outW], fun h => k0 (dn (by decide) h), fun _ => rfl, fun h => dup (k3 (dn (by decide) h))⟩
    | 2, _ =>
      have h3 : ¬ D 3 = true := fun h => by rw [k3 h] at hD; exact Bool.false_ne_true hD.symm
      have h2 : ¬ D 2 = true := by rw [hD]; decide
      have eW : outW w.drew A c s D = w.drew := by unfold outW; rw [if_neg h3, if_neg h2]
      have hst : (Instr.storeAt 37 (.pointer (some ⟨A, 0, none⟩)) (V5 c)).run Try.prog (outW w.drew A c s D) = .ok () (set5 w.drew A c) := by rw [eW]; exact store_fixed (ta.dr.mid c)
      refine wpOp_go rfl rfl (step_put (d := none) rfl rfl (e3 f) ((e5 f).trans (k0 (hp 0 (by decide)))) hst rfl ?_)
      refine ⟨f, rfl, ?_, fun h => k0 (dn (by decide) h), fun h => k1 (dn (by decide) h), fun _ => by simp⟩
      unfold outW
      rw [if_neg (fun h => h3 (dn (by decide) h)), if_pos (by simp)]
    | 3, _ =>
      have h2 : D 2 = true := hp 2 (by decide)
      have h3 : ¬ D 3 = true := by rw [hD]; decide
      have eW : outW w.drew A c s D = set5 w.drew A c := by unfold outW; rw [if_neg h3, if_pos h2]
      have hst : (Instr.storeAt 37 (.pointer (some ⟨A + 1, 0, none⟩)) (V5 s)).run Try.prog (outW w.drew A c s D) = .ok () (set5 (set5 w.drew A c) (A + 1) s) := by rw [eW]; exact store_fixed ((CellsAt.so5 tb.dr (by omega) c).mid s)
      refine wpOp_go rfl rfl (step_put (d := none) rfl rfl (e4 f) ((e6 f).trans (k1 (hp 1 (by decide)))) hst rfl ?_)
      refine ⟨f, rfl, ?_, fun h => k0 (dn (by decide) h), fun h => k1 (dn (by decide) h), fun _ => dup h2⟩
      unfold outW
      rw [if_pos (by simp)]
  · rintro D a w' hD ⟨f, rfl, rfl, _, _, _⟩
    have e : outW w.drew A c s D = set5 (set5 w.drew A c) (A + 1) s := by unfold outW; rw [if_pos (hD 3 (show 3 < 4 by decide))]
    rw [e]
    exact hQ f
set_option maxHeartbeats 4000000 in
theorem near_any (r n : Nat) (w : World) (hr : r ≤ n) (hn : 0 < n) (hn2 : n ≤ 536870912) :
    Calls Try.prog 26 #[.int .i64 (r : Int), .int .i64 (n : Int)] w fun q w' => q = .returned (.tuple #[V5 (fixD (cosN (eighthN * r / n))), V5 (fixD (sinN (eighthN * r / n)))]) ∧ Bel w w' := by
  have E := eighth_any
  have hXle := nearX_le hr
  have e150 : eighthN < 1427247692705959881058285969449495136382746624 := by decide
  have e121 : one120 < 5316911983139663491615228241121378304 := by decide
  have hm : eighthN * r < 1427247692705959881058285969449495136382746624 := by
    have h1 : eighthN * r ≤ one120 * 536870912 := Nat.mul_le_mul (Nat.le_of_lt eighthN_lt) (by omega)
    have h2 : one120 * 536870912 < 1427247692705959881058285969449495136382746624 := by decide
    omega
  have O := fun w => often_v eighthN r w e150 (by omega)
  have V := fun w => over_v' (eighthN * r) n w hm hn (by omega)
  obtain ⟨X, hX⟩ : ∃ X, X = eighthN * r / n := ⟨_, rfl⟩
  rw [← hX] at V hXle ⊢
  clear hX
  obtain ⟨A, hA⟩ : ∃ A, A = w.heap.size := ⟨_, rfl⟩
  obtain ⟨w0, hw0⟩ : ∃ w0, w0 = (w.alloc (.cells #[.int .i64 0, .int .i64 0, .int .i64 0, .int .i64 0, .int .i64 0] 37)).alloc (.cells #[.int .i64 0, .int .i64 0, .int .i64 0, .int .i64 0, .int .i64 0] 37) := ⟨_, rfl⟩
  have ta : CellsAt 5 w0 A (fun _ => 0) := by rw [hw0]; exact (five_zero w _ A hA).bel ((Bel.refl _).alloc _) (by simp [hA])
  have tb : CellsAt 5 w0 (A + 1) (fun _ => 0) := by rw [hw0]; exact five_zero _ _ (A + 1) (by simp [hA])
  have hB0 : Bel w w0 := by rw [hw0]; exact ((Bel.refl w).alloc _).alloc _
  have hAw := Lib.hid (show w.heap.size ≤ A ∧ w.heap.size ≤ A + 1 by omega)
  have la := ta.lt (by decide)
  have lb := tb.lt (by decide)
  unfold V5 at E O V
  have hNum := Lib.hid (And.intro hXle (And.intro e121 (And.intro hn2 hn)))
  clear e150 e121 hm hXle hn2 hn hr
  go_enter Try.func26, Try.ntmps26
  go_wp2_with fail
  rw [← hw0, ← hA]
  clear hw0
  refine (E _).mono ?_; rintro q w1 ⟨rfl, hB1⟩
  go_wp2_with fail
  obtain ⟨B, hBx⟩ : ∃ B, B = w1.heap.size := ⟨_, rfl⟩
  have tx := five_new w1 (fixD eighthN) 37 B hBx
  have hB2 := hB1.alloc (.cells #[.int .i64 (fixD eighthN 0), .int .i64 (fixD eighthN 1), .int .i64 (fixD eighthN 2), .int .i64 (fixD eighthN 3), .int .i64 (fixD eighthN 4)] 37)
  rw [← hBx]
  have hBw : A + 1 < B := by have := hB1.size; omega
  have hB0s : w0.heap.size ≤ B := by have := hB1.size; omega
  generalize w1.alloc (.cells #[.int .i64 (fixD eighthN 0), .int .i64 (fixD eighthN 1), .int .i64 (fixD eighthN 2), .int .i64 (fixD eighthN 3), .int .i64 (fixD eighthN 4)] 37) = w2 at tx hB2 ⊢
  clear hBx hB1
  have lx := tx.lt (by decide)
  refine (O _).mono ?_; rintro q w3 ⟨rfl, hB3⟩
  have tx3 := tx.bel hB3 lx
  obtain ⟨⟨x0, y0⟩, z0, ⟨x1, y1⟩, z1, ⟨x2, y2⟩, z2, ⟨x3, y3⟩, z3, ⟨x4, y4⟩, z4⟩ := tx3.mid (fixD (eighthN * r))
  have hset := tx3.set (fixD (eighthN * r))
  obtain ⟨s0, _⟩ := hset 0 (by decide)
  obtain ⟨s1, _⟩ := hset 1 (by decide)
  obtain ⟨s2, _⟩ := hset 2 (by decide)
  obtain ⟨s3, _⟩ := hset 3 (by decide)
  obtain ⟨s4, _⟩ := hset 4 (by decide)
  obtain ⟨w4, hw4⟩ : ∃ w4, w4 = set5 w3 B (fixD (eighthN * r)) := ⟨_, rfl⟩
  have hB4 : Bel w0 w4 := by rw [hw4]; exact (hB2.trans hB3).set5 hB0s _
  rw [← hw4] at hset
  unfold set5 at s0 s1 s2 s3 s4 hw4
  have lx4 := hset.lt (by decide)
  go_wp2_with fail
  rw [← hw4]
  clear hw4 s0 s1 s2 s3 s4 y0 z0 y1 z1 y2 z2 y3 z3 y4 z4 tx3 tx lx hB2 hB3
  refine (V _).mono ?_; rintro q w5 ⟨rfl, hB5⟩
  have tx5 := hset.bel hB5 lx4
  obtain ⟨⟨x0, y0⟩, z0, ⟨x1, y1⟩, z1, ⟨x2, y2⟩, z2, ⟨x3, y3⟩, z3, ⟨x4, y4⟩, z4⟩ := tx5.mid (fixD X)
  have hset6 := tx5.set (fixD X)
  obtain ⟨w6, hw6⟩ : ∃ w6, w6 = set5 w5 B (fixD X) := ⟨_, rfl⟩
  have hB6 : Bel w0 w6 := by rw [hw6]; exact (hB4.trans hB5).set5 hB0s _
  rw [← hw6] at hset6
  unfold set5 at hw6
  have hs6 : w6.heap.size = w5.heap.size := by rw [hw6]; simp
  clear hset tx5 hB4 hB5 lx4 E O V
  go_wp2
  rw [← hw6]
  obtain ⟨T, hT5⟩ : ∃ T, T = w5.heap.size := ⟨_, rfl⟩
  have hT : T = w6.heap.size := by rw [hs6]; exact hT5
  have tT : CellsAt 5 (w6.alloc (.cells #[.int .i64 0, .int .i64 0, .int .i64 0, .int .i64 0, .int .i64 1] 37)) T (fixD one120) := five_new w6 (fixD one120) _ T hT
  have lx6 := hset6.lt (by decide)
  have tB7 := hset6.bel ((Bel.refl w6).alloc (.cells #[.int .i64 0, .int .i64 0, .int .i64 0, .int .i64 0, .int .i64 1] 37)) lx6
  have hB7 := hB6.alloc (.cells #[.int .i64 0, .int .i64 0, .int .i64 0, .int .i64 0, .int .i64 1] 37)
  have hs7 : (w6.alloc (.cells #[.int .i64 0, .int .i64 0, .int .i64 0, .int .i64 0, .int .i64 1] 37)).heap.size = T + 1 := by simp [hT]
  have hBT : B < T := by omega
  have hT0 : w0.heap.size ≤ T := by omega
  rw [← hT5]
  clear hs6 hT5
  generalize w6.alloc (.cells #[.int .i64 0, .int .i64 0, .int .i64 0, .int .i64 0, .int .i64 1] 37) = w7 at tT tB7 hB7 hs7 ⊢
  have tS : FourAt (w7.alloc (.cells #[.int .i64 0, .int .i64 0, .int .i64 0, .int .i64 0, .int .i64 0, .int .i64 0, .int .i64 0, .int .i64 0, .int .i64 0, .int .i64 0, .int .i64 0, .int .i64 0, .int .i64 0, .int .i64 0, .int .i64 0, .int .i64 0, .int .i64 0, .int .i64 0, .int .i64 0, .int .i64 0] 68)) (T + 1) (fun k => sumN X k 0) := four_zero w7 _ (T + 1) hs7.symm X
  have lT7 := tT.lt (by decide)
  have lB7 := tB7.lt (by decide)
  have tT8 := tT.bel ((Bel.refl w7).alloc (.cells #[.int .i64 0, .int .i64 0, .int .i64 0, .int .i64 0, .int .i64 0, .int .i64 0, .int .i64 0, .int .i64 0, .int .i64 0, .int .i64 0, .int .i64 0, .int .i64 0, .int .i64 0, .int .i64 0, .int .i64 0, .int .i64 0, .int .i64 0, .int .i64 0, .int .i64 0, .int .i64 0] 68)) lT7
  have tB8 := tB7.bel ((Bel.refl w7).alloc (.cells #[.int .i64 0, .int .i64 0, .int .i64 0, .int .i64 0, .int .i64 0, .int .i64 0, .int .i64 0, .int .i64 0, .int .i64 0, .int .i64 0, .int .i64 0, .int .i64 0, .int .i64 0, .int .i64 0, .int .i64 0, .int .i64 0, .int .i64 0, .int .i64 0, .int .i64 0, .int .i64 0] 68)) lB7
  have hB8 := hB7.alloc (.cells #[.int .i64 0, .int .i64 0, .int .i64 0, .int .i64 0, .int .i64 0, .int .i64 0, .int .i64 0, .int .i64 0, .int .i64 0, .int .i64 0, .int .i64 0, .int .i64 0, .int .i64 0, .int .i64 0, .int .i64 0, .int .i64 0, .int .i64 0, .int .i64 0, .int .i64 0, .int .i64 0] 68)
  generalize w7.alloc (.cells #[.int .i64 0, .int .i64 0, .int .i64 0, .int .i64 0, .int .i64 0, .int .i64 0, .int .i64 0, .int .i64 0, .int .i64 0, .int .i64 0, .int .i64 0, .int .i64 0, .int .i64 0, .int .i64 0, .int .i64 0, .int .i64 0, .int .i64 0, .int .i64 0, .int .i64 0, .int .i64 0] 68) = w8 at tS tT8 tB8 hB8 ⊢
  clear hw6 hset6 hB6 hT lx6 tT tB7 hB7 lT7 lB7 y0 z0 y1 z1 y2 z2 y3 z3 y4 z4
  go_loopw [9] (fun x wr => ∃ i : Nat, i ≤ 32 ∧ x = .int .i64 (i : Int) ∧ CellsAt 5 wr B (fixD X) ∧ CellsAt 5 wr T (fixD (termN X i)) ∧ FourAt wr (T + 1) (fun k => sumN X k i) ∧ Bel w0 wr) (fun x _ => (32 - intOf x).toNat)
  case atStart => exact ⟨0, by omega, by simp, tB8, tT8, tS, hB8⟩
  case round =>
    obtain ⟨i, hi, rfl, hL, hM, hS, hB⟩ := hrel
    by_cases hlt : i < 32
    · have hdi : decide ((i : Int) < 32) = true := decide_eq_true (by omega)
      go_upto_region 9 with fail
      clear hdi
      have hP := fun w => plus_v (sumN X (i % 4) i) (termN X i) w (sumN_small hNum.out.1 (i % 4) (by omega)) (term_small hNum.out.1 i)
      have hrm : i % 4 < 4 := Nat.mod_lt _ (by decide)
      obtain ⟨ρ, hρ⟩ : ∃ ρ, ρ = i % 4 := ⟨_, rfl⟩
      rw [← hρ] at hP hrm
      refine wp_region_last (z := 9) (pre := nearPre) (fun f => { tmps := #[.int .i64 (r : Int), .int .i64 (n : Int), undef, undef, .pointer (some ⟨w.heap.size, 0, none⟩), .pointer (some ⟨w.heap.size + 1, 0, none⟩), .pointer (some ⟨B, 0, none⟩), .pointer (some ⟨T, 0, none⟩), .pointer (some ⟨T + 1, 0, none⟩), .int .i64 (i : Int), undef, undef, .agg #[.int .i64 (fixD (eighthN) 0), .int .i64 (fixD (eighthN) 1), .int .i64 (fixD (eighthN) 2), .int .i64 (fixD (eighthN) 3), .int .i64 (fixD (eighthN) 4)], .agg #[.int .i64 (fixD (eighthN) 0), .int .i64 (fixD (eighthN) 1), .int .i64 (fixD (eighthN) 2), .int .i64 (fixD (eighthN) 3), .int .i64 (fixD (eighthN) 4)], .int .i64 (r : Int), .agg #[.int .i64 (fixD (eighthN * r) 0), .int .i64 (fixD (eighthN * r) 1), .int .i64 (fixD (eighthN * r) 2), .int .i64 (fixD (eighthN * r) 3), .int .i64 (fixD (eighthN * r) 4)], .agg #[.int .i64 (fixD (eighthN * r) 0), .int .i64 (fixD (eighthN * r) 1), .int .i64 (fixD (eighthN * r) 2), .int .i64 (fixD (eighthN * r) 3), .int .i64 (fixD (eighthN * r) 4)], .int .i64 (n : Int), .agg #[.int .i64 (fixD (X) 0), .int .i64 (fixD (X) 1), .int .i64 (fixD (X) 2), .int .i64 (fixD (X) 3), .int .i64 (fixD (X) 4)], .agg #[.int .i64 0, .int .i64 0, .int .i64 0, .int .i64 0, .int .i64 1], .agg #[.int .i64 0, .int .i64 0, .int .i64 0, .int .i64 0, .int .i64 1], .int .i64 (i : Int), .bool true, u23, u24, f 25, f 26, f 27, f 28, f 29, f 30, f 31, f 32, f 33, u34, u35, u36, u37, u38, u39, u40, undef, undef, undef, undef, undef, undef, undef, undef, undef, undef, undef, undef], defers := [] }) (fun t => if t = 25 then u25 else if t = 26 then u26 else if t = 27 then u27 else if t = 28 then u28 else if t = 29 then u29 else if t = 30 then u30 else if t = 31 then u31 else if t = 32 then u32 else u33) (by kernel_rfl) (by decide +kernel) rfl (by decide) (nearPs i ρ (T + 1) (sumN X ρ i) (termN X i)) [] (near_apart ..) ?_ ⟨by simp [nearPs], by simp⟩ ?_
      · intro j hj
        match j, hj with
        | 0, _ => exact .value 25 (fun z => z = .int .i64 (i : Int)) (by simp [nearPs]) fun f w hB h => wpOp_go rfl rfl (step_move (d := some 25) rfl (Or.inl rfl) rfl ⟨_, rfl, rfl, Bel.refl _⟩)
        | 1, _ => exact .value 26 (fun z => z = .int .i64 (ρ : Int)) (by simp [nearPs]) fun f w hB h => wpOp_go rfl rfl (step_bin (d := some 26) rfl rfl (h (0, 25, fun z => z = .int .i64 (i : Int)) (by simp [nearPs]) (by simp [nearPre])) rfl (rem4_guard _ _ _ _) (rem4_run _ _ _ hρ) ⟨_, rfl, rfl, Bel.refl _⟩)
        | 2, _ => exact .value 27 (fun z => z = .int .i64 (i : Int)) (by simp [nearPs]) fun f w hB h => wpOp_go rfl rfl (step_move (d := some 27) rfl (Or.inl rfl) rfl ⟨_, rfl, rfl, Bel.refl _⟩)
        | 3, _ => exact .value 28 (fun z => z = .int .i64 (ρ : Int)) (by simp [nearPs]) fun f w hB h => wpOp_go rfl rfl (step_bin (d := some 28) rfl rfl (h (2, 27, fun z => z = .int .i64 (i : Int)) (by simp [nearPs]) (by simp [nearPre])) rfl (rem4_guard _ _ _ _) (rem4_run _ _ _ hρ) ⟨_, rfl, rfl, Bel.refl _⟩)
        | 4, _ => exact .value 29 (fun z => z = .pointer (some ⟨T + 1, ρ * 5, none⟩)) (by simp [nearPs]) fun f w hB h => wpOp_go rfl rfl (step_index (d := some 29) rfl rfl rfl (h (3, 28, fun z => z = .int .i64 (ρ : Int)) (by simp [nearPs]) (by simp [nearPre])) (at4_run _ _ _ hrm) ⟨_, rfl, rfl, Bel.refl _⟩)
        | 5, _ => exact .value 30 (fun z => z = V5 (fixD (sumN X ρ i))) (by simp [nearPs]) fun f w hB h => wpOp_go rfl rfl (step_load (d := some 30) rfl rfl (h (4, 29, fun z => z = .pointer (some ⟨T + 1, ρ * 5, none⟩)) (by simp [nearPs]) (by simp [nearPre])) (load_four (s := fun k => sumN X k i) (FourAt.bel hS hB (CellsAt.lt hS (by decide))) hrm) ⟨_, rfl, rfl, Bel.refl _⟩)
        | 6, _ => exact .value 31 (fun z => z = V5 (fixD (termN X i))) (by simp [nearPs]) fun f w hB h => wpOp_go rfl rfl (step_load (d := some 31) rfl rfl rfl (load_fixed (hM.bel hB (hM.lt (by decide)))) ⟨_, rfl, rfl, Bel.refl _⟩)
        | 7, _ => exact .value 32 (fun z => z = V5 (fixD (sumN X ρ i + termN X i))) (by simp [nearPs]) fun f w hB h => wpOp_go rfl rfl (step_call2 (d := some 32) rfl rfl (h (5, 30, fun z => z = V5 (fixD (sumN X ρ i))) (by simp [nearPs]) (by simp [nearPre])) (h (6, 31, fun z => z = V5 (fixD (termN X i))) (by simp [nearPs]) (by simp [nearPre])) (by kernel_rfl) ((hP _).mono fun _ _ ⟨k1, k2⟩ => ⟨_, k1, _, rfl, rfl, k2⟩))
        | 8, _ => exact .value 33 (fun z => z = .pointer (some ⟨T + 1, ρ * 5, none⟩)) (by simp [nearPs]) fun f w hB h => wpOp_go rfl rfl (step_index (d := some 33) rfl rfl rfl (h (1, 26, fun z => z = .int .i64 (ρ : Int)) (by simp [nearPs]) (by simp [nearPre])) (at4_run _ _ _ hrm) ⟨_, rfl, rfl, Bel.refl _⟩)
      · intro f wx hBx h hF
        have v33 : f 33 = .pointer (some ⟨T + 1, ρ * 5, none⟩) := h (8, 33, fun z => z = .pointer (some ⟨T + 1, ρ * 5, none⟩)) (by simp [nearPs])
        have v32 : f 32 = V5 (fixD (sumN X ρ i + termN X i)) := h (7, 32, fun z => z = V5 (fixD (sumN X ρ i + termN X i))) (by simp [nearPs])
        have lL := hL.lt (by decide)
        have lM := hM.lt (by decide)
        have lS := CellsAt.lt hS (by decide)
        have hL1 := hL.bel hBx lL
        have hM1 := hM.bel hBx lM
        have hS1 := FourAt.bel hS hBx lS
        have hst := store_four hS1 hrm (sumN X ρ i + termN X i)
        have hS2 := hS1.set hrm (sumN X ρ i + termN X i)
        have hL2 := hL1.so5o (X := T + 1) (by omega) (ρ * 5) (fixD (sumN X ρ i + termN X i))
        have hM2 := hM1.so5o (X := T + 1) (by omega) (ρ * 5) (fixD (sumN X ρ i + termN X i))
        have hB2 := (hB.trans hBx).set5o (show w0.heap.size ≤ T + 1 by omega) (ρ * 5) (fixD (sumN X ρ i + termN X i))
        have eS : (fun k => if k = ρ then sumN X ρ i + termN X i else sumN X k i) = fun k => sumN X k (i + 1) := by
          funext k
          by_cases c : k = ρ
          · subst c
            rw [if_pos rfl, hρ, sumN_at]
          · rw [if_neg c, sumN_other X (by rw [← hρ]; exact c)]
        rw [eS] at hS2
        refine wpOp_go rfl rfl (step_put (d := none) rfl rfl v33 v32 hst rfl ?_)
        generalize set5o wx (T + 1) (ρ * 5) (fixD (sumN X ρ i + termN X i)) = w9 at hL2 hM2 hS2 hB2 ⊢
        clear hst hS1 hL1 hM1 hL hM hS hB hBx h hF v33 v32 eS lL lM lS hP
        obtain ⟨hX1, hX2, hn2, hn⟩ := hNum.out
        have t121 : termN X i < 5316911983139663491615228241121378304 := Nat.lt_of_le_of_lt (termN_le hX1 i) hX2
        have x121 : X < 5316911983139663491615228241121378304 := Nat.lt_of_le_of_lt hX1 hX2
        have hTi := fun w => times_v (termN X i) X w t121 x121
        have m150 : termN X i * X / 2 ^ 120 < 1427247692705959881058285969449495136382746624 := by
          have h1 : termN X i * X / 2 ^ 120 ≤ one120 := by
            refine Nat.div_le_of_le_mul ?_
            rw [← one120_eq]
            exact Nat.mul_le_mul (termN_le hX1 i) hX1
          exact Nat.lt_of_le_of_lt h1 (by decide)
        have hOv := fun w => over_v' (termN X i * X / 2 ^ 120) (i + 1) w m150 (by omega) (by omega)
        have eT : termN X i * X / 2 ^ 120 / (i + 1) = termN X (i + 1) := rfl
        rw [eT] at hOv
        obtain ⟨μ, hμ⟩ : ∃ μ, μ = termN X i * X / 2 ^ 120 := ⟨_, rfl⟩
        rw [← hμ] at hTi hOv
        unfold V5 at hTi hOv
        rw [show ((i + 1 : Nat) : Int) = (i : Int) + 1 from by omega] at hOv
        have lM2 := hM2.lt (by decide)
        have lL2 := hL2.lt (by decide)
        have lS2 := CellsAt.lt hS2 (by decide)
        obtain ⟨g0, _⟩ := hM2 0 (by decide)
        obtain ⟨g1, _⟩ := hM2 1 (by decide)
        obtain ⟨g2, _⟩ := hM2 2 (by decide)
        obtain ⟨g3, _⟩ := hM2 3 (by decide)
        obtain ⟨g4, _⟩ := hM2 4 (by decide)
        obtain ⟨k0, _⟩ := hL2 0 (by decide)
        obtain ⟨k1, _⟩ := hL2 1 (by decide)
        obtain ⟨k2, _⟩ := hL2 2 (by decide)
        obtain ⟨k3, _⟩ := hL2 3 (by decide)
        obtain ⟨k4, _⟩ := hL2 4 (by decide)
        clear hX1 hX2 hn2 hn t121 x121 m150 eT hμ
        go_wp2_with fail
        refine (hTi _).mono ?_; rintro q w10 ⟨rfl, hB10⟩
        clear g0 g1 g2 g3 g4 k0 k1 k2 k3 k4
        have hM10 := hM2.bel hB10 lM2
        obtain ⟨⟨x0, y0⟩, z0, ⟨x1, y1⟩, z1, ⟨x2, y2⟩, z2, ⟨x3, y3⟩, z3, ⟨x4, y4⟩, z4⟩ := hM10.mid (fixD μ)
        have hM11 := hM10.set (fixD μ)
        obtain ⟨s0, _⟩ := hM11 0 (by decide)
        obtain ⟨s1, _⟩ := hM11 1 (by decide)
        obtain ⟨s2, _⟩ := hM11 2 (by decide)
        obtain ⟨s3, _⟩ := hM11 3 (by decide)
        obtain ⟨s4, _⟩ := hM11 4 (by decide)
        obtain ⟨w11, hw11⟩ : ∃ w11, w11 = set5 w10 T (fixD μ) := ⟨_, rfl⟩
        have hL11 := (hL2.bel hB10 lL2).so5 (X := T) (by omega) (fixD μ)
        have hS11 := CellsAt.so5 (CellsAt.bel hS2 hB10 lS2) (X := T) (by omega) (fixD μ)
        have hB11 := (hB2.trans hB10).set5 hT0 (fixD μ)
        rw [← hw11] at hM11 hL11 hS11 hB11
        unfold set5 at s0 s1 s2 s3 s4 hw11
        have lM11 := hM11.lt (by decide)
        have lL11 := hL11.lt (by decide)
        have lS11 := CellsAt.lt hS11 (by decide)
        go_wp2_with fail
        rw [← hw11]
        clear hw11 s0 s1 s2 s3 s4 y0 z0 y1 z1 y2 z2 y3 z3 y4 z4 hM10 hM2 hL2 hS2 hB2 hB10 hTi lM2 lL2 lS2
        refine (hOv _).mono ?_; rintro q w12 ⟨rfl, hB12⟩
        have hM12 := hM11.bel hB12 lM11
        obtain ⟨⟨x0, y0⟩, z0, ⟨x1, y1⟩, z1, ⟨x2, y2⟩, z2, ⟨x3, y3⟩, z3, ⟨x4, y4⟩, z4⟩ := hM12.mid (fixD (termN X (i + 1)))
        have hM13 := hM12.set (fixD (termN X (i + 1)))
        have hL13 := (hL11.bel hB12 lL11).so5 (X := T) (by omega) (fixD (termN X (i + 1)))
        have hS13 := CellsAt.so5 (CellsAt.bel hS11 hB12 lS11) (X := T) (by omega) (fixD (termN X (i + 1)))
        have hB13 := (hB11.trans hB12).set5 hT0 (fixD (termN X (i + 1)))
        obtain ⟨w13, hw13⟩ : ∃ w13, w13 = set5 w12 T (fixD (termN X (i + 1))) := ⟨_, rfl⟩
        rw [← hw13] at hM13 hL13 hS13 hB13
        unfold set5 at hw13
        clear hM12 hM11 hL11 hS11 hB11 hB12 hOv lM11 lL11 lS11
        go_wp2
        rw [← hw13]
        go_roundw
        case rel => exact ⟨i + 1, by omega, by simp, hL13, hM13, hS13, hB13⟩
        case measure => simp [intOf]; omega
    · have h32 : i = 32 := by omega
      subst h32
      have hdi : decide (((32 : Nat) : Int) < 32) = false := by decide
      have hX1 := hNum.out.1
      have hC := fun w => minus_v (sumN X 0 32) (sumN X 2 32) w (sumN_small hX1 0 (Nat.le_refl _)) (sumN_pair hX1 0 (by decide) 8)
      have hD := fun w => minus_v (sumN X 1 32) (sumN X 3 32) w (sumN_small hX1 1 (Nat.le_refl _)) (sumN_pair hX1 1 (by decide) 8)
      rw [show sumN X 0 32 - sumN X 2 32 = cosN X from rfl] at hC
      rw [show sumN X 1 32 - sumN X 3 32 = sinN X from rfl] at hD
      unfold V5 at hC hD
      have lS := CellsAt.lt hS (by decide)
      have g0 : wr.cell? ⟨T + 1, 0, none⟩ = some (.int .i64 (fixD (sumN X 0 32) 0)) := (hS 0 (by decide)).1
      have g1 : wr.cell? ⟨T + 1, 1, none⟩ = some (.int .i64 (fixD (sumN X 0 32) 1)) := (hS 1 (by decide)).1
      have g2 : wr.cell? ⟨T + 1, 2, none⟩ = some (.int .i64 (fixD (sumN X 0 32) 2)) := (hS 2 (by decide)).1
      have g3 : wr.cell? ⟨T + 1, 3, none⟩ = some (.int .i64 (fixD (sumN X 0 32) 3)) := (hS 3 (by decide)).1
      have g4 : wr.cell? ⟨T + 1, 4, none⟩ = some (.int .i64 (fixD (sumN X 0 32) 4)) := (hS 4 (by decide)).1
      have g10 : wr.cell? ⟨T + 1, 10, none⟩ = some (.int .i64 (fixD (sumN X 2 32) 0)) := (hS 10 (by decide)).1
      have g11 : wr.cell? ⟨T + 1, 11, none⟩ = some (.int .i64 (fixD (sumN X 2 32) 1)) := (hS 11 (by decide)).1
      have g12 : wr.cell? ⟨T + 1, 12, none⟩ = some (.int .i64 (fixD (sumN X 2 32) 2)) := (hS 12 (by decide)).1
      have g13 : wr.cell? ⟨T + 1, 13, none⟩ = some (.int .i64 (fixD (sumN X 2 32) 3)) := (hS 13 (by decide)).1
      have g14 : wr.cell? ⟨T + 1, 14, none⟩ = some (.int .i64 (fixD (sumN X 2 32) 4)) := (hS 14 (by decide)).1
      have ta := ta.bel hB la
      have tb := tb.bel hB lb
      have la := ta.lt (by decide)
      have lb := tb.lt (by decide)
      have hB0 := hB0.trans hB
      clear hX1 hL hM hi hlt
      go_wp2_with fail
      refine (hC _).mono ?_; rintro q w9 ⟨rfl, hB9⟩
      have hS9 := CellsAt.bel hS hB9 lS
      obtain ⟨C, hCC⟩ : ∃ C, C = w9.heap.size := ⟨_, rfl⟩
      have hCge : wr.heap.size ≤ C := by rw [hCC]; exact hB9.size
      have tC := five_new w9 (fixD (cosN X)) 37 C hCC
      have hB10 := hB9.alloc (.cells #[.int .i64 (fixD (cosN X) 0), .int .i64 (fixD (cosN X) 1), .int .i64 (fixD (cosN X) 2), .int .i64 (fixD (cosN X) 3), .int .i64 (fixD (cosN X) 4)] 37)
      have hS10 : FourAt (w9.alloc (.cells #[.int .i64 (fixD (cosN X) 0), .int .i64 (fixD (cosN X) 1), .int .i64 (fixD (cosN X) 2), .int .i64 (fixD (cosN X) 3), .int .i64 (fixD (cosN X) 4)] 37)) (T + 1) (fun k => sumN X k 32) := CellsAt.bel hS9 ((Bel.refl _).alloc _) (CellsAt.lt hS9 (by decide))
      have k5 : (w9.alloc (.cells #[.int .i64 (fixD (cosN X) 0), .int .i64 (fixD (cosN X) 1), .int .i64 (fixD (cosN X) 2), .int .i64 (fixD (cosN X) 3), .int .i64 (fixD (cosN X) 4)] 37)).cell? ⟨T + 1, 5, none⟩ = some (.int .i64 (fixD (sumN X 1 32) 0)) := (hS10 5 (by decide)).1
      have k6 : (w9.alloc (.cells #[.int .i64 (fixD (cosN X) 0), .int .i64 (fixD (cosN X) 1), .int .i64 (fixD (cosN X) 2), .int .i64 (fixD (cosN X) 3), .int .i64 (fixD (cosN X) 4)] 37)).cell? ⟨T + 1, 6, none⟩ = some (.int .i64 (fixD (sumN X 1 32) 1)) := (hS10 6 (by decide)).1
      have k7 : (w9.alloc (.cells #[.int .i64 (fixD (cosN X) 0), .int .i64 (fixD (cosN X) 1), .int .i64 (fixD (cosN X) 2), .int .i64 (fixD (cosN X) 3), .int .i64 (fixD (cosN X) 4)] 37)).cell? ⟨T + 1, 7, none⟩ = some (.int .i64 (fixD (sumN X 1 32) 2)) := (hS10 7 (by decide)).1
      have k8 : (w9.alloc (.cells #[.int .i64 (fixD (cosN X) 0), .int .i64 (fixD (cosN X) 1), .int .i64 (fixD (cosN X) 2), .int .i64 (fixD (cosN X) 3), .int .i64 (fixD (cosN X) 4)] 37)).cell? ⟨T + 1, 8, none⟩ = some (.int .i64 (fixD (sumN X 1 32) 3)) := (hS10 8 (by decide)).1
      have k9 : (w9.alloc (.cells #[.int .i64 (fixD (cosN X) 0), .int .i64 (fixD (cosN X) 1), .int .i64 (fixD (cosN X) 2), .int .i64 (fixD (cosN X) 3), .int .i64 (fixD (cosN X) 4)] 37)).cell? ⟨T + 1, 9, none⟩ = some (.int .i64 (fixD (sumN X 1 32) 4)) := (hS10 9 (by decide)).1
      have k15 : (w9.alloc (.cells #[.int .i64 (fixD (cosN X) 0), .int .i64 (fixD (cosN X) 1), .int .i64 (fixD (cosN X) 2), .int .i64 (fixD (cosN X) 3), .int .i64 (fixD (cosN X) 4)] 37)).cell? ⟨T + 1, 15, none⟩ = some (.int .i64 (fixD (sumN X 3 32) 0)) := (hS10 15 (by decide)).1
      have k16 : (w9.alloc (.cells #[.int .i64 (fixD (cosN X) 0), .int .i64 (fixD (cosN X) 1), .int .i64 (fixD (cosN X) 2), .int .i64 (fixD (cosN X) 3), .int .i64 (fixD (cosN X) 4)] 37)).cell? ⟨T + 1, 16, none⟩ = some (.int .i64 (fixD (sumN X 3 32) 1)) := (hS10 16 (by decide)).1
      have k17 : (w9.alloc (.cells #[.int .i64 (fixD (cosN X) 0), .int .i64 (fixD (cosN X) 1), .int .i64 (fixD (cosN X) 2), .int .i64 (fixD (cosN X) 3), .int .i64 (fixD (cosN X) 4)] 37)).cell? ⟨T + 1, 17, none⟩ = some (.int .i64 (fixD (sumN X 3 32) 2)) := (hS10 17 (by decide)).1
      have k18 : (w9.alloc (.cells #[.int .i64 (fixD (cosN X) 0), .int .i64 (fixD (cosN X) 1), .int .i64 (fixD (cosN X) 2), .int .i64 (fixD (cosN X) 3), .int .i64 (fixD (cosN X) 4)] 37)).cell? ⟨T + 1, 18, none⟩ = some (.int .i64 (fixD (sumN X 3 32) 3)) := (hS10 18 (by decide)).1
      have k19 : (w9.alloc (.cells #[.int .i64 (fixD (cosN X) 0), .int .i64 (fixD (cosN X) 1), .int .i64 (fixD (cosN X) 2), .int .i64 (fixD (cosN X) 3), .int .i64 (fixD (cosN X) 4)] 37)).cell? ⟨T + 1, 19, none⟩ = some (.int .i64 (fixD (sumN X 3 32) 4)) := (hS10 19 (by decide)).1
      have lC := tC.lt (by decide)
      clear g0 g1 g2 g3 g4 g10 g11 g12 g13 g14 hS hS9 hS10 hB9
      go_wp2_with fail
      rw [← hCC]
      generalize (w9.alloc (.cells #[.int .i64 (fixD (cosN X) 0), .int .i64 (fixD (cosN X) 1), .int .i64 (fixD (cosN X) 2), .int .i64 (fixD (cosN X) 3), .int .i64 (fixD (cosN X) 4)] 37)) = w10 at k5 k6 k7 k8 k9 k15 k16 k17 k18 k19 tC hB10 lC ⊢
      clear hCC
      refine (hD _).mono ?_; rintro q w11 ⟨rfl, hB11⟩
      obtain ⟨G, hGG⟩ : ∃ G, G = w11.heap.size := ⟨_, rfl⟩
      have hGge : w10.heap.size ≤ G := by rw [hGG]; exact hB11.size
      have tG := five_new w11 (fixD (sinN X)) 37 G hGG
      have tC11 := (tC.bel hB11 lC).bel ((Bel.refl w11).alloc (.cells #[.int .i64 (fixD (sinN X) 0), .int .i64 (fixD (sinN X) 1), .int .i64 (fixD (sinN X) 2), .int .i64 (fixD (sinN X) 3), .int .i64 (fixD (sinN X) 4)] 37)) (Nat.lt_of_lt_of_le lC hB11.size)
      have hB12 := (hB10.trans hB11).alloc (.cells #[.int .i64 (fixD (sinN X) 0), .int .i64 (fixD (sinN X) 1), .int .i64 (fixD (sinN X) 2), .int .i64 (fixD (sinN X) 3), .int .i64 (fixD (sinN X) 4)] 37)
      have ta12 := ta.bel hB12 la
      have tb12 := tb.bel hB12 lb
      have hB0' := hB0.trans hB12
      clear k5 k6 k7 k8 k9 k15 k16 k17 k18 k19 hC hD
      go_upto_region 14 with fail
      rw [← hGG]
      generalize w11.alloc (.cells #[.int .i64 (fixD (sinN X) 0), .int .i64 (fixD (sinN X) 1), .int .i64 (fixD (sinN X) 2), .int .i64 (fixD (sinN X) 3), .int .i64 (fixD (sinN X) 4)] 37) = w12 at tG tC11 hB12 ta12 tb12 hB0' ⊢
      clear hGG hB11 hB10 tC
      rw [← hA]
      refine pair_out (fun f => ({ tmps := #[.int .i64 (r : Int), .int .i64 (n : Int), undef, undef, .pointer (some ⟨A, 0, none⟩), .pointer (some ⟨A + 1, 0, none⟩), .pointer (some ⟨B, 0, none⟩), .pointer (some ⟨T, 0, none⟩), .pointer (some ⟨T + 1, 0, none⟩), .int .i64 32, .pointer (some ⟨C, 0, none⟩), .pointer (some ⟨G, 0, none⟩), .agg #[.int .i64 (fixD (eighthN) 0), .int .i64 (fixD (eighthN) 1), .int .i64 (fixD (eighthN) 2), .int .i64 (fixD (eighthN) 3), .int .i64 (fixD (eighthN) 4)], .agg #[.int .i64 (fixD (eighthN) 0), .int .i64 (fixD (eighthN) 1), .int .i64 (fixD (eighthN) 2), .int .i64 (fixD (eighthN) 3), .int .i64 (fixD (eighthN) 4)], .int .i64 (r : Int), .agg #[.int .i64 (fixD (eighthN * r) 0), .int .i64 (fixD (eighthN * r) 1), .int .i64 (fixD (eighthN * r) 2), .int .i64 (fixD (eighthN * r) 3), .int .i64 (fixD (eighthN * r) 4)], .agg #[.int .i64 (fixD (eighthN * r) 0), .int .i64 (fixD (eighthN * r) 1), .int .i64 (fixD (eighthN * r) 2), .int .i64 (fixD (eighthN * r) 3), .int .i64 (fixD (eighthN * r) 4)], .int .i64 (n : Int), .agg #[.int .i64 (fixD (X) 0), .int .i64 (fixD (X) 1), .int .i64 (fixD (X) 2), .int .i64 (fixD (X) 3), .int .i64 (fixD (X) 4)], .agg #[.int .i64 0, .int .i64 0, .int .i64 0, .int .i64 0, .int .i64 1], .agg #[.int .i64 0, .int .i64 0, .int .i64 0, .int .i64 0, .int .i64 1], .int .i64 32, .bool false, u23, u24, u25, u26, u27, u28, u29, u30, u31, u32, u33, u34, u35, u36, u37, u38, u39, u40, .pointer (some ⟨T + 1, 0, none⟩), .agg #[.int .i64 (fixD (sumN X 0 32) 0), .int .i64 (fixD (sumN X 0 32) 1), .int .i64 (fixD (sumN X 0 32) 2), .int .i64 (fixD (sumN X 0 32) 3), .int .i64 (fixD (sumN X 0 32) 4)], .pointer (some ⟨T + 1, 10, none⟩), .agg #[.int .i64 (fixD (sumN X 2 32) 0), .int .i64 (fixD (sumN X 2 32) 1), .int .i64 (fixD (sumN X 2 32) 2), .int .i64 (fixD (sumN X 2 32) 3), .int .i64 (fixD (sumN X 2 32) 4)], .agg #[.int .i64 (fixD (cosN X) 0), .int .i64 (fixD (cosN X) 1), .int .i64 (fixD (cosN X) 2), .int .i64 (fixD (cosN X) 3), .int .i64 (fixD (cosN X) 4)], .pointer (some ⟨T + 1, 5, none⟩), .agg #[.int .i64 (fixD (sumN X 1 32) 0), .int .i64 (fixD (sumN X 1 32) 1), .int .i64 (fixD (sumN X 1 32) 2), .int .i64 (fixD (sumN X 1 32) 3), .int .i64 (fixD (sumN X 1 32) 4)], .pointer (some ⟨T + 1, 15, none⟩), .agg #[.int .i64 (fixD (sumN X 3 32) 0), .int .i64 (fixD (sumN X 3 32) 1), .int .i64 (fixD (sumN X 3 32) 2), .int .i64 (fixD (sumN X 3 32) 3), .int .i64 (fixD (sumN X 3 32) 4)], .agg #[.int .i64 (fixD (sinN X) 0), .int .i64 (fixD (sinN X) 1), .int .i64 (fixD (sinN X) 2), .int .i64 (fixD (sinN X) 3), .int .i64 (fixD (sinN X) 4)], f 51, f 52], defers := [] } : Act)) A C G (fixD (cosN X)) (fixD (sinN X)) (by omega) (by omega) ta12 tb12 tC11 tG ⟨_, _, _, _, _, _, _, _, _, _, _, _, rfl⟩ (by decide +kernel) (fun _ _ => rfl) (fun _ _ => rfl) (fun _ => rfl) (fun _ => rfl) (fun _ => rfl) (fun _ => rfl) (fun _ => rfl) (fun _ => rfl) (fun _ => undef) ?_
      intro f
      have tA' := CellsAt.so5 (ta12.dr.set (fixD (cosN X))) (X := A + 1) (by omega) (fixD (sinN X))
      have tB' := (CellsAt.so5 tb12.dr (X := A) (by omega) (fixD (cosN X))).set (fixD (sinN X))
      have hBz := (hB0'.drew.set5 hAw.out.1 (fixD (cosN X))).set5 hAw.out.2 (fixD (sinN X))
      obtain ⟨a0, _⟩ := tA' 0 (by decide)
      obtain ⟨a1, _⟩ := tA' 1 (by decide)
      obtain ⟨a2, _⟩ := tA' 2 (by decide)
      obtain ⟨a3, _⟩ := tA' 3 (by decide)
      obtain ⟨a4, _⟩ := tA' 4 (by decide)
      obtain ⟨b0, _⟩ := tB' 0 (by decide)
      obtain ⟨b1, _⟩ := tB' 1 (by decide)
      obtain ⟨b2, _⟩ := tB' 2 (by decide)
      obtain ⟨b3, _⟩ := tB' 3 (by decide)
      obtain ⟨b4, _⟩ := tB' 4 (by decide)
      generalize set5 (set5 w12.drew A (fixD (cosN X))) (A + 1) (fixD (sinN X)) = wz at a0 a1 a2 a3 a4 b0 b1 b2 b3 b4 hBz ⊢
      clear tA' tB' ta12 tb12 tC11 tG hB12 hB0' hB0 hB hNum
      go_wp2
      refine bodyPost_ret (by simp [results, go_sem, a0, a1, a2, a3, a4, b0, b1, b2, b3, b4]; try rfl) rfl ?_
      exact ⟨rfl, hBz⟩
end Go.Proofs.Ytpifkjmdcbieoaa

/- Frames of which some temporaries are open: no frame need be spelt. -/
namespace Go.Proofs.Ytpifkjmdcbieoaa
open Go.RowKit

/-- the frame with other values in some temporaries -/
def actOf (a0 : Act) (ds : List Nat) (f : Nat → Value) : Act := ⟨a0.tmps.mapIdx fun t v => if t ∈ ds then f t else v, a0.defers⟩
theorem actOf_size (a0 : Act) (ds : List Nat) (f : Nat → Value) : (actOf a0 ds f).tmps.size = a0.tmps.size := by simp [actOf]
theorem act_ext {a b : Act} (h1 : a.tmps = b.tmps) (h2 : a.defers = b.defers) : a = b := by
  cases a; cases b; simp at h1 h2; subst h1 h2; rfl
theorem actOf_self (a0 : Act) (ds : List Nat) : actOf a0 ds (fun t => a0.eval (.tmp t)) = a0 := by
  refine act_ext ?_ rfl
  refine Array.ext (by simp [actOf]) fun i h1 h2 => ?_
  simp only [actOf, Array.getElem_mapIdx]
  by_cases c : i ∈ ds
  · rw [if_pos c]
    show a0.tmps.getD i undef = _
    rw [Array.getD_eq_getD_getElem?, Array.getElem?_eq_getElem h2]; rfl
  · rw [if_neg c]
theorem actOf_put (a0 : Act) (ds : List Nat) (f : Nat → Value) {t : Nat} (ht : t ∈ ds) (v : Value) : (actOf a0 ds f).put (some t) v = actOf a0 ds (tset f t v) := by
  refine act_ext ?_ rfl
  show (actOf a0 ds f).tmps.setIfInBounds t v = (actOf a0 ds (tset f t v)).tmps
  refine Array.ext (by simp [actOf]) fun i h1 h2 => ?_
  have h3 : i < (actOf a0 ds f).tmps.size := by simpa using h1
  rw [Array.getElem_setIfInBounds h3]
  simp only [actOf, Array.getElem_mapIdx]
  by_cases c : t = i
  · subst c
    rw [if_pos rfl, if_pos ht, tset_self]
  · rw [if_neg c]
    by_cases c2 : i ∈ ds
    · rw [if_pos c2, if_pos c2, tset_ne _ _ (fun e => c e.symm)]
    · rw [if_neg c2, if_neg c2]
theorem actOf_in (a0 : Act) (ds : List Nat) (f : Nat → Value) {t : Nat} (ht : t ∈ ds) (hs : t < a0.tmps.size) : (actOf a0 ds f).eval (.tmp t) = f t := by
  show (actOf a0 ds f).tmps.getD t undef = _
  rw [Array.getD_eq_getD_getElem?, Array.getElem?_eq_getElem (by rw [actOf_size]; exact hs)]
  simp only [actOf, Array.getElem_mapIdx, Option.getD_some]
  rw [if_pos ht]
theorem actOf_out (a0 : Act) (ds : List Nat) (f : Nat → Value) {t : Nat} (ht : t ∉ ds) : (actOf a0 ds f).eval (.tmp t) = a0.eval (.tmp t) := by
  show (actOf a0 ds f).tmps.getD t undef = a0.tmps.getD t undef
  rw [Array.getD_eq_getD_getElem?, Array.getD_eq_getD_getElem?]
  by_cases hs : t < a0.tmps.size
  · rw [Array.getElem?_eq_getElem (by rw [actOf_size]; exact hs), Array.getElem?_eq_getElem hs]
    simp only [actOf, Array.getElem_mapIdx, Option.getD_some]
    rw [if_neg ht]
  · rw [Array.getElem?_eq_none (by rw [actOf_size]; omega), Array.getElem?_eq_none (by omega)]
/-- the same frame, with the values that stand in it -/
theorem actOf_of (a0 : Act) (ds : List Nat) (f g : Nat → Value) (h : ∀ t ∈ ds, f t = g t) : actOf a0 ds f = actOf a0 ds g := by
  refine act_ext ?_ rfl
  refine Array.ext (by simp [actOf]) fun i h1 h2 => ?_
  simp only [actOf, Array.getElem_mapIdx]
  by_cases c : i ∈ ds
  · rw [if_pos c, if_pos c, h i c]
  · rw [if_neg c, if_neg c]
end Go.Proofs.Ytpifkjmdcbieoaa

/- The reference's Turn (layer 5): its last region. -/
namespace Go.Proofs.Ytpifkjmdcbieoaa
open Go.RowKit

/-- cosine and sine in magnitude, by octant -/
def turnC (o : Int) (X : Nat) : Nat := if o = 1 ∨ o = 2 ∨ o = 5 ∨ o = 6 then sinN X else cosN X
def turnS (o : Int) (X : Nat) : Nat := if o = 1 ∨ o = 2 ∨ o = 5 ∨ o = 6 then cosN X else sinN X
def turnA (o : Int) : Int := if 2 ≤ o ∧ o ≤ 5 then -1 else 1
def turnB (o : Int) : Int := if 4 ≤ o then -1 else 1
/-- the point at which the series is taken -/
def turnX (k n : Int) : Nat := eighthN * (octR k n).toNat / n.toNat
def out4 (w : World) (A A2 : Nat) (c s : Nat → Int) (d d2 : Bool) : World := if d2 = true then set5 (set5 w A c) A2 s else if d = true then set5 w A c else w
def quadPre (i : Nat) : List Nat := match i with | 4 => [0] | 5 => [1, 4] | 6 => [2, 5] | 7 => [3, 6] | _ => []
def quadDs : List Nat := [50, 51, 52, 53, 5, 7]
structure QuadI (a0 : Act) (w : World) (A A2 : Nat) (c s : Nat → Int) (va vb : Value) (D : Nat → Bool) (a : Act) (w' : World) (f : Nat → Value) : Prop where
  a : a = actOf a0 quadDs f
  w : w' = out4 w A A2 c s (D 4) (D 6)
  k0 : D 0 = true → f 50 = V5 c
  k1 : D 1 = true → f 51 = va
  k2 : D 2 = true → f 52 = V5 s
  k3 : D 3 = true → f 53 = vb
  k5 : D 5 = true → f 5 = va
  k7 : D 7 = true → f 7 = vb
  o6 : D 6 = true → D 4 = true
  o5 : D 5 = true → D 4 = true
theorem out4_same {w : World} {A A2 : Nat} {c s : Nat → Int} {D : Nat → Bool} {i : Nat} (h4 : 4 ≠ i) (h6 : 6 ≠ i) : out4 w A A2 c s (D 4) (D 6) = out4 w A A2 c s (D 4 || 4 == i) (D 6 || 6 == i) := by
  rw [show (4 == i) = false from beq_eq_false_iff_ne.2 h4, show (6 == i) = false from beq_eq_false_iff_ne.2 h6, Bool.or_false, Bool.or_false]
theorem out4_cells {w : World} {A A2 C : Nat} {c s v : Nat → Int} (t : CellsAt 5 w C v) (hA : C ≠ A) (hA2 : C ≠ A2) (d d2 : Bool) : CellsAt 5 (out4 w A A2 c s d d2) C v := by
  unfold out4
  by_cases h2 : d2 = true
  · rw [if_pos h2]; exact CellsAt.so5 (CellsAt.so5 t hA c) hA2 s
  · rw [if_neg h2]
    by_cases h1 : d = true
    · rw [if_pos h1]; exact CellsAt.so5 t hA c
    · rw [if_neg h1]; exact t
/-- 'return c, a, s, b': the region that draws its order -/
theorem quad_out {Q : Exit → Act → World → Prop} {ops : Array Oper} {id : Nat} {w : World} (a0 : Act) (A A2 C G : Nat) (c s : Nat → Int) (va vb : Value) (hn : A ≠ A2 ∧ C ≠ A ∧ C ≠ A2 ∧ G ≠ A ∧ G ≠ A2) (ta : CellsAt 5 w A (fun _ => 0)) (tb : CellsAt 5 w A2 (fun _ => 0)) (tC : CellsAt 5 w C c) (tG : CellsAt 5 w G s)
    (hops : ∃ y0 y1 y2 y3 y4 y5 y6 y7 q0 q1 q2 q3 q4 q5 q6 q7 f0 f1 f2 f3 f4 f5 f6 f7, ops = #[
      { dst := some 50, op := .load 37 (.tmp 10), type := y0, pos := q0, after := f0, guard := none },
      { dst := some 51, op := .move (.tmp 12), type := y1, pos := q1, after := f1, guard := none },
      { dst := some 52, op := .load 37 (.tmp 11), type := y2, pos := q2, after := f2, guard := none },
      { dst := some 53, op := .move (.tmp 13), type := y3, pos := q3, after := f3, guard := none },
      { dst := none, op := .store 37 (.tmp 4) (.tmp 50), type := y4, pos := q4, after := f4, guard := none },
      { dst := some 5, op := .assign (.tmp 51), type := y5, pos := q5, after := f5, guard := none },
      { dst := none, op := .store 37 (.tmp 6) (.tmp 52), type := y6, pos := q6, after := f6, guard := none },
      { dst := some 7, op := .assign (.tmp 53), type := y7, pos := q7, after := f7, guard := none }])
    (hchk : chkN quadPre ops = true) (hs : a0.tmps.size = 54)
    (e1 : a0.eval (.tmp 10) = .pointer (some ⟨C, 0, none⟩)) (e2 : a0.eval (.tmp 11) = .pointer (some ⟨G, 0, none⟩)) (e3 : a0.eval (.tmp 4) = .pointer (some ⟨A, 0, none⟩)) (e4 : a0.eval (.tmp 6) = .pointer (some ⟨A2, 0, none⟩)) (e5 : a0.eval (.tmp 12) = va) (e6 : a0.eval (.tmp 13) = vb)
    (hQ : ∀ f, f 5 = va → f 7 = vb → Q .normal (actOf a0 quadDs f) (set5 (set5 w.drew A c) A2 s)) : (Code.region id ops true).wp Try.prog Q a0 w := by
  obtain ⟨y0, y1, y2, y3, y4, y5, y6, y7, q0, q1, q2, q3, q4, q5, q6, q7, g0, g1, g2, g3, g4, g5, g6, g7, rfl⟩ := hops
  obtain ⟨n1, n2, n3, n4, n5⟩ := hn
  refine wp_region_set (pre := quadPre) (by kernel_rfl) hchk (fun D a w' => ∃ f, QuadI a0 w.drew A A2 c s va vb D a w' f) ⟨fun t => a0.eval (.tmp t), (actOf_self a0 quadDs).symm, rfl, fun h => absurd h Bool.false_ne_true, fun h => absurd h Bool.false_ne_true, fun h => absurd h Bool.false_ne_true, fun h => absurd h Bool.false_ne_true, fun h => absurd h Bool.false_ne_true, fun h => absurd h Bool.false_ne_true, fun h => absurd h Bool.false_ne_true, fun h => absurd h Bool.false_ne_true⟩ ?_ ?_
  · rintro D a w' i hi hD hp ⟨f, rfl, rfl, k0, k1, k2, k3, k5, k7, o6, o5⟩
    have hi : i < 8 := hi
    have out : ∀ {t : Nat}, t ∉ quadDs → (actOf a0 quadDs f).eval (.tmp t) = a0.eval (.tmp t) := fun h => actOf_out a0 quadDs f h
    have inn : ∀ {t : Nat}, t ∈ quadDs → t < 54 → (actOf a0 quadDs f).eval (.tmp t) = f t := fun h h2 => actOf_in a0 quadDs f h (by rw [hs]; exact h2)
    match i, hi with
    | 0, _ =>
      refine wpOp_go rfl rfl (step_load (d := some 50) rfl rfl ((out (by decide)).trans e1) (load_fixed (out4_cells tC.dr n2 n3 _ _)) ?_)
      exact ⟨tset f 50 _, actOf_put _ _ _ (by decide) _, out4_same (by decide) (by decide), fun _ => rfl, fun h => k1 (dn (by decide) h), fun h => k2 (dn (by decide) h), fun h => k3 (dn (by decide) h), fun h => k5 (dn (by decide) h), fun h => k7 (dn (by decide) h), fun h => dup (o6 (dn (by decide) h)), fun h => dup (o5 (dn (by decide) h))⟩
    | 1, _ =>
      refine wpOp_go rfl rfl (step_move (d := some 51) rfl (Or.inl rfl) ((out (by decide)).trans e5) ?_)
      exact ⟨tset f 51 _, actOf_put _ _ _ (by decide) _, out4_same (by decide) (by decide), fun h => k0 (dn (by decide) h), fun _ => rfl, fun h => k2 (dn (by decide) h), fun h => k3 (dn (by decide) h), fun h => k5 (dn (by decide) h), fun h => k7 (dn (by decide) h), fun h => dup (o6 (dn (by decide) h)), fun h => dup (o5 (dn (by decide) h))⟩
    | 2, _ =>
      refine wpOp_go rfl rfl (step_load (d := some 52) rfl rfl ((out (by decide)).trans e2) (load_fixed (out4_cells tG.dr n4 n5 _ _)) ?_)
      exact ⟨tset f 52 _, actOf_put _ _ _ (by decide) _, out4_same (by decide) (by decide), fun h => k0 (dn (by decide) h), fun h => k1 (dn (by decide) h), fun _ => rfl, fun h => k3 (dn (by decide) h), fun h => k5 (dn (by decide) h), fun h => k7 (dn (by decide) h), fun h => dup (o6 (dn (by decide) h)), fun h => dup (o5 (dn (by decide) h))⟩
    | 3, _ =>
      refine wpOp_go rfl rfl (step_move (d := some 53) rfl (Or.inl rfl) ((out (by decide)).trans e6) ?_)
      exact ⟨tset f 53 _, actOf_put _ _ _ (by decide) _, out4_same (by decide) (by decide), fun h => k0 (dn (by decide) h), fun h => k1 (dn (by decide) h), fun h => k2 (dn (by decide) h), fun _ => rfl, fun h => k5 (dn (by decide) h), fun h => k7 (dn (by decide) h), fun h => dup (o6 (dn (by decide) h)), fun h => dup (o5 (dn (by decide) h))⟩
    | 4, _ =>
      have h6 : ¬ D 6 = true := fun h => by rw [o6 h] at hD; exact Bool.false_ne_true hD.symm
      have h4 : ¬ D 4 = true := by rw [hD]; decide
      have eW : out4 w.drew A A2 c s (D 4) (D 6) = w.drew := by unfold out4; rw [if_neg h6, if_neg h4]
      have hst : (Instr.storeAt 37 (.pointer (some ⟨A, 0, none⟩)) (V5 c)).run Try.prog (out4 w.drew A A2 c s (D 4) (D 6)) = .ok () (set5 w.drew A c) := by rw [eW]; exact store_fixed (ta.dr.mid c)
      refine wpOp_go rfl rfl (step_put (d := none) rfl rfl ((out (by decide)).trans e3) ((inn (by decide) (by decide)).trans (k0 (hp 0 (by decide)))) hst rfl ?_)
      refine ⟨f, rfl, ?_, fun h => k0 (dn (by decide) h), fun h => k1 (dn (by decide) h), fun h => k2 (dn (by decide) h), fun h => k3 (dn (by decide) h), fun h => k5 (dn (by decide) h), fun h => k7 (dn (by decide) h), fun h => dup (o6 (dn (by decide) h)), fun h => dup (o5 (dn (by decide) h))⟩
      unfold out4
      rw [if_neg (fun h => h6 (dn (by decide) h)), if_pos (by simp)]
    | 5, _ =>
      have h4 : D 4 = true := hp 4 (by decide)
      refine wpOp_go rfl rfl (step_move (d := some 5) rfl (Or.inr rfl) ((inn (by decide) (by decide)).trans (k1 (hp 1 (by decide)))) ?_)
      exact ⟨tset f 5 _, actOf_put _ _ _ (by decide) _, out4_same (by decide) (by decide), fun h => k0 (dn (by decide) h), fun h => k1 (dn (by decide) h), fun h => k2 (dn (by decide) h), fun h => k3 (dn (by decide) h), fun _ => rfl, fun h => k7 (dn (by decide) h), fun h => dup (o6 (dn (by decide) h)), fun _ => dup h4⟩
    | 6, _ =>
      have h4 : D 4 = true := o5 (hp 5 (by decide))
      have h6 : ¬ D 6 = true := by rw [hD]; decide
      have eW : out4 w.drew A A2 c s (D 4) (D 6) = set5 w.drew A c := by unfold out4; rw [if_neg h6, if_pos h4]
      have hst : (Instr.storeAt 37 (.pointer (some ⟨A2, 0, none⟩)) (V5 s)).run Try.prog (out4 w.drew A A2 c s (D 4) (D 6)) = .ok () (set5 (set5 w.drew A c) A2 s) := by rw [eW]; exact store_fixed ((CellsAt.so5 tb.dr (fun e => n1 e.symm) c).mid s)
      refine wpOp_go rfl rfl (step_put (d := none) rfl rfl ((out (by decide)).trans e4) ((inn (by decide) (by decide)).trans (k2 (hp 2 (by decide)))) hst rfl ?_)
      refine ⟨f, rfl, ?_, fun h => k0 (dn (by decide) h), fun h => k1 (dn (by decide) h), fun h => k2 (dn (by decide) h), fun h => k3 (dn (by decide) h), fun h => k5 (dn (by decide) h), fun h => k7 (dn (by decide) h), fun _ => dup h4, fun h => dup (o5 (dn (by decide) h))⟩
      unfold out4
      rw [if_pos (by simp)]
    | 7, _ =>
      refine wpOp_go rfl rfl (step_move (d := some 7) rfl (Or.inr rfl) ((inn (by decide) (by decide)).trans (k3 (hp 3 (by decide)))) ?_)
      exact ⟨tset f 7 _, actOf_put _ _ _ (by decide) _, out4_same (by decide) (by decide), fun h => k0 (dn (by decide) h), fun h => k1 (dn (by decide) h), fun h => k2 (dn (by decide) h), fun h => k3 (dn (by decide) h), fun h => k5 (dn (by decide) h), fun _ => rfl, fun h => dup (o6 (dn (by decide) h)), fun h => dup (o5 (dn (by decide) h))⟩
  · rintro D a w' hD ⟨f, rfl, rfl, _, _, _, _, k5, k7, _, _⟩
    have e : out4 w.drew A A2 c s (D 4) (D 6) = set5 (set5 w.drew A c) A2 s := by unfold out4; rw [if_pos (hD 6 (show 6 < 8 by decide))]
    rw [e]
    exact hQ f (k5 (hD 5 (show 5 < 8 by decide))) (k7 (hD 7 (show 7 < 8 by decide)))
end Go.Proofs.Ytpifkjmdcbieoaa

/- The exact cosine and sine of a part of a turn, by the series over the rationals (layer 5). -/
namespace Go.Proofs.Ytpifkjmdcbieoaa
open Go.RowKit

/-- the angle: a part of a turn -/
def angR (k n : Int) : Rat := turnR * ((octQ k n : Rat) / (n : Rat))
/-- the angle from the nearest axis -/
def restT (k n : Int) : Rat := eighthR * ((octR k n : Rat) / (n : Rat))
def magC (o : Int) (t : Rat) : Rat := if o = 1 ∨ o = 2 ∨ o = 5 ∨ o = 6 then sinR t else cosR t
def magS (o : Int) (t : Rat) : Rat := if o = 1 ∨ o = 2 ∨ o = 5 ∨ o = 6 then cosR t else sinR t
theorem intR_pos {n : Int} (h : 0 < n) : (0 : Rat) < (n : Rat) := by exact_mod_cast h
theorem frac_range {r n : Int} (hn : 0 < n) (h0 : 0 ≤ r) (h1 : r ≤ n) : 0 ≤ (r : Rat) / (n : Rat) ∧ (r : Rat) / (n : Rat) ≤ 1 := by
  have p := intR_pos hn
  have a : (0 : Rat) ≤ (r : Rat) := by exact_mod_cast h0
  have b : (r : Rat) ≤ (n : Rat) := by exact_mod_cast h1
  have e : (n : Rat) * ((r : Rat) / (n : Rat)) = (r : Rat) := by grind
  exact ⟨nonneg_of p (by rw [e]; exact a), by
    have := nonneg_of p (d := 1 - (r : Rat) / (n : Rat)) (by grind)
    grind⟩
theorem restT_range {k n : Int} (hn : 0 < n) : 0 ≤ restT k n ∧ restT k n ≤ 4 / 5 := by
  obtain ⟨r0, r1⟩ := octR_range (k := k) hn
  obtain ⟨a, b⟩ := frac_range hn r0 r1
  obtain ⟨c, d⟩ := eighth_le
  unfold restT
  have m1 := Rat.mul_nonneg (a := eighthR) (b := (octR k n : Rat) / (n : Rat)) d a
  have m2 := Rat.mul_nonneg (a := eighthR) (b := 1 - (octR k n : Rat) / (n : Rat)) d (by grind)
  constructor <;> grind
theorem ang_even {k n : Int} (hn : 0 < n) {h : Nat} (ho : octO k n = 2 * (h : Int)) : angR k n = quartR * (h : Rat) + restT k n := by
  have p := intR_pos hn
  have e : octR k n = 8 * octQ k n - octO k n * n := by unfold octR; rw [if_pos (by omega)]
  rw [ho] at e
  have q : (octR k n : Rat) = 8 * (octQ k n : Rat) - 2 * (h : Rat) * (n : Rat) := by rw [e]; push_cast; rfl
  unfold angR restT turnR quartR
  rw [q]
  grind
theorem ang_odd {k n : Int} (hn : 0 < n) {h : Nat} (ho : octO k n + 1 = 2 * (h : Int)) : angR k n = quartR * (h : Rat) + -restT k n := by
  have p := intR_pos hn
  have e : octR k n = (octO k n + 1) * n - 8 * octQ k n := by unfold octR; rw [if_neg (by omega)]
  rw [ho] at e
  have q : (octR k n : Rat) = 2 * (h : Rat) * (n : Rat) - 8 * (octQ k n : Rat) := by rw [e]; push_cast; rfl
  unfold angR restT turnR quartR
  rw [q]
  grind
def sgR (s : Int) : Rat := (s : Rat)
theorem truth {k n : Int} (hn : 0 < n) :
    InU 3600 (cosR (angR k n)) ((turnA (octO k n) : Rat) * magC (octO k n) (restT k n)) ∧
    InU 3600 (sinR (angR k n)) ((turnB (octO k n) : Rat) * magS (octO k n) (restT k n)) := by
  obtain ⟨t0, t1⟩ := restT_range (k := k) hn
  obtain ⟨o0, o8⟩ := octO_range (k := k) hn
  have z1 : ((1 : Int) : Rat) = 1 := by exact_mod_cast rfl
  have z2 : ((-1 : Int) : Rat) = -1 := by exact_mod_cast rfl
  have E := fun (h : Nat) (hh : h ≤ 4) => quarts (x := restT k n) (by grind) (by grind) h hh
  have O := fun (h : Nat) (hh : h ≤ 4) => quarts (x := -restT k n) (by grind) (by grind) h hh
  simp only [cos_neg, sin_neg] at O
  have ev := fun (h : Nat) (ho : octO k n = 2 * (h : Int)) => ang_even (k := k) hn ho
  have od := fun (h : Nat) (ho : octO k n + 1 = 2 * (h : Int)) => ang_odd (k := k) hn ho
  have fin : ∀ (h : Nat) (c s C S : Rat), h ≤ 4 → InU (900 * (h : Rat)) c C ∧ InU (900 * (h : Rat)) s S → InU 3600 c C ∧ InU 3600 s S := by
    intro h c s C S hh ⟨a, b⟩
    have q : (h : Rat) ≤ ((4 : Nat) : Rat) := by exact_mod_cast hh
    have z4 : ((4 : Nat) : Rat) = 4 := by exact_mod_cast rfl
    rw [z4] at q
    exact ⟨a.mono (by grind), b.mono (by grind)⟩
  have nn : ∀ x : Rat, - -x = x := fun x => by grind
  have n1 : ∀ x : Rat, (-1 : Rat) * x = -x := fun x => by grind
  have p1 : ∀ x : Rat, (1 : Rat) * x = x := fun x => by grind
  have : octO k n = 0 ∨ octO k n = 1 ∨ octO k n = 2 ∨ octO k n = 3 ∨ octO k n = 4 ∨ octO k n = 5 ∨ octO k n = 6 ∨ octO k n = 7 := by omega
  rcases this with h | h | h | h | h | h | h | h
  · have q := fin 0 _ _ _ _ (by decide) (E 0 (by decide))
    rw [← ev 0 (by omega)] at q
    simpa [h, turnA, turnB, magC, magS, z1, z2, nn, n1, p1, rotC, rotS] using q
  · have q := fin 1 _ _ _ _ (by decide) (O 1 (by decide))
    rw [← od 1 (by omega)] at q
    simpa [h, turnA, turnB, magC, magS, z1, z2, nn, n1, p1, rotC, rotS] using q
  · have q := fin 1 _ _ _ _ (by decide) (E 1 (by decide))
    rw [← ev 1 (by omega)] at q
    simpa [h, turnA, turnB, magC, magS, z1, z2, nn, n1, p1, rotC, rotS] using q
  · have q := fin 2 _ _ _ _ (by decide) (O 2 (by decide))
    rw [← od 2 (by omega)] at q
    simpa [h, turnA, turnB, magC, magS, z1, z2, nn, n1, p1, rotC, rotS] using q
  · have q := fin 2 _ _ _ _ (by decide) (E 2 (by decide))
    rw [← ev 2 (by omega)] at q
    simpa [h, turnA, turnB, magC, magS, z1, z2, nn, n1, p1, rotC, rotS] using q
  · have q := fin 3 _ _ _ _ (by decide) (O 3 (by decide))
    rw [← od 3 (by omega)] at q
    simpa [h, turnA, turnB, magC, magS, z1, z2, nn, n1, p1, rotC, rotS] using q
  · have q := fin 3 _ _ _ _ (by decide) (E 3 (by decide))
    rw [← ev 3 (by omega)] at q
    simpa [h, turnA, turnB, magC, magS, z1, z2, nn, n1, p1, rotC, rotS] using q
  · have q := fin 4 _ _ _ _ (by decide) (O 4 (by decide))
    rw [← od 4 (by omega)] at q
    simpa [h, turnA, turnB, magC, magS, z1, z2, nn, n1, p1, rotC, rotS] using q
/-- the reference's point, and the angle from the axis -/
theorem turnX_near {k n : Int} (hn : 0 < n) : turnX k n ≤ one120 ∧ ∃ d : Rat, 0 ≤ d ∧ d * uR ≤ 1 ∧ restT k n = xR (turnX k n) + d := by
  obtain ⟨r0, r1⟩ := octR_range (k := k) hn
  have hn' : n = (n.toNat : Int) := by omega
  have hr' : octR k n = ((octR k n).toNat : Int) := by omega
  have np : 0 < n.toNat := by omega
  have rn : (octR k n).toNat ≤ n.toNat := by omega
  have q1 : turnX k n * n.toNat ≤ eighthN * (octR k n).toNat := Nat.div_mul_le_self _ _
  have q2 : eighthN * (octR k n).toNat ≤ (turnX k n + 1) * n.toNat := Nat.le_of_lt (Nat.lt_of_lt_of_eq (Nat.lt_mul_div_succ _ np) (Nat.mul_comm _ _))
  have q3 : turnX k n ≤ eighthN := Nat.div_le_of_le_mul (by rw [Nat.mul_comm n.toNat]; exact Nat.mul_le_mul_left _ rn)
  refine ⟨Nat.le_trans q3 eighth_one, restT k n - xR (turnX k n), ?_⟩
  have hx := xR_mul (turnX k n)
  have he := xR_mul eighthN
  have c1 : (turnX k n : Rat) * (n.toNat : Rat) ≤ (eighthN : Rat) * ((octR k n).toNat : Rat) := by exact_mod_cast q1
  have c2 : (eighthN : Rat) * ((octR k n).toNat : Rat) ≤ ((turnX k n : Rat) + 1) * (n.toNat : Rat) := by exact_mod_cast q2
  have p : (0 : Rat) < (n.toNat : Rat) := by exact_mod_cast np
  have e1 : (n : Rat) = (n.toNat : Rat) := by rw [hn']; exact_mod_cast rfl
  have e2 : (octR k n : Rat) = ((octR k n).toNat : Rat) := by rw [hr']; exact_mod_cast rfl
  have hu := oneR_pos
  have key : (n.toNat : Rat) * (restT k n * (one120 : Rat)) = (eighthN : Rat) * ((octR k n).toNat : Rat) := by
    unfold restT eighthR
    rw [e1, e2, ← he]
    grind
  show 0 ≤ _ ∧ _ * (one120 : Rat) ≤ 1 ∧ _
  generalize restT k n = t at *
  generalize xR (turnX k n) = x at *
  generalize (one120 : Rat) = u at *
  generalize (turnX k n : Rat) = X at *
  generalize (n.toNat : Rat) = m at *
  have k1 := nonneg_of p (d := t * u - X) (by grind)
  have k2 := nonneg_of p (d := X + 1 - t * u) (by grind)
  refine ⟨nonneg_of hu (by grind), by grind, by grind⟩
theorem ref_near {k n : Int} (hn : 0 < n) :
    (-90 ≤ cosR (restT k n) * uR - (cosN (turnX k n) : Rat) ∧ cosR (restT k n) * uR - (cosN (turnX k n) : Rat) ≤ 90) ∧
    (-90 ≤ sinR (restT k n) * uR - (sinN (turnX k n) : Rat) ∧ sinR (restT k n) * uR - (sinN (turnX k n) : Rat) ≤ 90) := by
  obtain ⟨hX, d, d0, d1, e⟩ := turnX_near (k := k) hn
  obtain ⟨x1, x0⟩ := xR_le hX
  obtain ⟨⟨a1, a2⟩, ⟨b1, b2⟩⟩ := near_points (x := xR (turnX k n)) (by grind) x1 d0 d1
  obtain ⟨c1, c2⟩ := cosN_near hX
  obtain ⟨s1, s2⟩ := sinN_near hX
  rw [e]
  have u1 : cR 100 (xR (turnX k n)) * (one120 : Rat) = cosR (xR (turnX k n)) * uR := rfl
  have u2 : sR 100 (xR (turnX k n)) * (one120 : Rat) = sinR (xR (turnX k n)) * uR := rfl
  rw [u1] at c1 c2
  rw [u2] at s1 s2
  refine ⟨⟨?_, ?_⟩, ⟨?_, ?_⟩⟩ <;> grind
/-- the reference's magnitudes are within 90 units of the exact ones' -/
theorem mag_near {k n : Int} (hn : 0 < n) (o : Int) :
    (-90 ≤ magC o (restT k n) * uR - (turnC o (turnX k n) : Rat) ∧ magC o (restT k n) * uR - (turnC o (turnX k n) : Rat) ≤ 90) ∧
    (-90 ≤ magS o (restT k n) * uR - (turnS o (turnX k n) : Rat) ∧ magS o (restT k n) * uR - (turnS o (turnX k n) : Rat) ≤ 90) := by
  obtain ⟨a, b⟩ := ref_near (k := k) hn
  unfold magC magS turnC turnS
  by_cases c : o = 1 ∨ o = 2 ∨ o = 5 ∨ o = 6
  · rw [if_pos c, if_pos c, if_pos c, if_pos c]; exact ⟨b, a⟩
  · rw [if_neg c, if_neg c, if_neg c, if_neg c]; exact ⟨a, b⟩
theorem turnA_one (o : Int) : turnA o = 1 ∨ turnA o = -1 := by unfold turnA; split <;> simp
theorem turnB_one (o : Int) : turnB o = 1 ∨ turnB o = -1 := by unfold turnB; split <;> simp
/-- the reference's cosine and sine are within 3700 units of 2^-120 of the exact ones -/
theorem ref_truth {k n : Int} (hn : 0 < n) :
    (-3700 ≤ cosR (angR k n) * uR - (turnA (octO k n) : Rat) * (turnC (octO k n) (turnX k n) : Rat) ∧ cosR (angR k n) * uR - (turnA (octO k n) : Rat) * (turnC (octO k n) (turnX k n) : Rat) ≤ 3700) ∧
    (-3700 ≤ sinR (angR k n) * uR - (turnB (octO k n) : Rat) * (turnS (octO k n) (turnX k n) : Rat) ∧ sinR (angR k n) * uR - (turnB (octO k n) : Rat) * (turnS (octO k n) (turnX k n) : Rat) ≤ 3700) := by
  obtain ⟨⟨a1, a2⟩, ⟨b1, b2⟩⟩ := truth (k := k) hn
  obtain ⟨m1, m2⟩ := mag_near (k := k) hn (octO k n)
  have z1 : ((1 : Int) : Rat) = 1 := by exact_mod_cast rfl
  have z2 : ((-1 : Int) : Rat) = -1 := by exact_mod_cast rfl
  constructor
  · rcases turnA_one (octO k n) with h | h
    · rw [h, z1] at a1 a2 ⊢; constructor <;> grind
    · rw [h, z2] at a1 a2 ⊢; constructor <;> grind
  · rcases turnB_one (octO k n) with h | h
    · rw [h, z1] at b1 b2 ⊢; constructor <;> grind
    · rw [h, z2] at b1 b2 ⊢; constructor <;> grind
end Go.Proofs.Ytpifkjmdcbieoaa

/- Sums of angles, and the circle, of numbers that are near the exact ones (layer 5). -/
namespace Go.Proofs.Ytpifkjmdcbieoaa
open Go.RowKit

theorem turn_le : turnR ≤ 64 / 10 ∧ 0 ≤ turnR := by
  have := quart_le
  unfold turnR
  constructor <;> grind
theorem ang_range {k n : Int} (hn : 0 < n) : 0 ≤ angR k n ∧ angR k n ≤ 64 / 10 := by
  obtain ⟨q0, q1⟩ := octQ_range (k := k) hn
  obtain ⟨a, b⟩ := frac_range hn q0 (Int.le_of_lt q1)
  obtain ⟨t1, t0⟩ := turn_le
  unfold angR
  have m1 := Rat.mul_nonneg (a := turnR) (b := (octQ k n : Rat) / (n : Rat)) t0 a
  have m2 := Rat.mul_nonneg (a := turnR) (b := 1 - (octQ k n : Rat) / (n : Rat)) t0 (by grind)
  constructor <;> grind
theorem ang_sum {a b n : Int} (hn : 0 < n) : angR a n + angR b n = angR (a + b) n ∨ angR a n + angR b n = angR (a + b) n + turnR := by
  have p := intR_pos hn
  obtain ⟨a0, a1⟩ := octQ_range (k := a) hn
  obtain ⟨b0, b1⟩ := octQ_range (k := b) hn
  have e : octQ (a + b) n = (octQ a n + octQ b n) % n := Int.add_emod a b n
  by_cases c : octQ a n + octQ b n < n
  · rw [Int.emod_eq_of_lt (by omega) c] at e
    have q : (octQ (a + b) n : Rat) = (octQ a n : Rat) + (octQ b n : Rat) := by rw [e]; exact_mod_cast rfl
    refine Or.inl ?_
    unfold angR
    rw [q]; grind
  · have h : octQ (a + b) n = octQ a n + octQ b n - n := by
      rw [e]
      have : (octQ a n + octQ b n) % n = (octQ a n + octQ b n - n) % n := (Int.sub_emod_right _ _).symm
      rw [this, Int.emod_eq_of_lt (by omega) (by omega)]
    have q : (octQ (a + b) n : Rat) = (octQ a n : Rat) + (octQ b n : Rat) - (n : Rat) := by rw [h]; push_cast; rfl
    refine Or.inr ?_
    unfold angR
    rw [q]; grind
/-- a whole turn further -/
theorem turn_step {x : Rat} (h1 : -7 ≤ x) (h2 : x ≤ 7) : InU 8000 (cosR (x + turnR)) (cosR x) ∧ InU 8000 (sinR (x + turnR)) (sinR x) := by
  obtain ⟨t1, t0⟩ := turn_le
  obtain ⟨a1, a2⟩ := cos_add (x := x) (y := turnR) h1 h2 (by grind) (by grind)
  obtain ⟨b1, b2⟩ := sin_add (x := x) (y := turnR) h1 h2 (by grind) (by grind)
  obtain ⟨c1, c2⟩ := cos_le h1 h2
  obtain ⟨s1, s2⟩ := sin_le h1 h2
  obtain ⟨⟨d1, d2⟩, ⟨e1, e2⟩⟩ := turn_cos
  generalize cosR (x + turnR) = C at *
  generalize sinR (x + turnR) = S at *
  generalize cosR turnR = g at *
  generalize sinR turnR = f at *
  generalize cosR x = c at *
  generalize sinR x = s at *
  have m1 := within_mul (a := (g - 1) * uR) (b := c) (A := 3600) (B := 11 / 10) d1 d2 c1 c2
  have m2 := within_mul (a := (g - 1) * uR) (b := s) (A := 3600) (B := 11 / 10) d1 d2 s1 s2
  have m3 := within_mul (a := (f - 0) * uR) (b := c) (A := 3600) (B := 11 / 10) e1 e2 c1 c2
  have m4 := within_mul (a := (f - 0) * uR) (b := s) (A := 3600) (B := 11 / 10) e1 e2 s1 s2
  refine ⟨⟨?_, ?_⟩, ⟨?_, ?_⟩⟩ <;> grind
theorem cos_sum {a b n : Int} (hn : 0 < n) :
    InU 8001 (cosR (angR a n) * cosR (angR b n) - sinR (angR a n) * sinR (angR b n)) (cosR (angR (a + b) n)) ∧
    InU 8001 (sinR (angR a n) * cosR (angR b n) + cosR (angR a n) * sinR (angR b n)) (sinR (angR (a + b) n)) := by
  obtain ⟨a0, a1⟩ := ang_range (k := a) hn
  obtain ⟨b0, b1⟩ := ang_range (k := b) hn
  obtain ⟨s0, s1⟩ := ang_range (k := a + b) hn
  have h1 := cos_add (x := angR a n) (y := angR b n) (by grind) (by grind) (by grind) (by grind)
  have h2 := sin_add (x := angR a n) (y := angR b n) (by grind) (by grind) (by grind) (by grind)
  rcases ang_sum (a := a) (b := b) hn with e | e
  · rw [e] at h1 h2
    exact ⟨h1.mono (by grind), h2.mono (by grind)⟩
  · rw [e] at h1 h2
    obtain ⟨t1, t2⟩ := turn_step (x := angR (a + b) n) (by grind) (by grind)
    exact ⟨(h1.trans t1).mono (by grind), (h2.trans t2).mono (by grind)⟩
theorem InU.prod {E c s C S : Rat} (h : InU E c C) (k : InU E s S) (hC : -(11 / 10) ≤ C ∧ C ≤ 11 / 10) (hs : -(12 / 10) ≤ s ∧ s ≤ 12 / 10) (hE : 0 ≤ E) : InU (3 * E) (c * s) (C * S) := by
  obtain ⟨a1, a2⟩ := h
  obtain ⟨b1, b2⟩ := k
  have m1 := within_mul a1 a2 hs.1 hs.2
  have m2 := within_mul b1 b2 hC.1 hC.2
  have e : (c * s - C * S) * uR = (c - C) * uR * s + (s - S) * uR * C := by grind
  constructor
  · rw [e]; grind
  · rw [e]; grind
theorem InU.size {E s S : Rat} (k : InU E s S) (hE : E * 10 ≤ uR) (hS : -(11 / 10) ≤ S ∧ S ≤ 11 / 10) : -(12 / 10) ≤ s ∧ s ≤ 12 / 10 := by
  obtain ⟨b1, b2⟩ := k
  have hu := uR_pos
  have k1 := nonneg_of hu (d := 1 / 10 - (s - S)) (by grind)
  have k2 := nonneg_of hu (d := 1 / 10 + (s - S)) (by grind)
  constructor <;> grind
/-- what the sum's cosine and sine lack -/
theorem adds_near {a b n : Int} (hn : 0 < n) {E c s d e f g : Rat} (hE : 8001 ≤ E) (hE' : E * 10 ≤ uR)
    (h1 : InU E c (cosR (angR a n))) (h2 : InU E s (sinR (angR a n))) (h3 : InU E d (cosR (angR b n))) (h4 : InU E e (sinR (angR b n)))
    (h5 : InU E f (cosR (angR (a + b) n))) (h6 : InU E g (sinR (angR (a + b) n))) :
    InU (8 * E) (c * d - s * e - f) 0 ∧ InU (8 * E) (s * d + c * e - g) 0 := by
  obtain ⟨a0, a1⟩ := ang_range (k := a) hn
  obtain ⟨b0, b1⟩ := ang_range (k := b) hn
  have CA := cos_le (x := angR a n) (by grind) (by grind)
  have SA := sin_le (x := angR a n) (by grind) (by grind)
  have CB := cos_le (x := angR b n) (by grind) (by grind)
  have SB := sin_le (x := angR b n) (by grind) (by grind)
  obtain ⟨⟨t1, t2⟩, ⟨t3, t4⟩⟩ := cos_sum (a := a) (b := b) hn
  obtain ⟨p1, p2⟩ := h1.prod h3 CA (h3.size hE' CB) (by grind)
  obtain ⟨q1, q2⟩ := h2.prod h4 SA (h4.size hE' SB) (by grind)
  obtain ⟨r1, r2⟩ := h2.prod h3 SA (h3.size hE' CB) (by grind)
  obtain ⟨v1, v2⟩ := h1.prod h4 CA (h4.size hE' SB) (by grind)
  obtain ⟨f1, f2⟩ := h5
  obtain ⟨g1, g2⟩ := h6
  refine ⟨⟨?_, ?_⟩, ⟨?_, ?_⟩⟩ <;> grind
theorem circle_near {k n : Int} (hn : 0 < n) {E c s : Rat} (hE : 8001 ≤ E) (hE' : E * 10 ≤ uR)
    (h1 : InU E c (cosR (angR k n))) (h2 : InU E s (sinR (angR k n))) : InU (7 * E) (c * c + s * s - 1) 0 := by
  obtain ⟨a0, a1⟩ := ang_range (k := k) hn
  have CA := cos_le (x := angR k n) (by grind) (by grind)
  have SA := sin_le (x := angR k n) (by grind) (by grind)
  obtain ⟨t1, t2⟩ := circle (x := angR k n) (by grind) (by grind)
  obtain ⟨p1, p2⟩ := h1.prod h1 CA (h1.size hE' CA) (by grind)
  obtain ⟨q1, q2⟩ := h2.prod h2 SA (h2.size hE' SA) (by grind)
  constructor <;> grind
end Go.Proofs.Ytpifkjmdcbieoaa

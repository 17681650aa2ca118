/- Merged texts: Plus5, Over5, Times5, Minus5, Often5, Two, RegN, Reg8, TwoR, Step8, StepN, RegG. -/
import Derived.Test.YtpifkjmdcbieoaaM2
import Derived.StillTailTactics
import Derived.Test.YtpifkjmdcbieoaaM1
import Derived.WalkKit
import Derived.Orders
import Derived.Test.YtpifkjmdcbieoaaProg
import Derived.Deep.RegionHeld3
/- The reference's Plus, Minus and Often (layer 5). -/
namespace Go.Proofs.Ytpifkjmdcbieoaa
open Go.RowKit

theorem carry_v (f : Nat → Int) (v : Nat) (w : World) (hb : ∀ i, i < 5 → (f i).natAbs ≤ 2305843009213693952) (hv : lsum f 5 = (v : Int)) :
    Calls Try.prog 50 #[.agg #[.int .i64 (f 0), .int .i64 (f 1), .int .i64 (f 2), .int .i64 (f 3), .int .i64 (f 4)]] w fun r w' => r = .returned (FV v) ∧ Bel w w' :=
  (carry_raw f w hb).mono fun _ _ ⟨_, h1, h2, h3, h4⟩ => ⟨by rw [h1, fix_of h2 (h3.trans hv)], h4⟩
/-- the first i limbs changed -/
def mixF (f h : Nat → Int) (i : Nat) : Nat → Int := fun j => if j < i then h j else f j
theorem mixF_zero (f h : Nat → Int) : mixF f h 0 = f := by funext j; simp [mixF]
theorem mixF_at (f h : Nat → Int) (i : Nat) : mixF f h i i = f i := by simp [mixF]
theorem mixF_next (f h : Nat → Int) (i : Nat) : upd (mixF f h i) i (h i) = mixF f h (i + 1) := by
  funext j
  unfold upd mixF
  by_cases c : j = i
  · subst c; simp
  · rw [if_neg c]
    by_cases c2 : j < i
    · rw [if_pos c2, if_pos (by omega)]
    · rw [if_neg c2, if_neg (by omega)]
theorem mixF_end (f h : Nat → Int) : ∀ i, i < 5 → mixF f h 5 i = h i := fun i hi => by unfold mixF; rw [if_pos hi]
theorem wrap_ok {x : Int} (h : x.natAbs ≤ 4611686018427387904) : IntKind.i64.wrap x = x := by rw [IntKind.wrap_i64]; omega
set_option maxHeartbeats 2000000 in
theorem plus_raw (f h : Nat → Int) (v : Nat) (w : World) (hf : ∀ i, i < 5 → (f i).natAbs ≤ 1073741824) (hh : ∀ i, i < 5 → (h i).natAbs ≤ 1073741824) (hv : lsum (fun i => f i + h i) 5 = (v : Int)) :
    Calls Try.prog 43 #[.agg #[.int .i64 (f 0), .int .i64 (f 1), .int .i64 (f 2), .int .i64 (f 3), .int .i64 (f 4)], .agg #[.int .i64 (h 0), .int .i64 (h 1), .int .i64 (h 2), .int .i64 (h 3), .int .i64 (h 4)]] w fun r w' => r = .returned (FV v) ∧ Bel w w' := by
  obtain ⟨A, hA⟩ : ∃ A, A = w.heap.size := ⟨_, rfl⟩
  obtain ⟨w1, hw1⟩ : ∃ w1, w1 = ((w.alloc (.cells #[.int .i64 (f 0), .int .i64 (f 1), .int .i64 (f 2), .int .i64 (f 3), .int .i64 (f 4)] 37)).alloc (.cells #[.int .i64 (h 0), .int .i64 (h 1), .int .i64 (h 2), .int .i64 (h 3), .int .i64 (h 4)] 37)).alloc (.cells #[.int .i64 0, .int .i64 0, .int .i64 0, .int .i64 0, .int .i64 0] 37) := ⟨_, rfl⟩
  have t1 : CellsAt 5 w1 A f := by rw [hw1]; exact ((five_new w f _ A hA).bel ((Bel.refl _).alloc _) (by simp [hA])).bel ((Bel.refl _).alloc _) (by simp [hA]; omega)
  have t2 : CellsAt 5 w1 (A + 1) h := by rw [hw1]; exact (five_new _ h _ (A + 1) (by simp [hA])).bel ((Bel.refl _).alloc _) (by simp [hA])
  have t3 : CellsAt 5 w1 (A + 1 + 1) (fun _ => 0) := by rw [hw1]; exact five_zero _ _ (A + 1 + 1) (by simp [hA])
  have hB : Bel w w1 := by rw [hw1]; exact (((Bel.refl w).alloc _).alloc _).alloc _
  have hAw := Lib.hid (show w.heap.size ≤ A ∧ w.heap.size ≤ A + 1 + 1 by omega)
  go_enter Try.func43, Try.ntmps43
  go_wp2
  rw [← hw1, ← hA]
  clear hw1 hA
  have e0 := mixF_zero f (fun i => f i + h i)
  go_loopw [5] (fun a wr => ∃ i : Nat, i ≤ 5 ∧ a = .int .i64 (i : Int) ∧ CellsAt 5 wr A (mixF f (fun i => f i + h i) i) ∧ CellsAt 5 wr (A + 1) h ∧ CellsAt 5 wr (A + 1 + 1) (fun _ => 0) ∧ Bel w wr) (fun a _ => (5 - intOf a).toNat)
  case atStart => exact ⟨0, by omega, by simp, by rw [e0]; exact t1, t2, t3, hB⟩
  case round =>
    obtain ⟨i, hi, rfl, hL, hM, hR, hB⟩ := hrel
    by_cases hlt : i < 5
    · obtain ⟨c1, z1⟩ := hL i hlt
      obtain ⟨c2, _⟩ := hM i hlt
      rw [mixF_at] at c1
      obtain ⟨x, hx⟩ : ∃ x : Int, x = f i := ⟨_, rfl⟩
      obtain ⟨y, hy⟩ : ∃ y : Int, y = h i := ⟨_, rfl⟩
      have bx := hf i hlt
      have by' := hh i hlt
      rw [← hx] at c1 bx
      rw [← hy] at c2 by'
      have hN := mixF_next f (fun i => f i + h i) i
      have ws : IntKind.i64.wrap (x + y) = x + y := wrap_ok (by omega)
      have hxy := Lib.hid (show f i + h i = x + y by rw [hx, hy])
      clear hx hy
      go_upto_region 4 with fail
      go_still_tail 12, (by kernel_rfl)
      change wpList _ _ _ _ _ wr.drew
      have hL2 : CellsAt 5 wr.drew A _ := hL
      have hM2 : CellsAt 5 wr.drew (A + 1) h := hM
      have hR2 : CellsAt 5 wr.drew (A + 1 + 1) _ := hR
      have hB2 : Bel w wr.drew := hB.drew
      have c3 : wr.drew.cell? ⟨A, i, none⟩ = some (.int .i64 x) := c1
      have z3 : wr.drew.frozen? ⟨A, i, none⟩ = false := z1
      clear hL hM hR hB c1 z1 c2
      generalize wr.drew = w2 at hL2 hM2 hR2 hB2 c3 z3 ⊢
      have hL3 := hL2.put hlt (x + y)
      rw [← hxy.out, hN, hxy.out] at hL3
      have hM3 := hM2.so (X := A) (k := i) (by omega) (.int .i64 (x + y))
      have hR3 := hR2.so (X := A) (k := i) (by omega) (.int .i64 (x + y))
      have hB3 := hB2.setCell (p := ⟨A, i, none⟩) hAw.out.1 (.int .i64 (x + y))
      clear hL2 hM2 hR2 hB2 hN
      go_wp2
      go_roundw
      case rel => exact ⟨i + 1, by omega, by simp, hL3, hM3, hR3, hB3⟩
      case measure => simp [intOf]; omega
    · have h5 : i = 5 := by omega
      subst h5
      obtain ⟨g0, _⟩ := hL 0 (by decide)
      obtain ⟨g1, _⟩ := hL 1 (by decide)
      obtain ⟨g2, _⟩ := hL 2 (by decide)
      obtain ⟨g3, _⟩ := hL 3 (by decide)
      obtain ⟨g4, _⟩ := hL 4 (by decide)
      rw [mixF_end _ _ 0 (by decide)] at g0
      rw [mixF_end _ _ 1 (by decide)] at g1
      rw [mixF_end _ _ 2 (by decide)] at g2
      rw [mixF_end _ _ 3 (by decide)] at g3
      rw [mixF_end _ _ 4 (by decide)] at g4
      have hC := fun w => carry_v (fun i => f i + h i) v w (fun i hi => by have := hf i hi; have := hh i hi; omega) hv
      clear hL hM hf hh hv
      go_wp2_with fail
      refine (hC _).mono ?_; rintro r w2 ⟨rfl, hB2⟩
      have lR := hR.lt (by decide)
      have hR2 := hR.bel hB2 lR
      obtain ⟨⟨x0, y0⟩, z0, ⟨x1, y1⟩, z1, ⟨x2, y2⟩, z2, ⟨x3, y3⟩, z3, ⟨x4, y4⟩, z4⟩ := hR2.mid (fixD v)
      have hset := hR2.set (fixD v)
      obtain ⟨s0, _⟩ := hset 0 (by decide)
      obtain ⟨s1, _⟩ := hset 1 (by decide)
      obtain ⟨s2, _⟩ := hset 2 (by decide)
      obtain ⟨s3, _⟩ := hset 3 (by decide)
      obtain ⟨s4, _⟩ := hset 4 (by decide)
      have hB3 := (hB.trans hB2).set5 hAw.out.2 (fixD v)
      unfold set5 at s0 s1 s2 s3 s4 hB3
      unfold FV V5
      clear hset hR2 hR hC hB
      go_wp2
      refine bodyPost_ret (by simp [results, go_sem, s0, s1, s2, s3, s4]; try rfl) rfl ?_
      exact ⟨rfl, hB3⟩
end Go.Proofs.Ytpifkjmdcbieoaa

/- The reference's Over (layer 5). -/
namespace Go.Proofs.Ytpifkjmdcbieoaa
open Go.RowKit

/-- what stands above the limb j -/
def uu (v : Nat) : Nat → Nat
  | 0 => v
  | j + 1 => uu v j / 1073741824
theorem fixD_uu (v j : Nat) (h : j < 4) : fixD v j = ((uu v j % 1073741824 : Nat) : Int) := by
  match j, h with
  | 0, _ => rfl
  | 1, _ => rfl
  | 2, _ => rfl
  | 3, _ => rfl
theorem fixD_uu4 (v : Nat) : fixD v 4 = ((uu v 4 : Nat) : Int) := rfl
theorem uu_div (v n : Nat) : ∀ j, uu (v / n) j = uu v j / n
  | 0 => rfl
  | j + 1 => by
    show uu (v / n) j / 1073741824 = uu v j / 1073741824 / n
    rw [uu_div v n j, Nat.div_div_eq_div_mul, Nat.div_div_eq_div_mul, Nat.mul_comm]
theorem div_limb {a n : Nat} (hn : 0 < n) : (a / 1073741824 % n * 1073741824 + a % 1073741824) / n = a / n % 1073741824 ∧ (a / 1073741824 % n * 1073741824 + a % 1073741824) % n = a % n := by
  have h1 := Nat.div_add_mod a 1073741824
  have h2 := Nat.div_add_mod (a / 1073741824) n
  obtain ⟨k, hk⟩ : ∃ k, k = a / 1073741824 / n := ⟨_, rfl⟩
  obtain ⟨r, hr⟩ : ∃ r, r = a / 1073741824 % n := ⟨_, rfl⟩
  obtain ⟨b, hb⟩ : ∃ b, b = a % 1073741824 := ⟨_, rfl⟩
  have hr1 : r < n := by rw [hr]; exact Nat.mod_lt _ hn
  have hb1 : b < 1073741824 := by rw [hb]; exact Nat.mod_lt _ (by decide)
  rw [← hk, ← hr] at h2
  rw [← hb] at h1
  rw [← hr, ← hb]
  have e : a = n * (k * 1073741824) + (r * 1073741824 + b) := by
    rw [← h1, ← h2, Nat.mul_add]
    have : 1073741824 * (n * k) = n * (k * 1073741824) := by ac_rfl
    omega
  have hlt : r * 1073741824 + b < n * 1073741824 := by
    have : (r + 1) * 1073741824 ≤ n * 1073741824 := Nat.mul_le_mul_right _ hr1
    omega
  constructor
  · have hq : (r * 1073741824 + b) / n < 1073741824 := (Nat.div_lt_iff_lt_mul hn).2 (by omega)
    rw [e, Nat.mul_add_div hn]
    generalize (r * 1073741824 + b) / n = q at hq ⊢
    omega
  · rw [e, Nat.mul_add_mod]
/-- the limbs from i on changed -/
def mixU (f h : Nat → Int) (i : Nat) : Nat → Int := fun j => if i ≤ j then h j else f j
theorem mixU_at (f h : Nat → Int) (i : Nat) : mixU f h (i + 1) i = f i := by unfold mixU; rw [if_neg (by omega)]
theorem mixU_next (f h : Nat → Int) (i : Nat) : upd (mixU f h (i + 1)) i (h i) = mixU f h i := by
  funext j
  unfold upd mixU
  by_cases c : j = i
  · subst c; simp
  · rw [if_neg c]
    by_cases c2 : i ≤ j
    · rw [if_pos c2, if_pos (by omega)]
    · rw [if_neg c2, if_neg (by omega)]
theorem mixU_zero (f h : Nat → Int) : mixU f h 0 = h := by funext j; simp [mixU]
theorem over_next (v n : Nat) (hn : 0 < n) (i : Nat) (hi : i < 4) : ((((uu v (i + 1) % n : Nat) : Int) * 1073741824 + fixD v i) / (n : Int) = fixD (v / n) i) ∧ (((uu v (i + 1) % n : Nat) : Int) * 1073741824 + fixD v i) % (n : Int) = ((uu v i % n : Nat) : Int) := by
  have h := div_limb (a := uu v i) hn
  rw [fixD_uu v i hi, fixD_uu (v / n) i hi, uu_div, ← h.1, ← h.2]
  have e : ((uu v (i + 1) % n : Nat) : Int) * 1073741824 + ((uu v i % 1073741824 : Nat) : Int) = ((uu v i / 1073741824 % n * 1073741824 + uu v i % 1073741824 : Nat) : Int) := by
    show ((uu v i / 1073741824 % n : Nat) : Int) * 1073741824 + _ = _
    omega
  rw [e]
  exact ⟨by rw [Int.natCast_ediv], by rw [Int.natCast_emod]⟩
theorem over_top (v n : Nat) : (fixD v 4 / (n : Int) = fixD (v / n) 4) ∧ fixD v 4 % (n : Int) = ((uu v 4 % n : Nat) : Int) := by
  rw [fixD_uu4, fixD_uu4, uu_div]
  exact ⟨by rw [Int.natCast_ediv], by rw [Int.natCast_emod]⟩
/-- the rest that stands above the limb i -/
def restU (v n i : Nat) : Nat := if i < 5 then uu v i % n else 0
theorem restU_lt (v : Nat) {n : Nat} (hn : 0 < n) (i : Nat) : restU v n i < n := by
  unfold restU
  by_cases h : i < 5
  · rw [if_pos h]; exact Nat.mod_lt _ hn
  · rw [if_neg h]; exact hn
theorem over_step (v n : Nat) (hn : 0 < n) (i : Nat) (hi : i < 5) : (((restU v n (i + 1) : Nat) : Int) * 1073741824 + fixD v i) / (n : Int) = fixD (v / n) i ∧ (((restU v n (i + 1) : Nat) : Int) * 1073741824 + fixD v i) % (n : Int) = ((restU v n i : Nat) : Int) := by
  unfold restU
  rw [if_pos hi]
  by_cases h : i + 1 < 5
  · rw [if_pos h]
    exact over_next v n hn i (by omega)
  · have : i = 4 := by omega
    subst this
    rw [if_neg h]
    have := over_top v n
    simpa using this
theorem mixU_top (f h : Nat → Int) : ∀ i, i < 5 → mixU f h 5 i = f i := fun i hi => by unfold mixU; rw [if_neg (by omega)]
set_option maxHeartbeats 2000000 in
theorem over_v (v n : Nat) (w : World) (hv : v < 1427247692705959881058285969449495136382746624) (hn : 0 < n) (hn2 : n ≤ 1073741824) :
    Calls Try.prog 42 #[.agg #[.int .i64 (fixD v 0), .int .i64 (fixD v 1), .int .i64 (fixD v 2), .int .i64 (fixD v 3), .int .i64 (fixD v 4)], .int .i64 (n : Int)] w fun r w' => r = .returned (FV (v / n)) ∧ Bel w w' := by
  have hf := fixD_le hv
  obtain ⟨A, hA⟩ : ∃ A, A = w.heap.size := ⟨_, rfl⟩
  obtain ⟨f, hff⟩ : ∃ f, f = fixD v := ⟨_, rfl⟩
  rw [← hff] at hf ⊢
  obtain ⟨w1, hw1⟩ : ∃ w1, w1 = (w.alloc (.cells #[.int .i64 (f 0), .int .i64 (f 1), .int .i64 (f 2), .int .i64 (f 3), .int .i64 (f 4)] 37)).alloc (.cells #[.int .i64 0, .int .i64 0, .int .i64 0, .int .i64 0, .int .i64 0] 37) := ⟨_, rfl⟩
  have t1 : CellsAt 5 w1 A f := by rw [hw1]; exact (five_new w f _ A hA).bel ((Bel.refl _).alloc _) (by simp [hA])
  have t3 : CellsAt 5 w1 (A + 1) (fun _ => 0) := by rw [hw1]; exact five_zero _ _ (A + 1) (by simp [hA])
  have hB : Bel w w1 := by rw [hw1]; exact ((Bel.refl w).alloc _).alloc _
  have hAw := Lib.hid (show w.heap.size ≤ A ∧ w.heap.size ≤ A + 1 by omega)
  have n0 : ((n : Int) == 0) = false := by rw [beq_eq_false_iff_ne]; omega
  have hvH := Lib.hid (And.intro hv hff)
  have hr0 : restU v n 5 = 0 := rfl
  clear hv hff
  go_enter Try.func42, Try.ntmps42
  go_wp2
  rw [← hw1, ← hA]
  clear hw1 hA
  go_loopw [5, 6, 7] (fun a b _ wr => ∃ i : Nat, i ≤ 5 ∧ a = .int .i64 ((restU v n i : Nat) : Int) ∧ b = .int .i64 ((i : Int) - 1) ∧ CellsAt 5 wr A (mixU f (fixD (v / n)) i) ∧ CellsAt 5 wr (A + 1) (fun _ => 0) ∧ Bel w wr) (fun _ b _ _ => (intOf b + 1).toNat)
  case atStart => exact ⟨5, by omega, by rw [hr0]; simp, by simp, t1.congr fun i hi => (mixU_top f _ i hi).symm, t3, hB⟩
  case round =>
    obtain ⟨i, hi, rfl, rfl, hL, hR, hB⟩ := hrel
    by_cases hlt : 0 < i
    · obtain ⟨j, rfl⟩ : ∃ j, i = j + 1 := ⟨i - 1, by omega⟩
      obtain ⟨c1, z1⟩ := hL j (by omega)
      rw [mixU_at] at c1
      have bx := hf j
      have hS := over_step v n hn j (by omega)
      rw [← hvH.out.2] at hS
      have hrl := restU_lt v hn (j + 1)
      have hL3 := hL.put (show j < 5 by omega) (fixD (v / n) j)
      rw [mixU_next] at hL3
      have hR3 := hR.so (X := A) (k := j) (by omega) (.int .i64 (fixD (v / n) j))
      have hB3 := hB.setCell (p := ⟨A, j, none⟩) hAw.out.1 (.int .i64 (fixD (v / n) j))
      have ej : ((j + 1 : Nat) : Int) - 1 = (j : Int) := by omega
      rw [ej]
      have hSH := Lib.hid hS
      clear hS hL hR hB
      go_wp2
      rw [hSH.out.1, hSH.out.2]
      go_roundw
      case rel => exact ⟨j, by omega, rfl, rfl, hL3, hR3, hB3⟩
      case measure => simp [intOf]
    · have h0 : i = 0 := by omega
      subst h0
      rw [mixU_zero] at hL
      obtain ⟨g0, _⟩ := hL 0 (by decide)
      obtain ⟨g1, _⟩ := hL 1 (by decide)
      obtain ⟨g2, _⟩ := hL 2 (by decide)
      obtain ⟨g3, _⟩ := hL 3 (by decide)
      obtain ⟨g4, _⟩ := hL 4 (by decide)
      obtain ⟨⟨x0, y0⟩, z0, ⟨x1, y1⟩, z1, ⟨x2, y2⟩, z2, ⟨x3, y3⟩, z3, ⟨x4, y4⟩, z4⟩ := hR.mid (fixD (v / n))
      have hset := hR.set (fixD (v / n))
      obtain ⟨s0, _⟩ := hset 0 (by decide)
      obtain ⟨s1, _⟩ := hset 1 (by decide)
      obtain ⟨s2, _⟩ := hset 2 (by decide)
      obtain ⟨s3, _⟩ := hset 3 (by decide)
      obtain ⟨s4, _⟩ := hset 4 (by decide)
      have hB3 := hB.set5 hAw.out.2 (fixD (v / n))
      unfold set5 at s0 s1 s2 s3 s4 hB3
      clear hset hR hB hL
      go_wp2
      refine bodyPost_ret (by simp [results, go_sem, s0, s1, s2, s3, s4]; try rfl) rfl ?_
      exact ⟨rfl, hB3⟩
end Go.Proofs.Ytpifkjmdcbieoaa

/- The reference's Times (layer 5). -/
namespace Go.Proofs.Ytpifkjmdcbieoaa
open Go.RowKit

/-- the product's limbs, within a row -/
structure TimI (fa fb p0 p : Nat → Int) (i k : Nat) (c : Int) : Prop where
  digs : ∀ j, j < 10 → 0 ≤ p j ∧ p j < 1073741824
  same : ∀ j, i + k ≤ j → p j = p0 j
  eq : lsum p 10 + c * 2 ^ (30 * (i + k)) = lsum p0 10 + fa i * 2 ^ (30 * i) * lsum fb k
  c : 0 ≤ c ∧ c < 1073741824
theorem limb_prod {x y : Int} (hx : 0 ≤ x ∧ x < 1073741824) (hy : 0 ≤ y ∧ y < 1073741824) : 0 ≤ x * y ∧ x * y ≤ 1152921502459363329 := by
  refine ⟨Int.mul_nonneg hx.1 hy.1, ?_⟩
  have h1 : x * y ≤ 1073741823 * y := Int.mul_le_mul_of_nonneg_right (by omega) hy.1
  omega
theorem TimI.next {fa fb p0 p : Nat → Int} {i k : Nat} {c v q : Int} (h : TimI fa fb p0 p i k c) (hq : q = fa i * fb k) (hq2 : 0 ≤ q ∧ q ≤ 1152921502459363329) (hik : i + k < 10) (hv : v = p (i + k) + q + c) :
    TimI fa fb p0 (upd p (i + k) (v % 1073741824)) i (k + 1) (v / 1073741824) := by
  have hp := h.digs (i + k) hik
  have hc := h.c
  refine ⟨fun j hj => ?_, fun j hj => ?_, ?_, by omega⟩
  · by_cases e : j = i + k
    · subst e
      rw [upd_same]; omega
    · rw [upd_other p _ e]; exact h.digs j hj
  · rw [upd_other p _ (by omega)]; exact h.same j (by omega)
  · have e1 : v % 1073741824 = p (i + k) + (v % 1073741824 - p (i + k)) := by omega
    rw [e1, lsum_upd p (i + k) _ 10 hik, show 30 * (i + (k + 1)) = 30 * (i + k) + 30 from by omega, Int.pow_add]
    show _ = lsum p0 10 + fa i * 2 ^ (30 * i) * (lsum fb k + fb k * 2 ^ (30 * k))
    have heq := h.eq
    have e2 : fa i * 2 ^ (30 * i) * (fb k * 2 ^ (30 * k)) = q * 2 ^ (30 * (i + k)) := by
      rw [hq, Nat.mul_add, Int.pow_add]; ac_rfl
    have e30 : (2 : Int) ^ 30 = 1073741824 := rfl
    rw [Int.mul_add (fa i * 2 ^ (30 * i)), e2, e30]
    obtain ⟨W, hW⟩ : ∃ W, W = (2 : Int) ^ (30 * (i + k)) := ⟨_, rfl⟩
    rw [← hW] at heq ⊢
    have e3 : v / 1073741824 * (W * 1073741824) = v / 1073741824 * 1073741824 * W := by ac_rfl
    rw [e3, Int.add_assoc, ← Int.add_mul]
    have e4 : v % 1073741824 - p (i + k) + v / 1073741824 * 1073741824 = q + c := by omega
    rw [e4, Int.add_mul]
    omega
/-- the product's limbs, between two rows -/
structure TimR (fa : Nat → Int) (b : Nat) (p : Nat → Int) (i : Nat) : Prop where
  digs : ∀ j, j < 10 → 0 ≤ p j ∧ p j < 1073741824
  zero : ∀ j, i + 5 ≤ j → p j = 0
  eq : lsum p 10 = lsum fa i * (b : Int)
theorem lsum_none : ∀ n, lsum (fun _ => 0) n = 0
  | 0 => rfl
  | n + 1 => by
    show lsum (fun _ => 0) n + 0 * _ = 0
    rw [lsum_none n, Int.zero_mul]; rfl
theorem TimR.start (fa : Nat → Int) (b : Nat) : TimR fa b (fun _ => 0) 0 := by
  refine ⟨fun j hj => by omega, fun j hj => rfl, ?_⟩
  show lsum (fun _ => 0) 10 = 0 * (b : Int)
  rw [lsum_none, Int.zero_mul]
theorem TimR.row {fa fb p : Nat → Int} {b i : Nat} (h : TimR fa b p i) : TimI fa fb p p i 0 0 := ⟨h.digs, fun _ _ => rfl, by show lsum p 10 + 0 * _ = lsum p 10 + _ * 0; rw [Int.zero_mul, Int.mul_zero], by omega⟩
theorem TimI.done {fa fb p0 p : Nat → Int} {b i : Nat} {c : Int} (h : TimI fa fb p0 p i 5 c) (h0 : TimR fa b p0 i) (hb : lsum fb 5 = (b : Int)) (hi : i < 5) : TimR fa b (upd p (i + 5) (p (i + 5) + c)) (i + 1) ∧ p (i + 5) = 0 := by
  have hz : p (i + 5) = 0 := (h.same (i + 5) (Nat.le_refl _)).trans (h0.zero (i + 5) (Nat.le_refl _))
  have hc := h.c
  refine ⟨⟨fun j hj => ?_, fun j hj => ?_, ?_⟩, hz⟩
  · by_cases e : j = i + 5
    · subst e
      rw [upd_same, hz]; omega
    · rw [upd_other p _ e]; exact h.digs j hj
  · rw [upd_other p _ (by omega), h.same j (by omega)]
    exact h0.zero j (by omega)
  · rw [lsum_upd p (i + 5) c 10 (by omega), h.eq, h0.eq, hb]
    show _ = (lsum fa i + fa i * 2 ^ (30 * i)) * (b : Int)
    rw [Int.add_mul]
theorem ten_zero (w : World) (t : TypeId) (N : Nat) (h : N = w.heap.size) : CellsAt 10 (w.alloc (.cells #[.int .i64 0, .int .i64 0, .int .i64 0, .int .i64 0, .int .i64 0, .int .i64 0, .int .i64 0, .int .i64 0, .int .i64 0, .int .i64 0] t)) N (fun _ => 0) := by
  subst h
  intro i hi
  refine ⟨?_, frozen_of_row _ _ i _ t (heap_alloc_new w _)⟩
  rw [World.cell?_alloc_new]
  match i, hi with
  | 0, _ => rfl
  | 1, _ => rfl
  | 2, _ => rfl
  | 3, _ => rfl
  | 4, _ => rfl
  | 5, _ => rfl
  | 6, _ => rfl
  | 7, _ => rfl
  | 8, _ => rfl
  | 9, _ => rfl
/-- the limbs that are kept -/
theorem lsum_shift (p : Nat → Int) : lsum p 9 = lsum p 4 + lsum (fun j => p (j + 4)) 5 * 2 ^ (30 * 4) := by
  have e : ∀ n, lsum p (n + 4) = lsum p 4 + lsum (fun j => p (j + 4)) n * 2 ^ (30 * 4) := by
    intro n
    induction n with
    | zero => simp [lsum]
    | succ n ih =>
      show lsum p (n + 4) + p (n + 4) * 2 ^ (30 * (n + 4)) = lsum p 4 + (lsum (fun j => p (j + 4)) n + p (n + 4) * 2 ^ (30 * n)) * 2 ^ (30 * 4)
      rw [ih, Int.add_mul, Int.mul_assoc (p (n + 4)), ← Int.pow_add, show 30 * n + 30 * 4 = 30 * (n + 4) from by omega]
      omega
  exact e 5
theorem pw_le {a b : Nat} (h : a ≤ b) : ((2 ^ a : Nat) : Int) ≤ 2 ^ b := by
  rw [← pw]
  exact Int.ofNat_le.2 (Flt.two_le h)
theorem TimR.out {fa : Nat → Int} {a b : Nat} {p : Nat → Int} (h : TimR fa b p 5) (ha : lsum fa 5 = (a : Int)) (ha2 : a < 2 ^ 122) (hb2 : b < 2 ^ 122) : Digs (fun j => p (j + 4)) 4 ∧ lsum (fun j => p (j + 4)) 5 = ((a * b / 2 ^ 120 : Nat) : Int) := by
  have hab : a * b < 2 ^ 122 * 2 ^ 122 := Nat.mul_lt_mul'' ha2 hb2
  rw [← Nat.pow_add] at hab
  have he := h.eq
  rw [ha, ← Int.natCast_mul] at he
  have e10 : lsum p 10 = lsum p 9 + p 9 * 2 ^ (30 * 9) := rfl
  obtain ⟨s0, _⟩ := Digs.sum (d := p) (n := 9) fun j hj => h.digs j (by omega)
  obtain ⟨t0, t1⟩ := Digs.sum (d := p) (n := 4) fun j hj => h.digs j (by omega)
  have h9 := h.digs 9 (by decide)
  have hW : ((2 ^ (122 + 122) : Nat) : Int) ≤ 2 ^ (30 * 9) := pw_le (a := 122 + 122) (b := 30 * 9) (by decide)
  have hz : p 9 = 0 := by
    refine Classical.byContradiction fun hc => ?_
    have h1 : 1 * 2 ^ (30 * 9) ≤ p 9 * 2 ^ (30 * 9) := Int.mul_le_mul_of_nonneg_right (by omega) (Int.le_of_lt (two_i _))
    have h2 : ((a * b : Nat) : Int) < ((2 ^ (122 + 122) : Nat) : Int) := Int.ofNat_lt.2 hab
    rw [e10] at he
    generalize (2 : Int) ^ (30 * 9) = W at *
    generalize ((2 ^ (122 + 122) : Nat) : Int) = V at *
    omega
  rw [e10, hz, Int.zero_mul, Int.add_zero, lsum_shift] at he
  refine ⟨fun j hj => h.digs (j + 4) (by omega), ?_⟩
  have e4 : (2 : Int) ^ (30 * 4) = ((2 ^ 120 : Nat) : Int) := by rw [pw]
  rw [e4] at he t1
  rw [Int.natCast_ediv]
  generalize ((2 ^ 120 : Nat) : Int) = W at *
  rw [← he, Int.add_mul_ediv_right _ _ (by omega), Int.ediv_eq_zero_of_lt t0 t1]
  omega
set_option maxHeartbeats 4000000 in
theorem times_raw (fa fb : Nat → Int) (a b : Nat) (w : World) (ha : ∀ i, 0 ≤ fa i ∧ fa i < 1073741824) (hb : ∀ i, 0 ≤ fb i ∧ fb i < 1073741824) (hva : lsum fa 5 = (a : Int)) (hvb : lsum fb 5 = (b : Int)) (ha2 : a < 2 ^ 122) (hb2 : b < 2 ^ 122) :
    Calls Try.prog 44 #[.agg #[.int .i64 (fa 0), .int .i64 (fa 1), .int .i64 (fa 2), .int .i64 (fa 3), .int .i64 (fa 4)], .agg #[.int .i64 (fb 0), .int .i64 (fb 1), .int .i64 (fb 2), .int .i64 (fb 3), .int .i64 (fb 4)]] w fun r w' => r = .returned (FV (a * b / 2 ^ 120)) ∧ Bel w w' := by
  have hTout := Lib.hid (fun (p : Nat → Int) (h : TimR fa b p 5) => h.out hva ha2 hb2)
  obtain ⟨A, hA⟩ : ∃ A, A = w.heap.size := ⟨_, rfl⟩
  obtain ⟨w1, hw1⟩ : ∃ w1, w1 = (((w.alloc (.cells #[.int .i64 (fa 0), .int .i64 (fa 1), .int .i64 (fa 2), .int .i64 (fa 3), .int .i64 (fa 4)] 37)).alloc (.cells #[.int .i64 (fb 0), .int .i64 (fb 1), .int .i64 (fb 2), .int .i64 (fb 3), .int .i64 (fb 4)] 37)).alloc (.cells #[.int .i64 0, .int .i64 0, .int .i64 0, .int .i64 0, .int .i64 0] 37)).alloc (.cells #[.int .i64 0, .int .i64 0, .int .i64 0, .int .i64 0, .int .i64 0, .int .i64 0, .int .i64 0, .int .i64 0, .int .i64 0, .int .i64 0] 76) := ⟨_, rfl⟩
  have t1 : CellsAt 5 w1 A fa := by rw [hw1]; exact (((five_new w fa _ A hA).bel ((Bel.refl _).alloc _) (by simp [hA])).bel ((Bel.refl _).alloc _) (by simp [hA]; try omega)).bel ((Bel.refl _).alloc _) (by simp [hA]; try omega)
  have t2 : CellsAt 5 w1 (A + 1) fb := by rw [hw1]; exact ((five_new _ fb _ (A + 1) (by simp [hA])).bel ((Bel.refl _).alloc _) (by simp [hA])).bel ((Bel.refl _).alloc _) (by simp [hA]; try omega)
  have t3 : CellsAt 5 w1 (A + 1 + 1) (fun _ => 0) := by rw [hw1]; exact (five_zero _ _ (A + 1 + 1) (by simp [hA])).bel ((Bel.refl _).alloc _) (by simp [hA])
  have t4 : CellsAt 10 w1 (A + 1 + 1 + 1) (fun _ => 0) := by rw [hw1]; exact ten_zero _ _ (A + 1 + 1 + 1) (by simp [hA])
  have hB : Bel w w1 := by rw [hw1]; exact ((((Bel.refl w).alloc _).alloc _).alloc _).alloc _
  have hAw := Lib.hid (show w.heap.size ≤ A + 1 + 1 ∧ w.heap.size ≤ A + 1 + 1 + 1 by omega)
  have hST := TimR.start fa b
  clear ha2 hb2 hva
  go_enter Try.func44, Try.ntmps44
  go_wp2
  rw [← hw1, ← hA]
  clear hw1 hA
  go_loopw [6, 7, 8, 9] (fun x y z _ wr => ∃ (i : Nat) (p : Nat → Int), i ≤ 5 ∧ TimR fa b p i ∧ x = .int .i64 (i : Int) ∧ CellsAt 5 wr A fa ∧ CellsAt 5 wr (A + 1) fb ∧ CellsAt 5 wr (A + 1 + 1) (fun _ => 0) ∧ CellsAt 10 wr (A + 1 + 1 + 1) p ∧ Bel w wr) (fun x _ _ _ _ => (5 - intOf x).toNat)
  case atStart => exact ⟨0, _, by omega, hST, by simp, t1, t2, t3, t4, hB⟩
  case round =>
    obtain ⟨i, p0, hi, hT, rfl, hL, hM, hR, hP, hB⟩ := hrel
    by_cases hlt : i < 5
    · have hRow := hT.row (fb := fb)
      have hT0 := Lib.hid hT
      have hdi : decide ((i : Int) < 5) = true := decide_eq_true (by omega)
      clear hT
      go_wp2
      go_loopw [7, 8, 9] (fun x y _ wr => ∃ (k : Nat) (c : Int) (p : Nat → Int), k ≤ 5 ∧ TimI fa fb p0 p i k c ∧ x = .int .i64 c ∧ y = .int .i64 (k : Int) ∧ CellsAt 5 wr A fa ∧ CellsAt 5 wr (A + 1) fb ∧ CellsAt 5 wr (A + 1 + 1) (fun _ => 0) ∧ CellsAt 10 wr (A + 1 + 1 + 1) p ∧ Bel w wr) (fun _ y _ _ => (5 - intOf y).toNat)
      case atStart => exact ⟨0, 0, p0, by omega, hRow, rfl, by simp, hL, hM, hR, hP, hB⟩
      case round =>
        obtain ⟨k, c, p, hk, hI, rfl, rfl, hL, hM, hR, hP, hB⟩ := hrel
        clear hdi
        by_cases hlt2 : k < 5
        · obtain ⟨c1, _⟩ := hL i hlt
          obtain ⟨c2, _⟩ := hM k hlt2
          obtain ⟨J, hJ⟩ : ∃ J, J = i + k := ⟨_, rfl⟩
          have hJ9 : J < 10 := by omega
          obtain ⟨c3, z3⟩ := hP J hJ9
          have bx := ha i
          have by' := hb k
          obtain ⟨x, hx⟩ : ∃ x : Int, x = fa i := ⟨_, rfl⟩
          obtain ⟨y, hy⟩ : ∃ y : Int, y = fb k := ⟨_, rfl⟩
          obtain ⟨z, hz⟩ : ∃ z : Int, z = p J := ⟨_, rfl⟩
          have bz := hI.digs J hJ9
          have bc := hI.c
          have bq := limb_prod bx by'
          obtain ⟨q, hq⟩ : ∃ q, q = fa i * fb k := ⟨_, rfl⟩
          have hN := hI.next (v := z + q + c) hq (by rw [hq]; exact bq) (by omega) (by rw [hz, hJ])
          rw [← hJ] at hN
          rw [← hz] at c3 bz
          rw [← hq] at bq
          rw [← hx] at c1 bx
          rw [← hy] at c2 by'
          have hJi : IntKind.i64.wrap ((i : Int) + (k : Int)) = (J : Int) := by rw [IntKind.wrap_i64]; omega
          have ws2 : IntKind.i64.wrap (fa i * fb k) = q := by rw [← hq, IntKind.wrap_i64]; omega
          have y1 : IntKind.i64.wrap (z + q) = z + q := by rw [IntKind.wrap_i64]; omega
          have y2 : IntKind.i64.wrap (z + q + c) = z + q + c := by rw [IntKind.wrap_i64]; omega
          have J0 : (0 : Int) ≤ (J : Int) := by omega
          rw [← hx, ← hy] at ws2
          have eA : bits .and .i64 (z + q + c) 1073741823 = (z + q + c) % 1073741824 := bits_30i _
          obtain ⟨D, hD⟩ : ∃ D, D = (z + q + c) % 1073741824 := ⟨_, rfl⟩
          rw [← hD] at eA hN
          have hNH := Lib.hid hN
          have hJ9' : (J : Int) < 10 := by omega
          have I5 : (i : Int) < 5 := by omega
          have I0 : (0 : Int) ≤ (i : Int) := by omega
          have K5 : (k : Int) < 5 := by omega
          have K0 : (0 : Int) ≤ (k : Int) := by omega
          clear hN hI hx hy hz hq hD hRow hJ
          go_upto_region 9 with fail
          go_still (by kernel_rfl)
          change Exit.then _ _ _ _ wr.drew
          have hL2 : CellsAt 5 wr.drew A fa := hL
          have hM2 : CellsAt 5 wr.drew (A + 1) fb := hM
          have hR2 : CellsAt 5 wr.drew (A + 1 + 1) _ := hR
          have hP2 : CellsAt 10 wr.drew (A + 1 + 1 + 1) p := hP
          have hB2 : Bel w wr.drew := hB.drew
          have c4 : wr.drew.cell? ⟨A + 1 + 1 + 1, J, none⟩ = some (.int .i64 z) := c3
          have z4 : wr.drew.frozen? ⟨A + 1 + 1 + 1, J, none⟩ = false := z3
          clear hL hM hR hP hB c1 c2 c3 z3
          generalize wr.drew = w2 at hL2 hM2 hR2 hP2 hB2 c4 z4 ⊢
          have hL3 := hL2.so (X := A + 1 + 1 + 1) (k := J) (by omega) (.int .i64 D)
          have hM3 := hM2.so (X := A + 1 + 1 + 1) (k := J) (by omega) (.int .i64 D)
          have hR3 := hR2.so (X := A + 1 + 1 + 1) (k := J) (by omega) (.int .i64 D)
          have hP3 := hP2.put hJ9 D
          have hB3 := hB2.setCell (p := ⟨A + 1 + 1 + 1, J, none⟩) hAw.out.2 (.int .i64 D)
          clear hL2 hM2 hR2 hP2 hB2
          go_wp2
          go_roundw
          case rel => exact ⟨k + 1, _, _, by omega, hNH.out, rfl, by simp, hL3, hM3, hR3, hP3, hB3⟩
          case measure => simp [intOf]; omega
        · have h5 : k = 5 := by omega
          subst h5
          obtain ⟨hT5, hz5⟩ := hI.done hT0.out hvb hlt
          have hc5 := hI.c
          obtain ⟨J, hJ⟩ : ∃ J, J = i + 5 := ⟨_, rfl⟩
          have hJ9 : J < 10 := by omega
          obtain ⟨c3, z3⟩ := hP J hJ9
          rw [← hJ] at hT5 hz5
          rw [hz5] at c3
          have hL3 := hL.so (X := A + 1 + 1 + 1) (k := J) (by omega) (.int .i64 (0 + c))
          have hM3 := hM.so (X := A + 1 + 1 + 1) (k := J) (by omega) (.int .i64 (0 + c))
          have hR3 := hR.so (X := A + 1 + 1 + 1) (k := J) (by omega) (.int .i64 (0 + c))
          have hP3 := hP.put hJ9 (0 + c)
          have hB3 := hB.setCell (p := ⟨A + 1 + 1 + 1, J, none⟩) hAw.out.2 (.int .i64 (0 + c))
          rw [hz5] at hT5
          have hTH := Lib.hid hT5
          have hJi : IntKind.i64.wrap ((i : Int) + 5) = (J : Int) := by rw [IntKind.wrap_i64]; omega
          have hJ9' : (J : Int) < 10 := by omega
          have J0 : (0 : Int) ≤ (J : Int) := by omega
          clear hL hM hR hP hB hT5 hI hJ
          rw [Int.zero_add] at hL3 hM3 hR3 hP3 hB3 hTH
          go_wp2
          go_roundw
          case rel => exact ⟨i + 1, _, by omega, hTH.out, by simp, hL3, hM3, hR3, hP3, hB3⟩
          case measure => simp [intOf]; omega
    · have h5 : i = 5 := by omega
      subst h5
      obtain ⟨hDg, hSm⟩ := hTout.out p0 hT
      have hV := fix_of hDg hSm
      obtain ⟨G, hG⟩ : ∃ G : Nat → Int, G = fun j => p0 (j + 4) := ⟨_, rfl⟩
      rw [← hG] at hV
      have hVH := Lib.hid (And.intro hV hG)
      obtain ⟨Z, hZ⟩ : ∃ Z, Z = wr.heap.size := ⟨_, rfl⟩
      have lR := hR.lt (by decide)
      have lP := hP.lt (by decide)
      have tZ : CellsAt 5 (wr.alloc (.cells #[.int .i64 0, .int .i64 0, .int .i64 0, .int .i64 0, .int .i64 0] 37)) Z (fun _ => 0) := five_zero _ _ Z hZ
      have tR := hR.bel ((Bel.refl wr).alloc (.cells #[.int .i64 0, .int .i64 0, .int .i64 0, .int .i64 0, .int .i64 0] 37)) lR
      have tP := hP.bel ((Bel.refl wr).alloc (.cells #[.int .i64 0, .int .i64 0, .int .i64 0, .int .i64 0, .int .i64 0] 37)) lP
      have tB := hB.alloc (.cells #[.int .i64 0, .int .i64 0, .int .i64 0, .int .i64 0, .int .i64 0] 37)
      have hZw : w.heap.size ≤ Z := by have := hB.size; omega
      have hZne : A + 1 + 1 ≠ Z ∧ A + 1 + 1 + 1 ≠ Z := by omega
      obtain ⟨P, hP'⟩ : ∃ P, P = A + 1 + 1 + 1 := ⟨_, rfl⟩
      obtain ⟨R, hR'⟩ : ∃ R, R = A + 1 + 1 := ⟨_, rfl⟩
      rw [← hP'] at tP hZne ⊢
      rw [← hR'] at tR hZne ⊢
      have hRw : w.heap.size ≤ R := by rw [hR']; exact hAw.out.1
      have hZH := Lib.hid (And.intro hZw (And.intro hZne hRw))
      have m0 := mixF_zero (fun _ => 0) G
      clear hT hDg hSm hV hG hTout hL hM hR hP hB hZw hZne hP' hR' hRw t1 t2 t3 t4 lR lP hAw
      go_wp2
      rw [← hZ]
      generalize wr.alloc (.cells #[.int .i64 0, .int .i64 0, .int .i64 0, .int .i64 0, .int .i64 0] 37) = w5 at tZ tR tP tB ⊢
      clear hZ
      go_loopw [11] (fun x wr => ∃ i : Nat, i ≤ 5 ∧ x = .int .i64 (i : Int) ∧ CellsAt 5 wr Z (mixF (fun _ => 0) G i) ∧ CellsAt 10 wr P p0 ∧ CellsAt 5 wr R (fun _ => 0) ∧ Bel w wr) (fun x _ => (5 - intOf x).toNat)
      case atStart => exact ⟨0, by omega, by simp, by rw [m0]; exact tZ, tP, tR, tB⟩
      case round =>
        obtain ⟨i, hi, rfl, hL, hP, hR, hB⟩ := hrel
        by_cases hlt : i < 5
        · obtain ⟨c1, z1⟩ := hL i hlt
          rw [mixF_at] at c1
          obtain ⟨J, hJ⟩ : ∃ J, J = i + 4 := ⟨_, rfl⟩
          obtain ⟨c2, _⟩ := hP J (by omega)
          have hN := mixF_next (fun _ => 0) G i
          have hGi : G i = p0 J := by rw [hVH.out.2, hJ]
          obtain ⟨x, hx⟩ : ∃ x : Int, x = p0 J := ⟨_, rfl⟩
          rw [← hx] at c2 hGi
          have hL3 := hL.put hlt x
          rw [← hGi, hN, hGi] at hL3
          have hP3 := hP.so (X := Z) (k := i) hZH.out.2.1.2 (.int .i64 x)
          have hR3 := hR.so (X := Z) (k := i) hZH.out.2.1.1 (.int .i64 x)
          have hB3 := hB.setCell (p := ⟨Z, i, none⟩) hZH.out.1 (.int .i64 x)
          have hJi : IntKind.i64.wrap ((i : Int) + 4) = (J : Int) := by rw [IntKind.wrap_i64]; omega
          have hJ9' : (J : Int) < 10 := by omega
          have J0 : (0 : Int) ≤ (J : Int) := by omega
          clear hL hP hR hB hN hGi hx hJ
          go_wp2
          go_roundw
          case rel => exact ⟨i + 1, by omega, by simp, hL3, hP3, hR3, hB3⟩
          case measure => simp [intOf]; omega
        · have h5 : i = 5 := by omega
          subst h5
          have hL5 := hL.congr (mixF_end _ G)
          obtain ⟨g0, _⟩ := hL5 0 (by decide)
          obtain ⟨g1, _⟩ := hL5 1 (by decide)
          obtain ⟨g2, _⟩ := hL5 2 (by decide)
          obtain ⟨g3, _⟩ := hL5 3 (by decide)
          obtain ⟨g4, _⟩ := hL5 4 (by decide)
          obtain ⟨⟨x0, y0⟩, z0, ⟨x1, y1⟩, z1, ⟨x2, y2⟩, z2, ⟨x3, y3⟩, z3, ⟨x4, y4⟩, z4⟩ := hR.mid G
          have hset := hR.set G
          obtain ⟨s0, _⟩ := hset 0 (by decide)
          obtain ⟨s1, _⟩ := hset 1 (by decide)
          obtain ⟨s2, _⟩ := hset 2 (by decide)
          obtain ⟨s3, _⟩ := hset 3 (by decide)
          obtain ⟨s4, _⟩ := hset 4 (by decide)
          have hB3 := hB.set5 hZH.out.2.2 G
          unfold set5 at s0 s1 s2 s3 s4 hB3
          have hVV := Lib.hid hVH.out.1
          clear hset hR hB hL hL5 hP hVH
          go_wp2
          refine bodyPost_ret (by simp [results, go_sem, s0, s1, s2, s3, s4]; try rfl) rfl ?_
          exact ⟨congrArg _ hVV.out, hB3⟩
end Go.Proofs.Ytpifkjmdcbieoaa

/- The reference's Minus (layer 5). -/
namespace Go.Proofs.Ytpifkjmdcbieoaa
open Go.RowKit

set_option maxHeartbeats 2000000 in
theorem minus_raw (f h : Nat → Int) (v : Nat) (w : World) (hf : ∀ i, i < 5 → (f i).natAbs ≤ 1073741824) (hh : ∀ i, i < 5 → (h i).natAbs ≤ 1073741824) (hv : lsum (fun i => f i - h i) 5 = (v : Int)) :
    Calls Try.prog 45 #[.agg #[.int .i64 (f 0), .int .i64 (f 1), .int .i64 (f 2), .int .i64 (f 3), .int .i64 (f 4)], .agg #[.int .i64 (h 0), .int .i64 (h 1), .int .i64 (h 2), .int .i64 (h 3), .int .i64 (h 4)]] w fun r w' => r = .returned (FV v) ∧ Bel w w' := by
  obtain ⟨A, hA⟩ : ∃ A, A = w.heap.size := ⟨_, rfl⟩
  obtain ⟨w1, hw1⟩ : ∃ w1, w1 = ((w.alloc (.cells #[.int .i64 (f 0), .int .i64 (f 1), .int .i64 (f 2), .int .i64 (f 3), .int .i64 (f 4)] 37)).alloc (.cells #[.int .i64 (h 0), .int .i64 (h 1), .int .i64 (h 2), .int .i64 (h 3), .int .i64 (h 4)] 37)).alloc (.cells #[.int .i64 0, .int .i64 0, .int .i64 0, .int .i64 0, .int .i64 0] 37) := ⟨_, rfl⟩
  have t1 : CellsAt 5 w1 A f := by rw [hw1]; exact ((five_new w f _ A hA).bel ((Bel.refl _).alloc _) (by simp [hA])).bel ((Bel.refl _).alloc _) (by simp [hA]; omega)
  have t2 : CellsAt 5 w1 (A + 1) h := by rw [hw1]; exact (five_new _ h _ (A + 1) (by simp [hA])).bel ((Bel.refl _).alloc _) (by simp [hA])
  have t3 : CellsAt 5 w1 (A + 1 + 1) (fun _ => 0) := by rw [hw1]; exact five_zero _ _ (A + 1 + 1) (by simp [hA])
  have hB : Bel w w1 := by rw [hw1]; exact (((Bel.refl w).alloc _).alloc _).alloc _
  have hAw := Lib.hid (show w.heap.size ≤ A ∧ w.heap.size ≤ A + 1 + 1 by omega)
  go_enter Try.func45, Try.ntmps45
  go_wp2
  rw [← hw1, ← hA]
  clear hw1 hA
  have e0 := mixF_zero f (fun i => f i - h i)
  go_loopw [5] (fun a wr => ∃ i : Nat, i ≤ 5 ∧ a = .int .i64 (i : Int) ∧ CellsAt 5 wr A (mixF f (fun i => f i - h i) i) ∧ CellsAt 5 wr (A + 1) h ∧ CellsAt 5 wr (A + 1 + 1) (fun _ => 0) ∧ Bel w wr) (fun a _ => (5 - intOf a).toNat)
  case atStart => exact ⟨0, by omega, by simp, by rw [e0]; exact t1, t2, t3, hB⟩
  case round =>
    obtain ⟨i, hi, rfl, hL, hM, hR, hB⟩ := hrel
    by_cases hlt : i < 5
    · obtain ⟨c1, z1⟩ := hL i hlt
      obtain ⟨c2, _⟩ := hM i hlt
      rw [mixF_at] at c1
      obtain ⟨x, hx⟩ : ∃ x : Int, x = f i := ⟨_, rfl⟩
      obtain ⟨y, hy⟩ : ∃ y : Int, y = h i := ⟨_, rfl⟩
      have bx := hf i hlt
      have by' := hh i hlt
      rw [← hx] at c1 bx
      rw [← hy] at c2 by'
      have hN := mixF_next f (fun i => f i - h i) i
      have ws : IntKind.i64.wrap (x - y) = x - y := wrap_ok (by omega)
      have hxy := Lib.hid (show f i - h i = x - y by rw [hx, hy])
      clear hx hy
      go_upto_region 4 with fail
      go_still_tail 12, (by kernel_rfl)
      change wpList _ _ _ _ _ wr.drew
      have hL2 : CellsAt 5 wr.drew A _ := hL
      have hM2 : CellsAt 5 wr.drew (A + 1) h := hM
      have hR2 : CellsAt 5 wr.drew (A + 1 + 1) _ := hR
      have hB2 : Bel w wr.drew := hB.drew
      have c3 : wr.drew.cell? ⟨A, i, none⟩ = some (.int .i64 x) := c1
      have z3 : wr.drew.frozen? ⟨A, i, none⟩ = false := z1
      clear hL hM hR hB c1 z1 c2
      generalize wr.drew = w2 at hL2 hM2 hR2 hB2 c3 z3 ⊢
      have hL3 := hL2.put hlt (x - y)
      rw [← hxy.out, hN, hxy.out] at hL3
      have hM3 := hM2.so (X := A) (k := i) (by omega) (.int .i64 (x - y))
      have hR3 := hR2.so (X := A) (k := i) (by omega) (.int .i64 (x - y))
      have hB3 := hB2.setCell (p := ⟨A, i, none⟩) hAw.out.1 (.int .i64 (x - y))
      clear hL2 hM2 hR2 hB2 hN
      go_wp2
      go_roundw
      case rel => exact ⟨i + 1, by omega, by simp, hL3, hM3, hR3, hB3⟩
      case measure => simp [intOf]; omega
    · have h5 : i = 5 := by omega
      subst h5
      obtain ⟨g0, _⟩ := hL 0 (by decide)
      obtain ⟨g1, _⟩ := hL 1 (by decide)
      obtain ⟨g2, _⟩ := hL 2 (by decide)
      obtain ⟨g3, _⟩ := hL 3 (by decide)
      obtain ⟨g4, _⟩ := hL 4 (by decide)
      rw [mixF_end _ _ 0 (by decide)] at g0
      rw [mixF_end _ _ 1 (by decide)] at g1
      rw [mixF_end _ _ 2 (by decide)] at g2
      rw [mixF_end _ _ 3 (by decide)] at g3
      rw [mixF_end _ _ 4 (by decide)] at g4
      have hC := fun w => carry_v (fun i => f i - h i) v w (fun i hi => by have := hf i hi; have := hh i hi; omega) hv
      clear hL hM hf hh hv
      go_wp2_with fail
      refine (hC _).mono ?_; rintro r w2 ⟨rfl, hB2⟩
      have lR := hR.lt (by decide)
      have hR2 := hR.bel hB2 lR
      obtain ⟨⟨x0, y0⟩, z0, ⟨x1, y1⟩, z1, ⟨x2, y2⟩, z2, ⟨x3, y3⟩, z3, ⟨x4, y4⟩, z4⟩ := hR2.mid (fixD v)
      have hset := hR2.set (fixD v)
      obtain ⟨s0, _⟩ := hset 0 (by decide)
      obtain ⟨s1, _⟩ := hset 1 (by decide)
      obtain ⟨s2, _⟩ := hset 2 (by decide)
      obtain ⟨s3, _⟩ := hset 3 (by decide)
      obtain ⟨s4, _⟩ := hset 4 (by decide)
      have hB3 := (hB.trans hB2).set5 hAw.out.2 (fixD v)
      unfold set5 at s0 s1 s2 s3 s4 hB3
      unfold FV V5
      clear hset hR2 hR hC hB
      go_wp2
      refine bodyPost_ret (by simp [results, go_sem, s0, s1, s2, s3, s4]; try rfl) rfl ?_
      exact ⟨rfl, hB3⟩
end Go.Proofs.Ytpifkjmdcbieoaa

/- The reference's Often (layer 5). -/
namespace Go.Proofs.Ytpifkjmdcbieoaa
open Go.RowKit

theorem mul_bound30 {x n : Int} (hx : x.natAbs ≤ 1073741824) (hn : n.natAbs ≤ 1073741824) : (x * n).natAbs ≤ 1152921504606846976 := by
  rw [Int.natAbs_mul]
  exact Nat.le_trans (Nat.mul_le_mul hx hn) (by decide)
set_option maxHeartbeats 2000000 in
theorem often_raw (f : Nat → Int) (n : Int) (v : Nat) (w : World) (hf : ∀ i, i < 5 → (f i).natAbs ≤ 1073741824) (hn : n.natAbs ≤ 1073741824) (hv : lsum (fun i => f i * n) 5 = (v : Int)) :
    Calls Try.prog 41 #[.agg #[.int .i64 (f 0), .int .i64 (f 1), .int .i64 (f 2), .int .i64 (f 3), .int .i64 (f 4)], .int .i64 n] w fun r w' => r = .returned (FV v) ∧ Bel w w' := by
  obtain ⟨A, hA⟩ : ∃ A, A = w.heap.size := ⟨_, rfl⟩
  obtain ⟨w1, hw1⟩ : ∃ w1, w1 = (w.alloc (.cells #[.int .i64 (f 0), .int .i64 (f 1), .int .i64 (f 2), .int .i64 (f 3), .int .i64 (f 4)] 37)).alloc (.cells #[.int .i64 0, .int .i64 0, .int .i64 0, .int .i64 0, .int .i64 0] 37) := ⟨_, rfl⟩
  have t1 : CellsAt 5 w1 A f := by rw [hw1]; exact (five_new w f _ A hA).bel ((Bel.refl _).alloc _) (by simp [hA])
  have t3 : CellsAt 5 w1 (A + 1) (fun _ => 0) := by rw [hw1]; exact five_zero _ _ (A + 1) (by simp [hA])
  have hB : Bel w w1 := by rw [hw1]; exact ((Bel.refl w).alloc _).alloc _
  have hAw := Lib.hid (show w.heap.size ≤ A ∧ w.heap.size ≤ A + 1 by omega)
  go_enter Try.func41, Try.ntmps41
  go_wp2
  rw [← hw1, ← hA]
  clear hw1 hA
  have e0 := mixF_zero f (fun i => f i * n)
  go_loopw [5] (fun a wr => ∃ i : Nat, i ≤ 5 ∧ a = .int .i64 (i : Int) ∧ CellsAt 5 wr A (mixF f (fun i => f i * n) i) ∧ CellsAt 5 wr (A + 1) (fun _ => 0) ∧ Bel w wr) (fun a _ => (5 - intOf a).toNat)
  case atStart => exact ⟨0, by omega, by simp, by rw [e0]; exact t1, t3, hB⟩
  case round =>
    obtain ⟨i, hi, rfl, hL, hR, hB⟩ := hrel
    by_cases hlt : i < 5
    · obtain ⟨c1, z1⟩ := hL i hlt
      rw [mixF_at] at c1
      obtain ⟨x, hx⟩ : ∃ x : Int, x = f i := ⟨_, rfl⟩
      have bx := hf i hlt
      rw [← hx] at c1 bx
      have hN := mixF_next f (fun i => f i * n) i
      have bp := mul_bound30 bx hn
      obtain ⟨p, hp⟩ : ∃ p, p = x * n := ⟨_, rfl⟩
      have hxy : f i * n = p := by rw [hp, hx]
      have hL3 := hL.put hlt p
      rw [← hxy, hN, hxy] at hL3
      have hR3 := hR.so (X := A) (k := i) (by omega) (.int .i64 p)
      have hB3 := hB.setCell (p := ⟨A, i, none⟩) hAw.out.1 (.int .i64 p)
      have ws : wrap64 (x * n) = p := by rw [← hp]; unfold wrap64; rw [← hp] at bp; omega
      clear hL hR hB hN hxy hx hp bp
      go_wp2
      go_roundw
      case rel => exact ⟨i + 1, by omega, by simp, hL3, hR3, hB3⟩
      case measure => simp [intOf]; omega
    · have h5 : i = 5 := by omega
      subst h5
      have bb : ∀ i, i < 5 → ((fun i => f i * n) i).natAbs ≤ 2305843009213693952 := fun i hi => Nat.le_trans (mul_bound30 (hf i hi) hn) (by decide)
      have hC := fun w => carry_v (fun i => f i * n) v w bb hv
      obtain ⟨G, hG⟩ : ∃ G : Nat → Int, G = fun i => f i * n := ⟨_, rfl⟩
      rw [← hG] at hL
      have hC : ∀ w, Calls Try.prog 50 #[.agg #[.int .i64 (G 0), .int .i64 (G 1), .int .i64 (G 2), .int .i64 (G 3), .int .i64 (G 4)]] w fun r w' => r = .returned (FV v) ∧ Bel w w' := by rw [hG]; exact hC
      obtain ⟨g0, _⟩ := hL 0 (by decide)
      obtain ⟨g1, _⟩ := hL 1 (by decide)
      obtain ⟨g2, _⟩ := hL 2 (by decide)
      obtain ⟨g3, _⟩ := hL 3 (by decide)
      obtain ⟨g4, _⟩ := hL 4 (by decide)
      rw [mixF_end _ _ 0 (by decide)] at g0
      rw [mixF_end _ _ 1 (by decide)] at g1
      rw [mixF_end _ _ 2 (by decide)] at g2
      rw [mixF_end _ _ 3 (by decide)] at g3
      rw [mixF_end _ _ 4 (by decide)] at g4
      clear hL hf hv bb hG
      go_wp2_with fail
      refine (hC _).mono ?_; rintro r w2 ⟨rfl, hB2⟩
      have lR := hR.lt (by decide)
      have hR2 := hR.bel hB2 lR
      obtain ⟨⟨x0, y0⟩, z0, ⟨x1, y1⟩, z1, ⟨x2, y2⟩, z2, ⟨x3, y3⟩, z3, ⟨x4, y4⟩, z4⟩ := hR2.mid (fixD v)
      have hset := hR2.set (fixD v)
      obtain ⟨s0, _⟩ := hset 0 (by decide)
      obtain ⟨s1, _⟩ := hset 1 (by decide)
      obtain ⟨s2, _⟩ := hset 2 (by decide)
      obtain ⟨s3, _⟩ := hset 3 (by decide)
      obtain ⟨s4, _⟩ := hset 4 (by decide)
      have hB3 := (hB.trans hB2).set5 hAw.out.2 (fixD v)
      unfold set5 at s0 s1 s2 s3 s4 hB3
      unfold FV V5
      clear hset hR2 hR hC hB
      go_wp2
      refine bodyPost_ret (by simp [results, go_sem, s0, s1, s2, s3, s4]; try rfl) rfl ?_
      exact ⟨rfl, hB3⟩
end Go.Proofs.Ytpifkjmdcbieoaa

/- A block of two floats that a call has laid: read and written. No program is named here. -/
namespace Go.Proofs.Ytpifkjmdcbieoaa
open Go.RowKit

/-- a float stored -/
theorem run_store_float (P : Program) (a : Addr) (x : Nat) (m : Mode) (w : World) : (store a (.float .f64 x) m).run P w = stored P w a (.float .f64 x) m := run_store P w a _ m rfl
structure Two (w : World) (R : Nat) (a b : Nat) : Prop where
  c0 : w.cell? ⟨R, 0, none⟩ = some (.float .f64 a)
  c1 : w.cell? ⟨R, 1, none⟩ = some (.float .f64 b)
  z0 : w.frozen? ⟨R, 0, none⟩ = false
  z1 : w.frozen? ⟨R, 1, none⟩ = false
theorem Two.new (w : World) (a b : Nat) (t : TypeId) : Two (w.alloc (.cells #[.float .f64 a, .float .f64 b] t)) w.heap.size a b :=
  ⟨by rw [World.cell?_alloc_new]; rfl, by rw [World.cell?_alloc_new]; rfl, frozen_of_row _ _ 0 _ t (heap_alloc_new w _), frozen_of_row _ _ 1 _ t (heap_alloc_new w _)⟩
theorem Two.bel {w w' : World} {R a b : Nat} (h : Two w R a b) (hB : Bel w w') (hR : R < w.heap.size) : Two w' R a b :=
  ⟨(hB.cell hR).trans h.c0, (hB.cell hR).trans h.c1, (hB.frozen hR).trans h.z0, (hB.frozen hR).trans h.z1⟩
/-- the first cell written: what the second reads -/
theorem Two.mid {w : World} {R a b : Nat} (h : Two w R a b) (a' : Nat) : (w.setCell ⟨R, 0, none⟩ (.float .f64 a')).cell? ⟨R, 1, none⟩ = some (.float .f64 b) ∧ (w.setCell ⟨R, 0, none⟩ (.float .f64 a')).frozen? ⟨R, 1, none⟩ = false := by
  refine ⟨?_, by rw [World.frozen?_setCell]; exact h.z1⟩
  rw [World.cell?_setCell_other _ _ _ _ (by intro e; cases e)]
  exact h.c1
theorem Two.set {w : World} {R a b : Nat} (h : Two w R a b) (a' b' : Nat) : Two ((w.setCell ⟨R, 0, none⟩ (.float .f64 a')).setCell ⟨R, 1, none⟩ (.float .f64 b')) R a' b' := by
  obtain ⟨m1, m2⟩ := h.mid a'
  refine ⟨?_, ?_, by rw [World.frozen?_setCell, World.frozen?_setCell]; exact h.z0, by rw [World.frozen?_setCell]; exact m2⟩
  · rw [World.cell?_setCell_other _ _ _ _ (by intro e; cases e)]
    exact World.cell?_setCell_same' w _ _ (by rw [h.c0]; rfl)
  · exact World.cell?_setCell_same' _ _ _ (by rw [m1]; rfl)
end Go.Proofs.Ytpifkjmdcbieoaa

/- A region that draws its order, of any number of operations, by what holds behind each set of them. Over any program. -/
namespace Go.Proofs.Ytpifkjmdcbieoaa
open Go.RowKit

/-- what each operation waits for: a closed check -/
def chkN (pre : Nat → List Nat) (ops : Array Oper) : Bool :=
  (List.range ops.size).all fun i => match ops[i]? with
    | some o => (o.after.all fun e => !Region.binds .any e || decide (e.on < i)) && (pre i).all fun j => o.after.any fun e => Region.binds .any e && e.on == j
    | none => false
/-- the operations that are done -/
def doneN (l : Array Bool) (k : Nat) : Bool := l.getD k false
def undone (l : Array Bool) : Nat := l.toList.countP fun b => !b
theorem done_set {l : Array Bool} {i : Nat} (hi : i < l.size) : doneN (l.setIfInBounds i true) = fun k => doneN l k || k == i := by
  funext k
  unfold doneN
  rw [Array.getD_eq_getD_getElem?, Array.getD_eq_getD_getElem?, Array.getElem?_setIfInBounds]
  by_cases h : i = k
  · subst h
    rw [if_pos rfl, if_pos hi]
    simp
  · rw [if_neg h, show (k == i) = false from by rw [beq_eq_false_iff_ne]; exact fun e => h e.symm, Bool.or_false]
theorem countP_set {l : List Bool} {i : Nat} (h : l[i]? = some false) : (l.set i true).countP (fun b => !b) + 1 = l.countP fun b => !b := by
  induction l generalizing i with
  | nil => simp at h
  | cons b bs ih =>
    cases i with
    | zero =>
      simp at h
      subst h
      simp
    | succ i =>
      simp at h
      have := ih h
      simp only [List.set_cons_succ, List.countP_cons]
      omega
theorem undone_set {l : Array Bool} {i : Nat} (h : l[i]? = some false) : undone (l.setIfInBounds i true) + 1 = undone l := by
  unfold undone
  rw [Array.toList_setIfInBounds]
  exact countP_set (by rw [Array.getElem?_toList]; exact h)
theorem undone_zero {l : Array Bool} (h : undone l = 0) {i : Nat} (hi : i < l.size) : doneN l i = true := by
  unfold undone at h
  rw [List.countP_eq_zero] at h
  unfold doneN
  have h2 := h l[i] (by simp)
  simp at h2
  rw [Array.getD_eq_getD_getElem?, Array.getElem?_eq_getElem hi]
  simpa using h2
theorem ready_mem {ops : Array Oper} {l : Array Bool} {i : Nat} (hs : l.size = ops.size) (h : i ∈ Region.ready .any ops l) : i < ops.size ∧ l[i]? = some false ∧ ∃ o, ops[i]? = some o ∧ ∀ e ∈ o.after.toList, Region.binds .any e = true → doneN l e.on = true := by
  unfold Region.ready at h
  rw [List.mem_filter, List.mem_range, Bool.and_eq_true] at h
  obtain ⟨h1, h2, h3⟩ := h
  refine ⟨h1, ?_, ?_⟩
  · rw [Array.getD_eq_getD_getElem?, Array.getElem?_eq_getElem (by omega)] at h2
    rw [Array.getElem?_eq_getElem (by omega)]
    simpa using h2
  · rw [Array.getElem?_eq_getElem h1] at h3 ⊢
    refine ⟨_, rfl, fun e he hb => ?_⟩
    simp only [Option.map_some, Option.getD_some] at h3
    rw [← Array.all_toList, List.all_eq_true] at h3
    have := h3 e he
    rw [hb] at this
    simpa [doneN] using this
theorem ready_nil {pre : Nat → List Nat} {ops : Array Oper} {l : Array Bool} (hc : chkN pre ops = true) (hs : l.size = ops.size) (h : Region.ready .any ops l = []) : ∀ n i, i < n → i < ops.size → doneN l i = true := by
  intro n
  induction n with
  | zero => intro i h0; omega
  | succ n ih =>
    intro i hi hn
    refine Classical.byContradiction fun hd => ?_
    have hm : i ∈ Region.ready .any ops l := by
      unfold Region.ready
      rw [List.mem_filter, List.mem_range, Bool.and_eq_true]
      refine ⟨hn, ?_, ?_⟩
      · unfold doneN at hd
        rw [Array.getD_eq_getD_getElem?, Array.getElem?_eq_getElem (by omega)] at hd
        rw [Array.getD_eq_getD_getElem?, Array.getElem?_eq_getElem (by omega)]
        simpa using hd
      · unfold chkN at hc
        rw [List.all_eq_true] at hc
        have h2 := hc i (List.mem_range.2 hn)
        rw [Array.getElem?_eq_getElem hn] at h2 ⊢
        simp only [Bool.and_eq_true] at h2
        simp only [Option.map_some, Option.getD_some]
        rw [← Array.all_toList, List.all_eq_true] at h2 ⊢
        intro e he
        have h3 := h2.1 e he
        rw [Bool.or_eq_true] at h3 ⊢
        refine h3.imp id fun h3 => ?_
        rw [decide_eq_true_eq] at h3
        exact ih e.on (by omega) (by omega)
    rw [h] at hm
    exact absurd hm (by simp)
theorem wpAnyN {P : Program} {ops : Array Oper} {Q : Exit → Act → World → Prop} {pre : Nat → List Nat} (hc : chkN pre ops = true) (I : (Nat → Bool) → Act → World → Prop)
    (hstep : ∀ D a w i, i < ops.size → D i = false → (∀ j ∈ pre i, D j = true) → I D a w → wpOp P ops Q i (fun a' w' => I (fun k => D k || k == i) a' w') a w)
    (hend : ∀ D a w, (∀ i, i < ops.size → D i = true) → I D a w → Q .normal a w) : ∀ (fuel : Nat) (l : Array Bool) (a : Act) (w : World), l.size = ops.size → undone l = fuel → I (doneN l) a w → wpAny P .any ops Q fuel l a w := by
  intro fuel
  induction fuel with
  | zero =>
    intro l a w hs hu hI
    refine ⟨?_, hend _ a w (fun i hi => undone_zero hu (by omega)) hI⟩
    cases hr : Region.ready .any ops l with
    | nil => rfl
    | cons i is =>
      exfalso
      obtain ⟨h1, h2, _⟩ := ready_mem (i := i) hs (by rw [hr]; exact List.mem_cons_self ..)
      have h3 := undone_zero hu (i := i) (by omega)
      unfold doneN at h3
      rw [Array.getD_eq_getD_getElem?, h2] at h3
      simp at h3
  | succ fuel ih =>
    intro l a w hs hu hI
    refine ⟨fun hn => hend _ a w (fun i hi => ready_nil hc hs hn (i + 1) i (by omega) hi) hI, fun i hi => ?_⟩
    obtain ⟨h1, h2, o, ho, h3⟩ := ready_mem hs hi
    have hd : doneN l i = false := by
      unfold doneN
      rw [Array.getD_eq_getD_getElem?, h2]; rfl
    refine wpOp_mono (fun a' w' hI' => ih _ a' w' (by simpa using hs) (by have := undone_set h2; omega) (by rw [done_set (by omega)]; exact hI')) (hstep _ a w i h1 hd (fun j hj => ?_) hI)
    unfold chkN at hc
    rw [List.all_eq_true] at hc
    have h4 := hc i (List.mem_range.2 h1)
    rw [ho] at h4
    simp only [Bool.and_eq_true] at h4
    have h5 := List.all_eq_true.1 h4.2 j hj
    rw [← Array.any_toList, List.any_eq_true] at h5
    obtain ⟨e, he, h6⟩ := h5
    rw [Bool.and_eq_true, beq_iff_eq] at h6
    rw [← h6.2]
    exact h3 e he h6.1
theorem wp_region_set {P : Program} {ops : Array Oper} {Q : Exit → Act → World → Prop} {pre : Nat → List Nat} {id : Nat} {a : Act} {w : World} (hm : P.follows .mixedOrders = true) (hc : chkN pre ops = true) (I : (Nat → Bool) → Act → World → Prop)
    (h0 : I (fun _ => false) a { w with drawn := w.drawn + 1 })
    (hstep : ∀ D a w i, i < ops.size → D i = false → (∀ j ∈ pre i, D j = true) → I D a w → wpOp P ops Q i (fun a' w' => I (fun k => D k || k == i) a' w') a w)
    (hend : ∀ D a w, (∀ i, i < ops.size → D i = true) → I D a w → Q .normal a w) : (Code.region id ops true).wp P Q a w := by
  refine wp_region_any hm ?_
  refine wpAnyN hc I hstep hend ops.size _ a _ (by simp) ?_ ?_
  · unfold undone
    simp [List.countP_replicate]
  · have e : doneN (Array.replicate ops.size false) = fun _ => false := by
      funext k
      unfold doneN
      rw [Array.getD_eq_getD_getElem?]
      by_cases h : k < ops.size
      · rw [Array.getElem?_eq_getElem (by simpa using h)]; simp
      · rw [Array.getElem?_eq_none (by simpa using h)]; rfl
    rw [e]
    exact h0
end Go.Proofs.Ytpifkjmdcbieoaa

/- A region of eight operations that draws its order, by what holds behind each set of them. Over any program. -/
namespace Go.Proofs.Ytpifkjmdcbieoaa
open Go.RowKit

def L8 (m : Nat) : Array Bool := #[m.testBit 0, m.testBit 1, m.testBit 2, m.testBit 3, m.testBit 4, m.testBit 5, m.testBit 6, m.testBit 7]
def pop8 (m : Nat) : Nat := (m.testBit 0).toNat + (m.testBit 1).toNat + (m.testBit 2).toNat + (m.testBit 3).toNat + (m.testBit 4).toNat + (m.testBit 5).toNat + (m.testBit 6).toNat + (m.testBit 7).toNat
/-- what may come up behind each set: a closed check -/
def chk8 (pre : Nat → Nat) (md : Region.Mode) (ops : Array Oper) : Bool :=
  (List.range 256).all fun m => ((Region.ready md ops (L8 m)).all fun i => decide (i < 8) && !m.testBit i && ((m &&& pre i) == pre i)) && (!(Region.ready md ops (L8 m)).isEmpty || m == 255)
theorem set8 : ∀ m, m < 256 → ∀ i, i < 8 → m.testBit i = false → ((L8 m).setIfInBounds i true = L8 (m ||| 2 ^ i) ∧ (m ||| 2 ^ i) < 256 ∧ pop8 (m ||| 2 ^ i) = pop8 m + 1) := by decide +kernel
theorem full8 : ∀ m, m < 256 → pop8 m = 8 → m = 255 := by decide +kernel
theorem zero8 : L8 0 = Array.replicate 8 false ∧ pop8 0 = 0 := by decide +kernel
theorem full_ready {md : Region.Mode} {pre : Nat → Nat} {ops : Array Oper} (h : chk8 pre md ops = true) : Region.ready md ops (L8 255) = [] := by
  unfold chk8 at h
  rw [List.all_eq_true] at h
  have := h 255 (by simp)
  rw [Bool.and_eq_true, List.all_eq_true] at this
  cases hr : Region.ready md ops (L8 255) with
  | nil => rfl
  | cons i is =>
    exfalso
    have h1 := this.1 i (by rw [hr]; exact List.mem_cons_self ..)
    simp only [Bool.and_eq_true, decide_eq_true_eq, Bool.not_eq_true'] at h1
    have h2 : ∀ i, i < 8 → Nat.testBit 255 i = true := by decide
    rw [h2 i h1.1.1] at h1
    exact absurd h1.1.2 (by decide)
theorem wpAny8 {P : Program} {md : Region.Mode} {ops : Array Oper} {Q : Exit → Act → World → Prop} {pre : Nat → Nat} (h : chk8 pre md ops = true) (I : Nat → Act → World → Prop)
    (hstep : ∀ m a w i, m < 256 → i < 8 → m.testBit i = false → (m &&& pre i) = pre i → I m a w → wpOp P ops Q i (fun a' w' => I (m ||| 2 ^ i) a' w') a w)
    (hend : ∀ a w, I 255 a w → Q .normal a w) : ∀ (fuel m : Nat) (a : Act) (w : World), m < 256 → pop8 m + fuel = 8 → I m a w → wpAny P md ops Q fuel (L8 m) a w := by
  intro fuel
  induction fuel with
  | zero =>
    intro m a w hm hp hI
    have e := full8 m hm (by omega)
    subst e
    exact ⟨full_ready h, hend a w hI⟩
  | succ fuel ih =>
    intro m a w hm hp hI
    have hc := h
    unfold chk8 at hc
    rw [List.all_eq_true] at hc
    have hcm := hc m (by simpa using hm)
    rw [Bool.and_eq_true, List.all_eq_true, Bool.or_eq_true] at hcm
    refine ⟨fun hn => ?_, fun i hi => ?_⟩
    · have e : m = 255 := by
        rcases hcm.2 with k | k
        · rw [hn] at k; exact absurd k (by decide)
        · exact beq_iff_eq.mp k
      subst e
      exact hend a w hI
    · have h1 := hcm.1 i hi
      simp only [Bool.and_eq_true, decide_eq_true_eq, Bool.not_eq_true', beq_iff_eq] at h1
      obtain ⟨s1, s2, s3⟩ := set8 m hm i h1.1.1 h1.1.2
      rw [s1]
      exact wpOp_mono (fun a' w' hI' => ih _ a' w' s2 (by omega) hI') (hstep m a w i hm h1.1.1 h1.1.2 h1.2 hI)
theorem wp_region8 {P : Program} {ops : Array Oper} {Q : Exit → Act → World → Prop} {pre : Nat → Nat} {id : Nat} {a : Act} {w : World} (hm : P.follows .mixedOrders = true) (hsz : ops.size = 8) (h : chk8 pre .any ops = true) (I : Nat → Act → World → Prop)
    (h0 : I 0 a { w with drawn := w.drawn + 1 })
    (hstep : ∀ m a w i, m < 256 → i < 8 → m.testBit i = false → (m &&& pre i) = pre i → I m a w → wpOp P ops Q i (fun a' w' => I (m ||| 2 ^ i) a' w') a w)
    (hend : ∀ a w, I 255 a w → Q .normal a w) : (Code.region id ops true).wp P Q a w := by
  refine wp_region_any hm ?_
  rw [hsz, ← zero8.1]
  exact wpAny8 h I hstep hend 8 0 a _ (by decide) (by rw [zero8.2]) h0
theorem wpOp_go {P : Program} {ops : Array Oper} {Q : Exit → Act → World → Prop} {i : Nat} {o : Oper} {a : Act} {w : World} {K : Act → World → Prop} (ho : ops[i]? = some o) (hg : o.guard = none) (h : Oper.wp P o a w K Q) : wpOp P ops Q i K a w := by
  unfold wpOp
  simp only [ho]
  have hw : Region.wanted o (yielded ops a.tmps) = true := by simp [Region.wanted, hg]
  rw [if_pos hw]
  exact Or.inl h
end Go.Proofs.Ytpifkjmdcbieoaa

/- Blocks of two floats in a region that draws its order: what is kept, and a store as one step. -/
namespace Go.Proofs.Ytpifkjmdcbieoaa
open Go.RowKit

theorem Two.newN (w : World) (a b : Nat) (t : TypeId) (N : Nat) (h : N = w.heap.size) : Two (w.alloc (.cells #[.float .f64 a, .float .f64 b] t)) N a b := h ▸ Two.new w a b t
theorem Two.lt {w : World} {R a b : Nat} (h : Two w R a b) : R < w.heap.size := World.block_lt_of_cell? w _ h.c0
theorem Two.al {w : World} {R a b : Nat} (h : Two w R a b) (o : Obj) : Two (w.alloc o) R a b := h.bel ((Bel.refl w).alloc o) h.lt
theorem Two.dr {w : World} {R a b : Nat} (h : Two w R a b) : Two w.drew R a b := ⟨h.c0, h.c1, h.z0, h.z1⟩
theorem Two.by {w w' : World} {R a b : Nat} (g : Bel w w') (h : Two w R a b) : Two w' R a b := h.bel g h.lt
theorem Two.so {w : World} {R X a b : Nat} (hne : R ≠ X) (h : Two w R a b) (u v : Value) : Two ((w.setCell ⟨X, 0, none⟩ u).setCell ⟨X, 1, none⟩ v) R a b := by
  have k : ∀ (i j : Nat), (⟨X, i, none⟩ : Addr) ≠ ⟨R, j, none⟩ := fun i j e => by cases e; exact hne rfl
  refine ⟨?_, ?_, by rw [World.frozen?_setCell, World.frozen?_setCell]; exact h.z0, by rw [World.frozen?_setCell, World.frozen?_setCell]; exact h.z1⟩
  · rw [World.cell?_setCell_other _ _ _ _ (k _ _), World.cell?_setCell_other _ _ _ _ (k _ _)]; exact h.c0
  · rw [World.cell?_setCell_other _ _ _ _ (k _ _), World.cell?_setCell_other _ _ _ _ (k _ _)]; exact h.c1
theorem held1 {w w' : World} {C : Prop} (g : Bel (w.alloc (Obj.cells #[Value.float FloatKind.f64 0, Value.float FloatKind.f64 0] 30)) w') (h : w'.cell? ⟨w.heap.size, 0, none⟩ = some (.float .f64 0) → w'.cell? ⟨w.heap.size, 1, none⟩ = some (.float .f64 0) → w'.frozen? ⟨w.heap.size, 0, none⟩ = false → w'.frozen? ⟨w.heap.size, 1, none⟩ = false → C) : C := by
  obtain ⟨h1, h2, h3, h4⟩ := Two.by (w := w.alloc (Obj.cells #[Value.float FloatKind.f64 0, Value.float FloatKind.f64 0] 30)) g (Two.new w 0 0 30)
  exact h h1 h2 h3 h4
theorem held2 {w w' : World} {C : Prop} (g : Bel ((w.alloc (Obj.cells #[Value.float FloatKind.f64 0, Value.float FloatKind.f64 0] 30)).alloc (Obj.cells #[Value.float FloatKind.f64 0, Value.float FloatKind.f64 0] 30)) w') (h : w'.cell? ⟨w.heap.size, 0, none⟩ = some (.float .f64 0) → w'.cell? ⟨w.heap.size, 1, none⟩ = some (.float .f64 0) → w'.frozen? ⟨w.heap.size, 0, none⟩ = false → w'.frozen? ⟨w.heap.size, 1, none⟩ = false → w'.cell? ⟨(w.heap.size + 1), 0, none⟩ = some (.float .f64 0) → w'.cell? ⟨(w.heap.size + 1), 1, none⟩ = some (.float .f64 0) → w'.frozen? ⟨(w.heap.size + 1), 0, none⟩ = false → w'.frozen? ⟨(w.heap.size + 1), 1, none⟩ = false → C) : C := by
  obtain ⟨h1, h2, h3, h4⟩ := Two.by (w := (w.alloc (Obj.cells #[Value.float FloatKind.f64 0, Value.float FloatKind.f64 0] 30)).alloc (Obj.cells #[Value.float FloatKind.f64 0, Value.float FloatKind.f64 0] 30)) g ((Two.new w 0 0 30).al _)
  obtain ⟨k1, k2, k3, k4⟩ := Two.by (w := (w.alloc (Obj.cells #[Value.float FloatKind.f64 0, Value.float FloatKind.f64 0] 30)).alloc (Obj.cells #[Value.float FloatKind.f64 0, Value.float FloatKind.f64 0] 30)) g (Two.newN (w.alloc (Obj.cells #[Value.float FloatKind.f64 0, Value.float FloatKind.f64 0] 30)) 0 0 30 (w.heap.size + 1) (by simp))
  exact h h1 h2 h3 h4 k1 k2 k3 k4
theorem held1d {w w' : World} {C : Prop} (g : Bel (w.alloc (Obj.cells #[Value.float FloatKind.f64 0, Value.float FloatKind.f64 0] 30)).drew w') (h : w'.cell? ⟨w.heap.size, 0, none⟩ = some (.float .f64 0) → w'.cell? ⟨w.heap.size, 1, none⟩ = some (.float .f64 0) → w'.frozen? ⟨w.heap.size, 0, none⟩ = false → w'.frozen? ⟨w.heap.size, 1, none⟩ = false → C) : C := by
  obtain ⟨h1, h2, h3, h4⟩ := Two.by g (Two.dr (Two.new w 0 0 30))
  exact h h1 h2 h3 h4
theorem held2d {w w' : World} {C : Prop} (g : Bel ((w.alloc (Obj.cells #[Value.float FloatKind.f64 0, Value.float FloatKind.f64 0] 30)).alloc (Obj.cells #[Value.float FloatKind.f64 0, Value.float FloatKind.f64 0] 30)).drew w') (h : w'.cell? ⟨w.heap.size, 0, none⟩ = some (.float .f64 0) → w'.cell? ⟨w.heap.size, 1, none⟩ = some (.float .f64 0) → w'.frozen? ⟨w.heap.size, 0, none⟩ = false → w'.frozen? ⟨w.heap.size, 1, none⟩ = false → w'.cell? ⟨(w.heap.size + 1), 0, none⟩ = some (.float .f64 0) → w'.cell? ⟨(w.heap.size + 1), 1, none⟩ = some (.float .f64 0) → w'.frozen? ⟨(w.heap.size + 1), 0, none⟩ = false → w'.frozen? ⟨(w.heap.size + 1), 1, none⟩ = false → C) : C := by
  obtain ⟨h1, h2, h3, h4⟩ := Two.by g (Two.dr ((Two.new w 0 0 30).al _))
  obtain ⟨k1, k2, k3, k4⟩ := Two.by g (Two.dr (Two.newN (w.alloc (Obj.cells #[Value.float FloatKind.f64 0, Value.float FloatKind.f64 0] 30)) 0 0 30 (w.heap.size + 1) (by simp)))
  exact h h1 h2 h3 h4 k1 k2 k3 k4
theorem again0 {w w' : World} {C : Prop} (R : Nat) (g : Bel w w') (h1 : w.cell? ⟨R, 0, none⟩ = some (.float .f64 0)) (h2 : w.cell? ⟨R, 1, none⟩ = some (.float .f64 0)) (h3 : w.frozen? ⟨R, 0, none⟩ = false) (h4 : w.frozen? ⟨R, 1, none⟩ = false) (h : w'.cell? ⟨R, 0, none⟩ = some (.float .f64 0) → w'.cell? ⟨R, 1, none⟩ = some (.float .f64 0) → w'.frozen? ⟨R, 0, none⟩ = false → w'.frozen? ⟨R, 1, none⟩ = false → C) : C := by
  obtain ⟨k1, k2, k3, k4⟩ := Two.by g (Two.mk h1 h2 h3 h4)
  exact h k1 k2 k3 k4
theorem again1 {w w' : World} {C : Prop} (R : Nat) (g : Bel (w.alloc (Obj.cells #[Value.float FloatKind.f64 0, Value.float FloatKind.f64 0] 30)) w') (h1 : w.cell? ⟨R, 0, none⟩ = some (.float .f64 0)) (h2 : w.cell? ⟨R, 1, none⟩ = some (.float .f64 0)) (h3 : w.frozen? ⟨R, 0, none⟩ = false) (h4 : w.frozen? ⟨R, 1, none⟩ = false) (h : w'.cell? ⟨R, 0, none⟩ = some (.float .f64 0) → w'.cell? ⟨R, 1, none⟩ = some (.float .f64 0) → w'.frozen? ⟨R, 0, none⟩ = false → w'.frozen? ⟨R, 1, none⟩ = false → C) : C := by
  obtain ⟨k1, k2, k3, k4⟩ := Two.by g ((Two.mk h1 h2 h3 h4).al _)
  exact h k1 k2 k3 k4
theorem again2 {w w' : World} {C : Prop} (R : Nat) (g : Bel ((w.alloc (Obj.cells #[Value.float FloatKind.f64 0, Value.float FloatKind.f64 0] 30)).alloc (Obj.cells #[Value.float FloatKind.f64 0, Value.float FloatKind.f64 0] 30)) w') (h1 : w.cell? ⟨R, 0, none⟩ = some (.float .f64 0)) (h2 : w.cell? ⟨R, 1, none⟩ = some (.float .f64 0)) (h3 : w.frozen? ⟨R, 0, none⟩ = false) (h4 : w.frozen? ⟨R, 1, none⟩ = false) (h : w'.cell? ⟨R, 0, none⟩ = some (.float .f64 0) → w'.cell? ⟨R, 1, none⟩ = some (.float .f64 0) → w'.frozen? ⟨R, 0, none⟩ = false → w'.frozen? ⟨R, 1, none⟩ = false → C) : C := by
  obtain ⟨k1, k2, k3, k4⟩ := Two.by g (((Two.mk h1 h2 h3 h4).al _).al _)
  exact h k1 k2 k3 k4
/-- a store of two floats, as one step of a region that draws -/
theorem step_store_two {ops : Array Oper} {o : Oper} {a : Act} {w : World} {K : Act → World → Prop} {Q : Exit → Act → World → Prop} {E : Prop}
    (hg : o.guard = none) (s x : Operand) (hop : o.op = Op.store 30 s x) (X u v a0 b0 : Nat) (hs : a.eval s = .pointer (some ⟨X, 0, none⟩)) (hx : a.eval x = .agg #[.float .f64 u, .float .f64 v])
    (hT : Two w X a0 b0) (hK : K (a.put o.dst undef) ((w.setCell ⟨X, 0, none⟩ (.float .f64 u)).setCell ⟨X, 1, none⟩ (.float .f64 v))) :
    if Region.wanted o (yielded ops a.tmps) = true then Oper.wp Try.prog o a w K Q else E := by
  have hw : Region.wanted o (yielded ops a.tmps) = true := by simp [Region.wanted, hg]
  rw [if_pos hw]
  obtain ⟨m1, m2⟩ := hT.mid u
  have c0 := hT.c0
  have z0 := hT.z0
  have sf := run_store_float Try.prog
  unfold Oper.wp
  have hrun : (Instr.storeAt 30 (.pointer (some ⟨X, 0, none⟩)) (.agg #[.float .f64 u, .float .f64 v])).run Try.prog w = .ok () ((w.setCell ⟨X, 0, none⟩ (.float .f64 u)).setCell ⟨X, 1, none⟩ (.float .f64 v)) := by
    simp [go_sem, sf, c0, z0, m1, m2]
  simp [execOp, hop, hs, hx, hrun]
  exact hK
end Go.Proofs.Ytpifkjmdcbieoaa

/- One operation of a drawn region at a time: a load, a call, a new block of two floats, a store of two floats. -/
namespace Go.Proofs.Ytpifkjmdcbieoaa
open Go.RowKit

theorem step_load {o : Oper} {d : Option Nat} {a : Act} {w : World} {K : Act → World → Prop} {Q : Exit → Act → World → Prop} {t : TypeId} {s : Operand} {p v : Value} (hd : o.dst = d) (hop : o.op = .load t s) (hs : a.eval s = p)
    (hrun : (Instr.loadAt t p).run Try.prog w = .ok v w) (hK : K (a.put d v) w) : Oper.wp Try.prog o a w K Q := by
  subst hd
  unfold Oper.wp
  simp [execOp, hop, hs, hrun]
  exact hK
theorem step_alloc {o : Oper} {d : Option Nat} {a : Act} {w : World} {K : Act → World → Prop} {Q : Exit → Act → World → Prop} (hd : o.dst = d) (hop : o.op = .alloc 30)
    (hK : K (a.put d (.pointer (some ⟨w.heap.size, 0, none⟩))) (w.alloc (.cells #[.float .f64 0, .float .f64 0] 30))) : Oper.wp Try.prog o a w K Q := by
  subst hd
  unfold Oper.wp
  simp [execOp, hop, go_sem]
  exact hK
theorem step_call {o : Oper} {d : Option Nat} {a : Act} {w : World} {K : Act → World → Prop} {Q : Exit → Act → World → Prop} {f : FuncId} {s : Nat} {t : TypeId} {v : Value} (hd : o.dst = d) (hop : o.op = .call { callee := .value (.func f), args := #[.tmp s], argTypes := #[t] }) (hs : a.eval (.tmp s) = v)
    (hrun : (callFunc f #[v]).run Try.prog w = .ok (.enter f #[v]) w)
    (hC : Calls Try.prog f #[v] w fun r w' => ∃ y, r = .returned y ∧ K (a.put d y) w') : Oper.wp Try.prog o a w K Q := by
  subst hd
  have hs2 : a.tmps[s]?.getD undef = v := by simpa [Act.eval, go_sem] using hs
  unfold Oper.wp
  simp [execOp, hop, hs2, hrun, go_sem]
  try rw [Oper.upon_enter]
  refine hC.mono ?_
  rintro r w' ⟨y, rfl, hK⟩
  exact hK
theorem step_store {o : Oper} {d : Option Nat} {a : Act} {w : World} {K : Act → World → Prop} {Q : Exit → Act → World → Prop} {s x : Operand} {X u v a0 b0 : Nat} (hd : o.dst = d) (hop : o.op = Op.store 30 s x) (hs : a.eval s = .pointer (some ⟨X, 0, none⟩)) (hx : a.eval x = .agg #[.float .f64 u, .float .f64 v])
    (hT : Two w X a0 b0) (hK : K (a.put d undef) ((w.setCell ⟨X, 0, none⟩ (.float .f64 u)).setCell ⟨X, 1, none⟩ (.float .f64 v))) : Oper.wp Try.prog o a w K Q := by
  subst hd
  obtain ⟨m1, m2⟩ := hT.mid u
  have c0 := hT.c0
  have z0 := hT.z0
  have sf := run_store_float Try.prog
  unfold Oper.wp
  have hrun : (Instr.storeAt 30 (.pointer (some ⟨X, 0, none⟩)) (.agg #[.float .f64 u, .float .f64 v])).run Try.prog w = .ok () ((w.setCell ⟨X, 0, none⟩ (.float .f64 u)).setCell ⟨X, 1, none⟩ (.float .f64 v)) := by
    simp [go_sem, sf, c0, z0, m1, m2]
  simp [execOp, hop, hs, hx, hrun]
  exact hK
end Go.Proofs.Ytpifkjmdcbieoaa

/- One operation of a drawn region at a time, and regions that only read: what each operation leaves is just a value. -/
namespace Go.Proofs.Ytpifkjmdcbieoaa
open Go.RowKit

/-- one more temporary -/
def tset (f : Nat → Value) (t : Nat) (v : Value) : Nat → Value := fun s => if s = t then v else f s
theorem tset_self (f : Nat → Value) (t : Nat) (v : Value) : tset f t v t = v := if_pos rfl
theorem tset_ne (f : Nat → Value) {t s : Nat} (v : Value) (h : s ≠ t) : tset f t v s = f s := if_neg h
theorem step_val {P : Program} {o : Oper} {d : Option Nat} {a : Act} {w : World} {K : Act → World → Prop} {Q : Exit → Act → World → Prop} {v : Value} (hd : o.dst = d) (hrun : (execOp a.eval o).run P w = .ok (.value v) w) (hK : K (a.put d v) w) : Oper.wp P o a w K Q := by
  subst hd
  unfold Oper.wp
  rw [hrun]
  exact hK
theorem step_call2 {o : Oper} {d : Option Nat} {a : Act} {w : World} {K : Act → World → Prop} {Q : Exit → Act → World → Prop} {f : FuncId} {s s' : Nat} {t t' : TypeId} {v v' : Value} (hd : o.dst = d) (hop : o.op = .call { callee := .value (.func f), args := #[.tmp s, .tmp s'], argTypes := #[t, t'] }) (hs : a.eval (.tmp s) = v) (hs' : a.eval (.tmp s') = v')
    (hrun : (callFunc f #[v, v']).run Try.prog w = .ok (.enter f #[v, v']) w)
    (hC : Calls Try.prog f #[v, v'] w fun r w' => ∃ y, r = .returned y ∧ K (a.put d y) w') : Oper.wp Try.prog o a w K Q := by
  subst hd
  have hs2 : a.tmps[s]?.getD undef = v := by simpa [Act.eval, go_sem] using hs
  have hs3 : a.tmps[s']?.getD undef = v' := by simpa [Act.eval, go_sem] using hs'
  unfold Oper.wp
  simp [execOp, hop, hs2, hs3, hrun, go_sem]
  try rw [Oper.upon_enter]
  refine hC.mono ?_
  rintro r w' ⟨y, rfl, hK⟩
  exact hK
/-- what operations leave that are just a value -/
def CV (cs : List (Nat × Nat × Value)) (D : Nat → Bool) (f : Nat → Value) : Prop := ∀ c ∈ cs, D c.1 = true → f c.2.1 = c.2.2
theorem dn {D : Nat → Bool} {i k : Nat} (hk : k ≠ i) (h : (D k || k == i) = true) : D k = true := by
  rw [Bool.or_eq_true, beq_iff_eq] at h
  exact h.resolve_right hk
theorem dup {D : Nat → Bool} {i k : Nat} (h : D k = true) : (D k || k == i) = true := by rw [h]; rfl
theorem CV.other {cs : List (Nat × Nat × Value)} {D : Nat → Bool} {f : Nat → Value} (h : CV cs D f) (i t : Nat) (v : Value) (hi : ∀ c ∈ cs, c.1 ≠ i ∧ c.2.1 ≠ t) : CV cs (fun k => D k || k == i) (tset f t v) := fun c hc hd => by
  rw [tset_ne _ _ (hi c hc).2]
  exact h c hc (dn (hi c hc).1 hd)
theorem CV.none {cs : List (Nat × Nat × Value)} {D : Nat → Bool} {f : Nat → Value} (h : CV cs D f) (i : Nat) (hi : ∀ c ∈ cs, c.1 ≠ i) : CV cs (fun k => D k || k == i) f := fun c hc hd => h c hc (dn (hi c hc) hd)
theorem CV.self {cs : List (Nat × Nat × Value)} {D : Nat → Bool} {f : Nat → Value} (h : CV cs D f) (i t : Nat) (v : Value) (hi : ∀ c ∈ cs, (c.1 = i ∧ c.2.1 = t ∧ c.2.2 = v) ∨ (c.1 ≠ i ∧ c.2.1 ≠ t)) : CV cs (fun k => D k || k == i) (tset f t v) := fun c hc hd => by
  rcases hi c hc with ⟨_, h2, h3⟩ | ⟨h1, h2⟩
  · rw [h2, h3, tset_self]
  · rw [tset_ne _ _ h2]
    exact h c hc (dn h1 hd)
theorem step_field {o : Oper} {d : Option Nat} {a : Act} {w : World} {K : Act → World → Prop} {Q : Exit → Act → World → Prop} {t : TypeId} {s : Operand} {j : Nat} {p v : Value} (hd : o.dst = d) (hop : o.op = .fieldAddr t s j) (hs : a.eval s = p)
    (hrun : (Instr.fieldAt t p j).run Try.prog w = .ok v w) (hK : K (a.put d v) w) : Oper.wp Try.prog o a w K Q := by
  subst hd
  unfold Oper.wp
  simp [execOp, hop, hs, hrun]
  exact hK
theorem step_move {P : Program} {o : Oper} {d : Option Nat} {a : Act} {w : World} {K : Act → World → Prop} {Q : Exit → Act → World → Prop} {s : Operand} {v : Value} (hd : o.dst = d) (hop : o.op = .move s ∨ o.op = .assign s) (hs : a.eval s = v) (hK : K (a.put d v) w) : Oper.wp P o a w K Q := by
  subst hd hs
  unfold Oper.wp
  rcases hop with hop | hop <;> simp [execOp, hop] <;> exact hK
theorem step_extract {P : Program} {o : Oper} {d : Option Nat} {a : Act} {w : World} {K : Act → World → Prop} {Q : Exit → Act → World → Prop} {s : Operand} {j : Nat} {vs : Array Value} {v : Value} (hd : o.dst = d) (hop : o.op = .extract s j) (hs : a.eval s = .tuple vs) (hv : vs[j]? = some v) (hK : K (a.put d v) w) : Oper.wp P o a w K Q := by
  subst hd
  unfold Oper.wp
  have hrun : (Instr.extract (.tuple vs) j).run P w = .ok v w := by simp [Instr.extract, hv, go_sem]
  simp [execOp, hop, hs, hrun]
  exact hK
theorem step_call1 {o : Oper} {d : Option Nat} {a : Act} {w : World} {K : Act → World → Prop} {Q : Exit → Act → World → Prop} {f : FuncId} {s : Nat} {t : TypeId} {v : Value} (hd : o.dst = d) (hop : o.op = .call { callee := .value (.func f), args := #[.tmp s], argTypes := #[t] }) (hs : a.eval (.tmp s) = v)
    (hrun : (callFunc f #[v]).run Try.prog w = .ok (.enter f #[v]) w)
    (hC : Calls Try.prog f #[v] w fun r w' => ∃ y, r = .returned y ∧ K (a.put d y) w') : Oper.wp Try.prog o a w K Q := step_call hd hop hs hrun hC
theorem field_hi {w : World} {A : Nat} : (Instr.fieldAt 30 (.pointer (some ⟨A, 0, none⟩)) 0).run Try.prog w = .ok (.pointer (some ⟨A, 0, none⟩)) w := by simp [go_sem]
theorem field_lo {w : World} {A : Nat} : (Instr.fieldAt 30 (.pointer (some ⟨A, 0, none⟩)) 1).run Try.prog w = .ok (.pointer (some ⟨A, 1, none⟩)) w := by simp [go_sem]
theorem load_float {w : World} {A j x : Nat} (h : w.cell? ⟨A, j, none⟩ = some (.float .f64 x)) : (Instr.loadAt 28 (.pointer (some ⟨A, j, none⟩))).run Try.prog w = .ok (.float .f64 x) w := by simp [go_sem, h]
theorem nodup_one {α : Type} {g : α → Nat} : ∀ {l : List α}, (l.map g).Nodup → ∀ c ∈ l, ∀ c' ∈ l, g c = g c' → c = c' := by
  intro l
  induction l with
  | nil => intro _ c hc; cases hc
  | cons x xs ih =>
    intro hn c hc c' hc' he
    rw [List.map_cons, List.nodup_cons] at hn
    rcases List.mem_cons.1 hc with rfl | h1
    · rcases List.mem_cons.1 hc' with rfl | h2
      · rfl
      · exact absurd (he ▸ List.mem_map_of_mem h2) hn.1
    · rcases List.mem_cons.1 hc' with rfl | h2
      · exact absurd (he.symm ▸ List.mem_map_of_mem h1) hn.1
      · exact ih hn.2 c h1 c' h2 he
/-- a region that draws its order and only reads: each operation's value is known -/
theorem wp_region_cv {P : Program} {ops : Array Oper} {Q : Exit → Act → World → Prop} {pre : Nat → List Nat} {id : Nat} {w : World} (act : (Nat → Value) → Act) (f0 : Nat → Value) (hm : P.follows .mixedOrders = true) (hc : chkN pre ops = true) (cs : List (Nat × Nat × Value)) (h1 : (cs.map (·.1)).Nodup) (h2 : (cs.map (·.2.1)).Nodup)
    (hs : ∀ i, i < ops.size → ∃ t v, (i, t, v) ∈ cs ∧ ∀ f, (∀ c ∈ cs, c.1 ∈ pre i → f c.2.1 = c.2.2) → wpOp P ops Q i (fun a' w' => a' = act (tset f t v) ∧ w' = w.drew) (act f) w.drew)
    (hQ : ∀ f, (∀ c ∈ cs, f c.2.1 = c.2.2) → Q .normal (act f) w.drew) (hsz : ∀ c ∈ cs, c.1 < ops.size) : (Code.region id ops true).wp P Q (act f0) w := by
  refine wp_region_set (pre := pre) hm hc (fun D a w' => ∃ f, a = act f ∧ w' = w.drew ∧ CV cs D f) ⟨f0, rfl, rfl, fun _ _ h => absurd h Bool.false_ne_true⟩ ?_ ?_
  · rintro D a w' i hi hD hp ⟨f, rfl, rfl, hI⟩
    obtain ⟨t, v, hmem, hw⟩ := hs i hi
    refine wpOp_mono ?_ (hw f fun c hc hj => hI c hc (hp _ hj))
    rintro a' w' ⟨rfl, rfl⟩
    refine ⟨_, rfl, rfl, hI.self i t v fun c hc => ?_⟩
    by_cases h : c.1 = i
    · have := nodup_one h1 c hc _ hmem h
      subst this
      exact Or.inl ⟨rfl, rfl, rfl⟩
    · refine Or.inr ⟨h, fun ht => h ?_⟩
      have := nodup_one h2 c hc _ hmem ht
      rw [this]
  · rintro D a w' hD ⟨f, rfl, rfl, hI⟩
    exact hQ f fun c hc => hI c hc (hD _ (hsz c hc))
/-- two floats of which something holds -/
def PairV (P : Nat → Nat → Prop) (v : Value) : Prop := ∃ s e, v = .agg #[.float .f64 s, .float .f64 e] ∧ P s e
/-- a new block of two floats; once stored, what is stored -/
def BlkV (w1 w : World) (done : Prop) (p v : Value) : Prop := ∃ X α β, p = .pointer (some ⟨X, 0, none⟩) ∧ w1.heap.size ≤ X ∧ Two w X α β ∧ (done → v = .agg #[.float .f64 α, .float .f64 β])
theorem BlkV.mk0 (w1 w : World) {done : Prop} (v : Value) (hB : Bel w1 w) (hd : ¬ done) : BlkV w1 (w.alloc (.cells #[.float .f64 0, .float .f64 0] 30)) done (.pointer (some ⟨w.heap.size, 0, none⟩)) v :=
  ⟨w.heap.size, 0, 0, rfl, hB.size, Two.new .., fun h => absurd h hd⟩
theorem BlkV.imp {w1 w : World} {d d' : Prop} {p v : Value} (h : BlkV w1 w d p v) (hd : d' → d) : BlkV w1 w d' p v := by
  obtain ⟨X, α, β, h1, h2, h3, h4⟩ := h
  exact ⟨X, α, β, h1, h2, h3, fun h => h4 (hd h)⟩
theorem BlkV.bel {w1 w w' : World} {d : Prop} {p v : Value} (h : BlkV w1 w d p v) (g : Bel w w') : BlkV w1 w' d p v := by
  obtain ⟨X, α, β, h1, h2, h3, h4⟩ := h
  exact ⟨X, α, β, h1, h2, h3.by g, h4⟩
theorem BlkV.turn {w1 w : World} {d : Prop} {p v v' : Value} (h : BlkV w1 w d p v) (hd : ¬ d) : BlkV w1 w d p v' := by
  obtain ⟨X, α, β, h1, h2, h3, h4⟩ := h
  exact ⟨X, α, β, h1, h2, h3, fun h => absurd h hd⟩
theorem BlkV.fresh {w1 w : World} {d : Prop} {p v : Value} (h : BlkV w1 w d p v) : p ≠ .pointer (some ⟨w.heap.size, 0, none⟩) := by
  obtain ⟨X, α, β, h1, h2, h3, h4⟩ := h
  have := h3.lt
  rw [h1]
  intro e
  cases e
  omega
theorem BlkV.so {w1 w : World} {d : Prop} {p v : Value} {X : Nat} (h : BlkV w1 w d p v) (hne : p ≠ .pointer (some ⟨X, 0, none⟩)) (a b : Value) : BlkV w1 ((w.setCell ⟨X, 0, none⟩ a).setCell ⟨X, 1, none⟩ b) d p v := by
  obtain ⟨Y, α, β, h1, h2, h3, h4⟩ := h
  exact ⟨Y, α, β, h1, h2, h3.so (fun e => hne (by rw [h1, e])) _ _, h4⟩
end Go.Proofs.Ytpifkjmdcbieoaa

/- A region that draws its order, of calls, reads and new blocks of two floats: by what each operation leaves. -/
namespace Go.Proofs.Ytpifkjmdcbieoaa
open Go.RowKit

/-- a new block: the operation that makes it, its temporary, the operation that fills it, the temporary that is stored and the operation that leaves it -/
structure Blk where
  a : Nat
  p : Nat
  s : Nat
  v : Nat
  vo : Nat
/-- what operations leave: the operation, its temporary, what holds of the value -/
abbrev Leaves := List (Nat × Nat × (Value → Prop))
def GV (ps : Leaves) (D : Nat → Bool) (f : Nat → Value) : Prop := ∀ c ∈ ps, D c.1 = true → c.2.2 (f c.2.1)
structure RegI (ps : Leaves) (bs : List Blk) (w1 : World) (D : Nat → Bool) (f : Nat → Value) (w : World) : Prop where
  bel : Bel w1 w
  gv : GV ps D f
  bk : ∀ b ∈ bs, D b.a = true → BlkV w1 w (D b.s = true) (f b.p) (f b.v)
  ne : ∀ b ∈ bs, ∀ b' ∈ bs, b.a ≠ b'.a → D b.a = true → D b'.a = true → f b.p ≠ f b'.p
  o : ∀ b ∈ bs, D b.s = true → D b.a = true ∧ D b.vo = true
/-- operations and temporaries are apart: closed checks -/
structure Apart (ps : Leaves) (bs : List Blk) : Prop where
  n1 : (ps.map (·.1)).Nodup
  n2 : (ps.map (·.2.1)).Nodup
  n3 : (bs.map (·.a)).Nodup
  n4 : (bs.map (·.p)).Nodup
  n5 : (bs.map (·.s)).Nodup
  x : ∀ c ∈ ps, ∀ b ∈ bs, c.1 ≠ b.a ∧ c.1 ≠ b.s ∧ c.2.1 ≠ b.p
  y : ∀ b ∈ bs, ∀ b' ∈ bs, b.a ≠ b'.s
  z : ∀ b ∈ bs, ∃ φ, (b.vo, b.v, φ) ∈ ps
section
variable {ps : Leaves} {bs : List Blk} {w1 : World} {D : Nat → Bool} {f : Nat → Value} {w : World}
theorem Apart.one (h : Apart ps bs) {c c' : Nat × Nat × (Value → Prop)} (hc : c ∈ ps) (hc' : c' ∈ ps) (e : c.1 = c'.1) : c = c' := nodup_one h.n1 c hc c' hc' e
theorem Apart.tmp (h : Apart ps bs) {c c' : Nat × Nat × (Value → Prop)} (hc : c ∈ ps) (hc' : c' ∈ ps) (e : c.2.1 = c'.2.1) : c = c' := nodup_one h.n2 c hc c' hc' e
theorem RegI.value (hA : Apart ps bs) (h : RegI ps bs w1 D f w) {i t : Nat} {φ : Value → Prop} (hm : (i, t, φ) ∈ ps) (hD : D i = false) {v : Value} (hv : φ v) {w' : World} (g : Bel w w') : RegI ps bs w1 (fun k => D k || k == i) (tset f t v) w' := by
  have na : ∀ b ∈ bs, b.a ≠ i := fun b hb e => (hA.x _ hm b hb).1 e.symm
  have ns : ∀ b ∈ bs, b.s ≠ i := fun b hb e => (hA.x _ hm b hb).2.1 e.symm
  have np : ∀ b ∈ bs, b.p ≠ t := fun b hb e => (hA.x _ hm b hb).2.2 e.symm
  refine ⟨h.bel.trans g, fun c hc hd => ?_, fun b hb hd => ?_, fun b hb b' hb' hne hd hd' => ?_, fun b hb hd => (h.o b hb (dn (ns b hb) hd)).imp dup dup⟩
  · by_cases e : c.1 = i
    · have := hA.one hc hm e
      subst this
      rw [tset_self]
      exact hv
    · rw [tset_ne _ _ (fun e2 => e (by rw [hA.tmp hc hm e2]))]
      exact h.gv c hc (dn e hd)
  · have hb1 := (h.bk b hb (dn (na b hb) hd)).bel g
    rw [tset_ne _ _ (np b hb)]
    by_cases e : b.v = t
    · obtain ⟨φ', hz⟩ := hA.z b hb
      have e2 := hA.tmp hz hm e
      have e3 : b.vo = i := congrArg (·.1) e2
      have hns : ¬ D b.s = true := fun hs => by
        have := (h.o b hb hs).2
        rw [e3, hD] at this
        exact Bool.false_ne_true this
      exact (hb1.turn hns).imp (dn (ns b hb))
    · rw [tset_ne _ _ e]
      exact hb1.imp (dn (ns b hb))
  · rw [tset_ne _ _ (np b hb), tset_ne _ _ (np b' hb')]
    exact h.ne b hb b' hb' hne (dn (na b hb) hd) (dn (na b' hb') hd')
theorem RegI.alloc (hA : Apart ps bs) (h : RegI ps bs w1 D f w) {b : Blk} (hb : b ∈ bs) (hD : D b.a = false) (ty : TypeId) : RegI ps bs w1 (fun k => D k || k == b.a) (tset f b.p (.pointer (some ⟨w.heap.size, 0, none⟩))) (w.alloc (.cells #[.float .f64 0, .float .f64 0] ty)) := by
  have hns : ¬ D b.s = true := fun hs => by
    have := (h.o b hb hs).1
    rw [hD] at this
    exact Bool.false_ne_true this
  have nv : ∀ b' ∈ bs, b'.v ≠ b.p := fun b' hb' e => by
    obtain ⟨φ', hz⟩ := hA.z b' hb'
    exact (hA.x _ hz b hb).2.2 e
  have ns : ∀ b' ∈ bs, b'.s ≠ b.a := fun b' hb' e => hA.y b hb b' hb' e.symm
  have np : ∀ b' ∈ bs, b'.a ≠ b.a → b'.p ≠ b.p := fun b' hb' e e2 => e (by rw [nodup_one hA.n4 b' hb' b hb e2])
  have g : Bel w (w.alloc (.cells #[.float .f64 0, .float .f64 0] ty)) := (Bel.refl w).alloc _
  refine ⟨h.bel.trans g, fun c hc hd => ?_, fun b' hb' hd => ?_, fun b' hb' b'' hb'' hne hd hd' => ?_, fun b' hb' hd => (h.o b' hb' (dn (ns b' hb') hd)).imp dup dup⟩
  · rw [tset_ne _ _ (hA.x c hc b hb).2.2]
    exact h.gv c hc (dn (hA.x c hc b hb).1 hd)
  · rw [tset_ne _ _ (nv b' hb')]
    by_cases e : b'.a = b.a
    · have := nodup_one hA.n3 b' hb' b hb e
      subst this
      rw [tset_self]
      exact ⟨w.heap.size, 0, 0, rfl, h.bel.size, Two.new .., fun hs => absurd (dn (ns b' hb') hs) hns⟩
    · rw [tset_ne _ _ (np b' hb' e)]
      exact ((h.bk b' hb' (dn e hd)).bel g).imp (dn (ns b' hb'))
  · by_cases e : b'.a = b.a
    · have := nodup_one hA.n3 b' hb' b hb e
      subst this
      have e2 : b''.a ≠ b'.a := fun e2 => hne e2.symm
      rw [tset_self, tset_ne _ _ (np b'' hb'' e2)]
      exact (h.bk b'' hb'' (dn e2 hd')).fresh.symm
    · by_cases e2 : b''.a = b.a
      · have := nodup_one hA.n3 b'' hb'' b hb e2
        subst this
        rw [tset_self, tset_ne _ _ (np b' hb' e)]
        exact (h.bk b' hb' (dn e hd)).fresh
      · rw [tset_ne _ _ (np b' hb' e), tset_ne _ _ (np b'' hb'' e2)]
        exact h.ne b' hb' b'' hb'' hne (dn e hd) (dn e2 hd')
theorem RegI.store (hA : Apart ps bs) (h : RegI ps bs w1 D f w) {b : Blk} (hb : b ∈ bs) (ha : D b.a = true) (hvo : D b.vo = true) {X u v α β : Nat} (hX : f b.p = .pointer (some ⟨X, 0, none⟩)) (hle : w1.heap.size ≤ X) (hT : Two w X α β) (hv : f b.v = .agg #[.float .f64 u, .float .f64 v]) :
    RegI ps bs w1 (fun k => D k || k == b.s) f ((w.setCell ⟨X, 0, none⟩ (.float .f64 u)).setCell ⟨X, 1, none⟩ (.float .f64 v)) := by
  have na : ∀ b' ∈ bs, b'.a ≠ b.s := fun b' hb' => hA.y b' hb' b hb
  refine ⟨(h.bel.setCell (p := ⟨X, 0, none⟩) hle _).setCell (p := ⟨X, 1, none⟩) hle _, fun c hc hd => h.gv c hc (dn (hA.x c hc b hb).2.1 hd), fun b' hb' hd => ?_, fun b' hb' b'' hb'' hne hd hd' => h.ne b' hb' b'' hb'' hne (dn (na b' hb') hd) (dn (na b'' hb'') hd'), fun b' hb' hd => ?_⟩
  · by_cases e : b'.a = b.a
    · have := nodup_one hA.n3 b' hb' b hb e
      subst this
      exact ⟨X, u, v, hX, hle, hT.set u v, fun _ => hv⟩
    · have e2 : b'.s ≠ b.s := fun e2 => e (by rw [nodup_one hA.n5 b' hb' b hb e2])
      exact ((h.bk b' hb' (dn (na b' hb') hd)).so (fun e3 => h.ne b' hb' b hb e (dn (na b' hb') hd) ha (e3.trans hX.symm)) _ _).imp (dn e2)
  · by_cases e : b'.s = b.s
    · have := nodup_one hA.n5 b' hb' b hb e
      subst this
      exact ⟨dup ha, dup hvo⟩
    · exact (h.o b' hb' (dn e hd)).imp dup dup
end
/-- one operation, by its kind -/
inductive Does (P : Program) (ops : Array Oper) (Q : Exit → Act → World → Prop) (pre : Nat → List Nat) (act : (Nat → Value) → Act) (ps : Leaves) (bs : List Blk) (w1 : World) (i : Nat) : Prop where
  | value (t : Nat) (φ : Value → Prop) (hm : (i, t, φ) ∈ ps) (h : ∀ f w, Bel w1 w → (∀ c ∈ ps, c.1 ∈ pre i → c.2.2 (f c.2.1)) → wpOp P ops Q i (fun a' w' => ∃ v, a' = act (tset f t v) ∧ φ v ∧ Bel w w') (act f) w) : Does P ops Q pre act ps bs w1 i
  | alloc (b : Blk) (hb : b ∈ bs) (hi : i = b.a) (ty : TypeId) (h : ∀ f w K, K (act (tset f b.p (.pointer (some ⟨w.heap.size, 0, none⟩)))) (w.alloc (.cells #[.float .f64 0, .float .f64 0] ty)) → wpOp P ops Q i K (act f) w) : Does P ops Q pre act ps bs w1 i
  | store (b : Blk) (hb : b ∈ bs) (hi : i = b.s) (ha : b.a ∈ pre i) (hvo : b.vo ∈ pre i) (hφ : ∀ φ, (b.vo, b.v, φ) ∈ ps → ∀ x, φ x → ∃ u v : Nat, x = .agg #[.float .f64 u, .float .f64 v])
      (h : ∀ f w K X u v α β, f b.p = .pointer (some ⟨X, 0, none⟩) → f b.v = .agg #[.float .f64 u, .float .f64 v] → Two w X α β → K (act f) ((w.setCell ⟨X, 0, none⟩ (.float .f64 u)).setCell ⟨X, 1, none⟩ (.float .f64 v)) → wpOp P ops Q i K (act f) w) : Does P ops Q pre act ps bs w1 i
/-- what stands in the new blocks in the end -/
def Filled (bs : List Blk) (w1 w : World) (f : Nat → Value) : Prop := (∀ b ∈ bs, ∃ X α β : Nat, f b.p = .pointer (some ⟨X, 0, none⟩) ∧ w1.heap.size ≤ X ∧ Two w X α β ∧ f b.v = .agg #[.float .f64 α, .float .f64 β]) ∧ ∀ b ∈ bs, ∀ b' ∈ bs, b.a ≠ b'.a → f b.p ≠ f b'.p
theorem wp_region_gv {P : Program} {ops : Array Oper} {Q : Exit → Act → World → Prop} {pre : Nat → List Nat} {id : Nat} {w1 : World} (act : (Nat → Value) → Act) (f0 : Nat → Value) (hm : P.follows .mixedOrders = true) (hc : chkN pre ops = true) (ps : Leaves) (bs : List Blk) (hA : Apart ps bs)
    (hs : ∀ i, i < ops.size → Does P ops Q pre act ps bs w1 i) (hsz : (∀ c ∈ ps, c.1 < ops.size) ∧ ∀ b ∈ bs, b.a < ops.size ∧ b.s < ops.size)
    (hQ : ∀ f w, Bel w1 w → (∀ c ∈ ps, c.2.2 (f c.2.1)) → Filled bs w1 w f → Q .normal (act f) w) : (Code.region id ops true).wp P Q (act f0) w1 := by
  refine wp_region_set (pre := pre) hm hc (fun D a w => ∃ f, a = act f ∧ RegI ps bs w1 D f w) ⟨f0, rfl, (Bel.refl w1).drew, fun _ _ h => absurd h Bool.false_ne_true, fun _ _ h => absurd h Bool.false_ne_true, fun _ _ _ _ _ h => absurd h Bool.false_ne_true, fun _ _ h => absurd h Bool.false_ne_true⟩ ?_ ?_
  · rintro D a w i hi hD hp ⟨f, rfl, hI⟩
    cases hs i hi with
    | value t φ hmem h =>
      refine wpOp_mono ?_ (h f w hI.bel fun c hc hj => hI.gv c hc (hp _ hj))
      rintro a' w' ⟨v, rfl, hv, g⟩
      exact ⟨_, rfl, hI.value hA hmem hD hv g⟩
    | alloc b hb hi' ty h =>
      subst hi'
      exact h f w _ ⟨_, rfl, hI.alloc hA hb hD ty⟩
    | store b hb hi' ha hvo hφ h =>
      have h1 := hp _ ha
      have h2 := hp _ hvo
      subst hi'
      obtain ⟨φ, hz⟩ := hA.z b hb
      obtain ⟨u, v, hv⟩ := hφ φ hz _ (hI.gv _ hz h2)
      obtain ⟨X, α, β, r1, r2, r3, _⟩ := hI.bk b hb h1
      exact h f w _ X u v α β r1 hv r3 ⟨_, rfl, hI.store hA hb h1 h2 r1 r2 r3 hv⟩
  · rintro D a w hD ⟨f, rfl, hI⟩
    refine hQ f w hI.bel (fun c hc => hI.gv c hc (hD _ (hsz.1 c hc))) ⟨fun b hb => ?_, fun b hb b' hb' hne => hI.ne b hb b' hb' hne (hD _ (hsz.2 b hb).1) (hD _ (hsz.2 b' hb').1)⟩
    obtain ⟨X, α, β, r1, r2, r3, r4⟩ := hI.bk b hb (hD _ (hsz.2 b hb).1)
    exact ⟨X, α, β, r1, r2, r3, r4 (hD _ (hsz.2 b hb).2)⟩
end Go.Proofs.Ytpifkjmdcbieoaa

/- Merged texts: SplitW, Base, Ref3a, Long, PutF, Ref3b, Ref3c, TimesP. -/
import Derived.Test.YtfpneojhhkfhpaaM1
import Derived.WalkKit
import Derived.ProofKit
import Derived.OpenShut
import Derived.WalkLawsBesides
import Derived.Lib.Hide
import Derived.Below
import Derived.WalkSmall
import Derived.ChangeSame
import Derived.Test.YtfpneojhhkfhpaaProg
import Derived.Laws.FloatArith
import Derived.StillTailTactics
import Derived.BigQuiet
import Derived.Deep.QuietTactic
import Derived.Deep.CutBlock
import Derived.IntWalk
/- A float in two halves by its product with 2^27 + 1, in words; products of floats over their last places. No program is named here. -/
namespace Flt
open Ieee

/-- the last place of 1 -/
def uE : Nat := 1074
theorem two_uE : (2 : Int) ^ uE = 2 ^ 25 * 2 ^ 1049 := by
  show (2 : Int) ^ (25 + 1049) = _
  exact Int.pow_add _ _ _
theorem num_times : Num 4728779608772575232 (134217729 * 2 ^ uE) := by
  have h := num_of (x := 4728779608772575232) (by decide) (by decide)
  rw [v_mid (by decide) (by decide)] at h
  have e1 : ((4503599627370496 + 4728779608772575232 % 4503599627370496 : Nat) : Int) = 134217729 * 2 ^ 25 := by decide
  have e2 : 4728779608772575232 / 4503599627370496 - 1 = 1049 := by decide
  rw [e1, e2, Int.mul_assoc, ← two_uE] at h
  exact h
theorem topN : top = 2097 := rfl
theorem abs_lt_top {n : Int} {k : Nat} (h : n.natAbs ≤ 2 ^ k) (hk : k < 2097) : n.natAbs < 2 ^ top :=
  Nat.lt_of_le_of_lt h (two_lt' (by rw [topN]; exact hk))
theorem near_le2 {n z : Int} (h : Near n z) : z.natAbs ≤ 2 * n.natAbs := by
  have := h.le 0 fl_zero
  omega
/-- a difference of two numbers up to 2^k -/
theorem subx {x y : Nat} {a b : Int} {k : Nat} (hx : Num x a) (hy : Num y b) (ha : a.natAbs ≤ 2 ^ k) (hb : b.natAbs ≤ 2 ^ k) (hk : k + 1 < 2097) :
    ∃ r z, double.sub x y = some r ∧ Num r z ∧ Near (a - b) z ∧ z.natAbs ≤ 2 ^ (k + 2) := by
  have e : (2 : Nat) ^ (k + 1) = 2 * 2 ^ k := by rw [Nat.pow_succ, Nat.mul_comm]
  have e2 : (2 : Nat) ^ (k + 2) = 2 * (2 * 2 ^ k) := by rw [Nat.pow_succ, e, Nat.mul_comm]
  have h0 : (a - b).natAbs ≤ 2 ^ (k + 1) := by rw [e]; omega
  obtain ⟨r, z, h1, h2, h3⟩ := sub_num hx hy (abs_lt_top h0 hk)
  have := near_le2 h3
  exact ⟨r, z, h1, h2, h3, by omega⟩
theorem addx {x y : Nat} {a b : Int} {k : Nat} (hx : Num x a) (hy : Num y b) (ha : a.natAbs ≤ 2 ^ k) (hb : b.natAbs ≤ 2 ^ k) (hk : k + 1 < 2097) :
    ∃ r z, double.add x y = some r ∧ Num r z ∧ Near (a + b) z ∧ z.natAbs ≤ 2 ^ (k + 2) := by
  have e : (2 : Nat) ^ (k + 1) = 2 * 2 ^ k := by rw [Nat.pow_succ, Nat.mul_comm]
  have e2 : (2 : Nat) ^ (k + 2) = 2 * (2 * 2 ^ k) := by rw [Nat.pow_succ, e, Nat.mul_comm]
  have h0 : (a + b).natAbs ≤ 2 ^ (k + 1) := by rw [e]; omega
  obtain ⟨r, z, h1, h2, h3⟩ := add_num hx hy (abs_lt_top h0 hk)
  have := near_le2 h3
  exact ⟨r, z, h1, h2, h3, by omega⟩
/-- a product over the last places -/
theorem mulx {x y : Nat} {X Y : Int} {e f k : Nat} (hx : Num x (X * 2 ^ e)) (hy : Num y (Y * 2 ^ f)) (hX : X.natAbs ≤ 2 ^ 53) (hY : Y.natAbs ≤ 2 ^ 53) (he : 600 ≤ e) (hf : 600 ≤ f) (hk : e + f = k + uE) (hk2 : k ≤ 1980) :
    ∃ r z, double.mul x y = some r ∧ Num r z ∧ Near (X * Y * 2 ^ k) z ∧ z.natAbs ≤ 2 ^ (107 + k) := by
  have hprod : X * 2 ^ e * (Y * 2 ^ f) = X * Y * 2 ^ k * 2 ^ uE := by
    rw [Int.mul_assoc (X * Y), ← Int.pow_add, ← hk, Int.pow_add]; ac_rfl
  have hb : (X * Y * 2 ^ k).natAbs ≤ 2 ^ (106 + k) := by
    rw [shift_abs, Nat.pow_add]
    exact Nat.mul_le_mul_right _ (Nat.le_trans (mul_abs_le hX hY) (by decide))
  have low : ∀ {Z : Int} {g : Nat}, Z ≠ 0 → 600 ≤ g → 2 ^ (52 + (g - 52)) ≤ (Z * 2 ^ g).natAbs := by
    intro Z g hZ hg
    rw [shift_abs, show 52 + (g - 52) = g from by omega]
    have : 1 * 2 ^ g ≤ Z.natAbs * 2 ^ g := Nat.mul_le_mul_right _ (by omega)
    rw [Nat.one_mul] at this
    exact this
  obtain ⟨r, z, h1, h2, h3⟩ := mul_num hx hy (p := X * Y * 2 ^ k) hprod (abs_lt_top hb (by omega)) (by
    by_cases hX0 : X = 0
    · left; rw [hX0, Int.zero_mul]
    · by_cases hY0 : Y = 0
      · right; left; rw [hY0, Int.zero_mul]
      · exact Or.inr (Or.inr ⟨e - 52, f - 52, by omega, low hX0 he, low hY0 hf⟩))
  have h4 := near_le2 h3
  have e2 : (2 : Nat) ^ (107 + k) = 2 * 2 ^ (106 + k) := by rw [show 107 + k = 106 + k + 1 from by omega, Nat.pow_succ, Nat.mul_comm]
  exact ⟨r, z, h1, h2, h3, by omega⟩
theorem near_zero {z : Int} (h : Near 0 z) : z = 0 := h.self fl_zero
/-- a product with a 0 -/
theorem mul0 {x y : Nat} {a b : Int} (hx : Num x a) (hy : Num y b) (h : a = 0 ∨ b = 0) : ∃ r, double.mul x y = some r ∧ Num r 0 := by
  obtain ⟨r, z, h1, h2, h3⟩ := mul_num hx hy (p := 0) ((Int.mul_eq_zero.2 h).trans (Int.zero_mul _).symm) (by
    show 0 < 2 ^ top
    exact Nat.pow_pos (by decide)) (by rcases h with h | h; exact Or.inl h; exact Or.inr (Or.inl h))
  exact ⟨r, h1, near_zero h3 ▸ h2⟩

/-- Split's four operations -/
theorem split_words {x : Nat} {n : Int} {e : Nat} (hx : Num x n) (hd : (2 : Int) ^ e ∣ n) (hge : 2 ^ (52 + e) ≤ n.natAbs) (hlt : n.natAbs < 2 ^ (53 + e)) (he : 600 ≤ e) (he2 : e ≤ 1500) :
    ∃ c d h l H L, double.mul 4728779608772575232 x = some c ∧ double.sub c x = some d ∧ double.sub c d = some h ∧ double.sub x h = some l ∧ Num h H ∧ Num l L ∧ Halves n e H L := by
  have hT := num_times
  obtain ⟨N, hN⟩ := hd
  rw [Int.mul_comm] at hN
  have hN53 : N.natAbs ≤ 2 ^ 53 := by
    rw [hN, shift_abs, Nat.pow_add] at hlt
    exact Nat.le_of_lt (Nat.lt_of_mul_lt_mul_right hlt)
  have hle : n.natAbs ≤ 2 ^ (81 + e + 1) := Nat.le_trans (Nat.le_of_lt hlt) (two_le (by omega))
  obtain ⟨c, C, m1, m2, m3⟩ : ∃ c C, double.mul 4728779608772575232 x = some c ∧ Num c C ∧ Near (134217729 * n) C := by
    obtain ⟨r, z, h1, h2, h3, _⟩ := mulx (k := e) hT (hN ▸ hx) (by decide) hN53 (by decide) he (Nat.add_comm _ _) (by omega)
    refine ⟨r, z, h1, h2, ?_⟩
    rw [hN, ← Int.mul_assoc]; exact h3
  have hC : C.natAbs ≤ 2 ^ (81 + e + 1) := by
    have h1 := near_le2 m3
    have h2 : (134217729 * n).natAbs = 134217729 * n.natAbs := by rw [Int.natAbs_mul]; rfl
    have h3 : (2 : Nat) ^ (81 + e + 1) = 536870912 * 2 ^ (53 + e) := by
      rw [show 81 + e + 1 = 29 + (53 + e) from by omega, Nat.pow_add]
    omega
  obtain ⟨d, D, s1, s2, s3, s4⟩ := subx m2 hx hC hle (by omega)
  obtain ⟨h, H, t1, t2, t3, t4⟩ := subx m2 s2 (Nat.le_trans hC (two_le (by omega))) s4 (by omega)
  obtain ⟨l, L, u1, u2, u3, u4⟩ := subx hx t2 (Nat.le_trans hle (two_le (by omega))) t4 (by omega)
  exact ⟨c, d, h, l, H, L, m1, s1, t1, u1, t2, u2, split_halves ⟨N, by rw [Int.mul_comm]; exact hN⟩ hge hlt m3 s3 t3 u3⟩
theorem split_zero {x : Nat} (hx : Num x 0) : ∃ c d h l, double.mul 4728779608772575232 x = some c ∧ double.sub c x = some d ∧ double.sub c d = some h ∧ double.sub x h = some l ∧ Num h 0 ∧ Num l 0 := by
  obtain ⟨c, m1, m2⟩ := mul0 num_times hx (Or.inr rfl)
  have z0 : (0 : Int).natAbs ≤ 2 ^ 0 := by decide
  have key : ∀ {x y : Nat}, Num x 0 → Num y 0 → ∃ r, double.sub x y = some r ∧ Num r 0 := by
    intro x y h h'
    obtain ⟨r, z, h1, h2, h3, _⟩ := subx h h' z0 z0 (by decide)
    have hz : z = 0 := near_zero (by simpa using h3)
    exact ⟨r, h1, hz ▸ h2⟩
  obtain ⟨d, s1, s2⟩ := key m2 hx
  obtain ⟨h, t1, t2⟩ := key m2 s2
  obtain ⟨l, u1, u2⟩ := key hx t2
  exact ⟨c, d, h, l, m1, s1, t1, u1, t2, u2⟩
end Flt

/- What a call may do to the world, and a row's end; equal results. No program is named here. -/
namespace Go.Proofs.Ytfpneojhhkfhpaa
open Go.RowKit

theorem ret_i64 {a b : Int} (h : a = b) : Ending.returned (.int .i64 a) = .returned (.int .i64 b) := by rw [h]
theorem ret_u64 {a b : Int} (h : a = b) : Ending.returned (.int .u64 a) = .returned (.int .u64 b) := by rw [h]
theorem ret_bool {a b : Bool} (h : a = b) : Ending.returned (.bool a) = .returned (.bool b) := by rw [h]

theorem ret_u64u64 {a b c d : Int} (h : a = b) (k : c = d) : Ending.returned (.tuple #[.int .u64 a, .int .u64 c]) = .returned (.tuple #[.int .u64 b, .int .u64 d]) := by rw [h, k]
theorem ret_i64i64 {a b c d : Int} (h : a = b) (k : c = d) : Ending.returned (.tuple #[.int .i64 a, .int .i64 c]) = .returned (.tuple #[.int .i64 b, .int .i64 d]) := by rw [h, k]
theorem ret_i64b {a b : Int} {c d : Bool} (h : a = b) (k : c = d) : Ending.returned (.tuple #[.int .i64 a, .bool c]) = .returned (.tuple #[.int .i64 b, .bool d]) := by rw [h, k]

/-! what a call may do to the world: of what was there nothing turns -/
def Bel (w w' : World) : Prop := Below w.heap.size w w'
theorem Bel.refl (w : World) : Bel w w := Below.refl _ _
theorem Bel.trans {a b c : World} (h : Bel a b) (k : Bel b c) : Bel a c := Below.trans h (Below.mono k h.size)
theorem Bel.alloc {a w : World} (h : Bel a w) (o : Obj) : Bel a (w.alloc o) := Below.alloc h h.size o
theorem Bel.drew {a w : World} (h : Bel a w) : Bel a w.drew := Below.drew h
theorem Bel.drewN {a w : World} (h : Bel a w) (n : Nat) : Bel a (w.drewN n) := below_drewN h n
theorem Bel.setCell {a w : World} (h : Bel a w) {p : Addr} (hp : a.heap.size ≤ p.block) (u : Value) : Bel a (w.setCell p u) := Below.setCell h hp u
theorem Bel.grown {a w w' : World} {row : Option Nat} (h : Bel a w) (hg : w.grownBy w' row) (hr : ∀ k, row = some k → a.heap.size ≤ k) : Bel a w' := Below.grown h hg h.size hr
theorem Bel.cell {w w' : World} (h : Bel w w') {p : Addr} (hp : p.block < w.heap.size) : w'.cell? p = w.cell? p := Below.cell h hp
theorem Bel.frozen {w w' : World} (h : Bel w w') {p : Addr} (hp : p.block < w.heap.size) : w'.frozen? p = w.frozen? p := Below.frozen h hp

/-- nothing turns but the draws -/
def Dr (w w' : World) : Prop := ∃ m, w' = w.drewN m
theorem Dr.refl (w : World) : Dr w w := ⟨0, rfl⟩
theorem Dr.trans {a b c : World} (h : Dr a b) (k : Dr b c) : Dr a c := by
  obtain ⟨m, rfl⟩ := h
  obtain ⟨n, rfl⟩ := k
  exact ⟨m + n, by simp⟩
theorem Dr.drewN {a w : World} (h : Dr a w) (n : Nat) : Dr a (w.drewN n) := h.trans ⟨n, rfl⟩
theorem Dr.drew {a w : World} (h : Dr a w) : Dr a w.drew := h.trans ⟨1, rfl⟩
theorem Dr.bel {w w' : World} (h : Dr w w') : Bel w w' := by
  obtain ⟨m, rfl⟩ := h
  exact (Bel.refl _).drewN m

/-- an owned slice lies in a block of the call's own -/
theorem ownsRow_block {w : World} {base : Nat} {e : TypeId} {size : Nat} {v : Value} {n : Nat} {xs : List Value} (h : w.ownsRow base e size v n xs) : ∀ k, v.ownBlock = some k → base ≤ k := by
  intro k hk
  rcases h.2 with ⟨rfl, _⟩ | ⟨g, cap, cur, rfl, hg, _⟩
  · simp [Value.ownBlock] at hk
  · simp [Value.ownBlock] at hk; omega

section
open Go.ChangeShapes Go.WideShapes
variable {H : Type} {enc : TypeId × Value → H} {P : Program}
/-- the row's end, where of what was there nothing has turned -/
theorem post_of_bel {f : Func} {s : ChangeSpec} {apart fresh handsOn again : Bool} {W W' : World} {args : Array Value} {v : Value} {ds gs : List (DataW H)} {before pa pv : List MemPlace}
    (hW : DataW.Whole enc P f.params.toList s.vars apart W args.toList ds gs before)
    (hres : ∀ (b : Nat) (sp : Nat → Bool) (hd : Bool), DataW.TrodAll enc P W' b sp hd f.resultTypes.toList (v.resultList f.resultTypes.size) (s.fn H (ds ++ gs)).results [])
    (hargs : ∀ sp : Nat → Bool, (∀ p ∈ before, sp p.block = true) → DataW.TrodAll enc P W' 0 sp true f.params.toList args.toList (s.fn H (ds ++ gs)).args pa)
    (hvars : ∀ sp : Nat → Bool, (∀ p ∈ before, sp p.block = true) → DataW.TrodVars enc P W' sp s.vars (s.fn H (ds ++ gs)).vars pv)
    (hps : before = pa ++ pv) (hb : Bel W W')
    (hok : ∀ (j : Nat) (t : TypeId) (r : Value), f.resultTypes[j]? = some t → (v.resultList f.resultTypes.size)[j]? = some r → Value.okWide P W' .any 0 t r) :
    s.post enc P f apart fresh handsOn again W args v W' := by
  have hlt : ∀ p ∈ before, p.block < W.heap.size := fun p hp => hW.lt p hp
  have hold : ∀ p ∈ before, (fun b => decide (b < W.heap.size)) p.block = true := fun p hp => by simpa using hlt p hp
  refine ⟨ds, gs, before, [], pa, pv, hW, hres _ _ _, hargs _ hold, hvars _ hold, World.keptBut_mono (fun p hp => ⟨hp, ?_⟩) (Below.frame hb (· ∈ before)), fun _ => ?_⟩
  · rw [hps, List.mem_append] at hp
    exact Or.inr hp
  · obtain ⟨_, _, _, _, _, hz, hn⟩ := hW
    refine ⟨hok, _, _, ([] ++ pa) ++ pv, ⟨[] ++ pa, pv, trodAll_append (hargs _ (fun _ _ => rfl)) (hres _ _ _), hvars _ (fun _ _ => rfl), rfl, ?_, ?_⟩, ?_⟩
    · intro b off hp
      have hin : MemPlace.cell b off ∈ before := by rw [hps]; simpa using hp
      rw [Below.frozen hb (hlt _ hin)]
      exact hz b off hin
    · intro ha
      have := hn ha
      rw [hps] at this
      simpa using this
    · intro p hp _
      rw [hps]
      simpa using hp
end

end Go.Proofs.Ytfpneojhhkfhpaa

/- The reference's Finite and Parts (layer 3). -/
namespace Go.Proofs.Ytfpneojhhkfhpaa
open Go.RowKit

theorem run_bits (x : Nat) (w : World) : (callFunc 37 #[.float .f64 x]).run Try.prog w = .ok (.value (.int .u64 (x : Int))) w := by kernel_rfl
theorem run_frombits (x : Int) (w : World) : (callFunc 25 #[.int .u64 x]).run Try.prog w = .ok (.value (.float .f64 x.toNat)) w := by kernel_rfl

theorem finite_any (x : Nat) (w : World) :
    Calls Try.prog 27 #[.float .f64 x] w fun e w' => e = .returned (.bool (decide (x % 9223372036854775808 < 9218868437227405312))) ∧ w = w' := by
  have hr := run_bits x w
  have hB := Lib.hid (show decide (x % 9223372036854775808 < 9218868437227405312) = (IntKind.u64.wrap ((x : Int) * 2) / 9007199254740992 != 2047) from by
    rw [IntKind.wrap_u64]
    by_cases h : x % 9223372036854775808 < 9218868437227405312
    · rw [decide_eq_true h]; symm; rw [bne_iff_ne]; omega
    · rw [decide_eq_false h]; symm; rw [bne_eq_false_iff_eq]; omega)
  go_enter Try.func27, Try.ntmps27
  go_wp2
  go_ret
  exact ⟨ret_bool hB.out.symm, rfl⟩

/-- the whole number and the place of a finite float -/
def pE (x : Nat) : Int := if 0 < x % 9223372036854775808 / 4503599627370496 then ((x % 9223372036854775808 / 4503599627370496 : Nat) : Int) - 1075 else -1074
def pA (x : Nat) : Nat := x % 4503599627370496 + if 0 < x % 9223372036854775808 / 4503599627370496 then 4503599627370496 else 0
def pM (x : Nat) : Int := if x / 9223372036854775808 = 1 then -(pA x : Int) else (pA x : Int)
theorem pA_lt (x : Nat) : pA x < 9007199254740992 := by unfold pA; split <;> omega
theorem pM_abs (x : Nat) : (pM x).natAbs = pA x := by unfold pM; split <;> omega
theorem pE_ge (x : Nat) : -1074 ≤ pE x := by unfold pE; split <;> omega
theorem pE_le {x : Nat} (h : x % 9223372036854775808 < 9218868437227405312) : pE x ≤ 971 := by unfold pE; split <;> omega
theorem pE_pos {x : Nat} (h : 0 < x % 9223372036854775808 / 4503599627370496) : pE x = ((x % 9223372036854775808 / 4503599627370496 : Nat) : Int) - 1075 ∧ pA x = x % 4503599627370496 + 4503599627370496 := ⟨if_pos h, by unfold pA; rw [if_pos h]⟩
theorem pE_zero {x : Nat} (h : ¬ 0 < x % 9223372036854775808 / 4503599627370496) : pE x = -1074 ∧ pA x = x % 4503599627370496 := ⟨if_neg h, by unfold pA; rw [if_neg h]; rfl⟩
theorem pM_neg {x : Nat} (h : x / 9223372036854775808 = 1) : pM x = -(pA x : Int) := if_pos h
theorem pM_pos {x : Nat} (h : ¬ x / 9223372036854775808 = 1) : pM x = (pA x : Int) := if_neg h
theorem num_parts {x : Nat} {n : Int} (h : Flt.Num x n) : n = pM x * 2 ^ (pE x + 1074).toNat := by
  have hlt := h.lt
  have hfin := h.fin
  rw [← h.val]
  unfold Flt.vI
  have h64 : (2 : Nat) ^ 64 = 18446744073709551616 := rfl
  have key : ∀ (s : Bool) (m : Nat) (i : Int), s = (x / 9223372036854775808 % 2 == 1) → m = pA x → (i + 1074).toNat = (pE x + 1074).toNat → Flt.sval s m i = pM x * 2 ^ (pE x + 1074).toNat := by
    intro s m i hs hm hi
    unfold Flt.sval
    rw [Flt.signed_eq, hi, hm, hs]
    by_cases h2 : x / 9223372036854775808 = 1
    · rw [pM_neg h2, h2, Int.neg_mul]; rfl
    · have h3 : x / 9223372036854775808 = 0 := by omega
      rw [pM_pos h2, h3]; rfl
  by_cases h1 : x % 9223372036854775808 < 4503599627370496
  · obtain ⟨e1, e2⟩ := pE_zero (x := x) (by omega)
    rw [Flt.read_small h1]
    exact key _ _ _ rfl (by omega) (by omega)
  · obtain ⟨e1, e2⟩ := pE_pos (x := x) (by omega)
    rw [Flt.read_mid h1 hfin]
    exact key _ _ _ rfl (by omega) (by omega)

theorem ret_parts {a b c d : Int} (h : a = b) (k : c = d) : Ending.returned (.tuple #[.int .i64 a, .int .i64 c]) = .returned (.tuple #[.int .i64 b, .int .i64 d]) := by rw [h, k]

theorem parts_any (x : Nat) (w : World) :
    Calls Try.prog 29 #[.float .f64 x] w fun e w' => e = .returned (.tuple #[.int .i64 (pM x), .int .i64 (pE x)]) ∧ w = w' := by
  have hr := run_bits x w
  have h64 : (2 : Nat) ^ 64 = 18446744073709551616 := rfl
  obtain ⟨E, hE⟩ : ∃ E : Int, E = ((x % 9223372036854775808 / 4503599627370496 : Nat) : Int) := ⟨_, rfl⟩
  obtain ⟨F, hF⟩ : ∃ F : Int, F = ((x % 4503599627370496 : Nat) : Int) := ⟨_, rfl⟩
  have eE : wrap64 (IntKind.u64.wrap ((x : Int) * 2) / 9007199254740992) = E := by rw [IntKind.wrap_u64]; unfold wrap64; omega
  have eF : wrap64 (IntKind.u64.wrap ((x : Int) * 4096) / 4096) = F := by rw [IntKind.wrap_u64]; unfold wrap64; omega
  have E0 : 0 ≤ E := by omega
  have E1 : E ≤ 2047 := by omega
  have F0 : 0 ≤ F := by omega
  have F1 : F < 4503599627370496 := by omega
  by_cases h1 : 0 < E
  · obtain ⟨p1, p2⟩ := pE_pos (x := x) (by omega)
    by_cases h2 : x / 9223372036854775808 = 1
    · have t2 : ((x : Int) / 9223372036854775808 == 1) = true := by rw [beq_iff_eq]; omega
      have R1 := Lib.hid (show -(F + 4503599627370496) = pM x by rw [pM_neg h2]; omega)
      have R2 := Lib.hid (show E - 1075 = pE x by omega)
      clear hE hF p1 p2 h2 h64
      go_enter Try.func29, Try.ntmps29
      go_wp2
      go_ret2
      exact ⟨ret_parts R1.out R2.out, rfl⟩
    · have t2 : ((x : Int) / 9223372036854775808 == 1) = false := by rw [beq_eq_false_iff_ne]; omega
      have R1 := Lib.hid (show F + 4503599627370496 = pM x by rw [pM_pos h2]; omega)
      have R2 := Lib.hid (show E - 1075 = pE x by omega)
      clear hE hF p1 p2 h2 h64
      go_enter Try.func29, Try.ntmps29
      go_wp2
      go_ret2
      exact ⟨ret_parts R1.out R2.out, rfl⟩
  · obtain ⟨p1, p2⟩ := pE_zero (x := x) (by omega)
    by_cases h2 : x / 9223372036854775808 = 1
    · have t2 : ((x : Int) / 9223372036854775808 == 1) = true := by rw [beq_iff_eq]; omega
      have R1 := Lib.hid (show -F = pM x by rw [pM_neg h2]; omega)
      have R2 := Lib.hid (show (-1074 : Int) = pE x by omega)
      clear hE hF p1 p2 h2 h64
      go_enter Try.func29, Try.ntmps29
      go_wp2
      go_ret2
      exact ⟨ret_parts R1.out R2.out, rfl⟩
    · have t2 : ((x : Int) / 9223372036854775808 == 1) = false := by rw [beq_eq_false_iff_ne]; omega
      have R1 := Lib.hid (show F = pM x by rw [pM_pos h2]; omega)
      have R2 := Lib.hid (show (-1074 : Int) = pE x by omega)
      clear hE hF p1 p2 h2 h64
      go_enter Try.func29, Try.ntmps29
      go_wp2
      go_ret2
      exact ⟨ret_parts R1.out R2.out, rfl⟩
end Go.Proofs.Ytfpneojhhkfhpaa

/- Long numbers as the reference of layer 3 has them: 110 limbs of 30 bits in memory. No program is named here. -/
namespace Go.Proofs.Ytfpneojhhkfhpaa
open Go.RowKit

/-- of what was there nothing turns but the cells of block g -/
structure Touch (g : Nat) (w w' : World) : Prop where
  below : Below g w w'
  only : ∀ k, k < w.heap.size → k ≠ g → w'.heap[k]? = w.heap[k]?
theorem Touch.refl (g : Nat) (w : World) : Touch g w w := ⟨Below.refl _ _, fun _ _ _ => rfl⟩
theorem Touch.trans {g : Nat} {a b c : World} (h : Touch g a b) (k : Touch g b c) : Touch g a c :=
  ⟨h.below.trans k.below, fun i hi hg => (k.only i (Nat.lt_of_lt_of_le hi h.below.size) hg).trans (h.only i hi hg)⟩
theorem Touch.drew {g : Nat} {a w : World} (h : Touch g a w) : Touch g a w.drew := ⟨h.below.drew, h.only⟩
theorem Touch.setCell {g : Nat} {a w : World} (h : Touch g a w) {p : Addr} (hp : p.block = g) (u : Value) : Touch g a (w.setCell p u) :=
  ⟨h.below.setCell (Nat.le_of_eq hp.symm) u, fun k hk hg => (Below.heap_setCell w p u k (by rw [hp]; exact hg)).trans (h.only k hk hg)⟩
theorem Touch.alloc {g : Nat} {a w : World} (h : Touch g a w) (hg : g < w.heap.size) (o : Obj) : Touch g a (w.alloc o) :=
  ⟨h.below.alloc (Nat.le_of_lt hg) o, fun k hk hk2 => (Below.heap_alloc w o k (Nat.lt_of_lt_of_le hk h.below.size)).trans (h.only k hk hk2)⟩
theorem Touch.cell {g : Nat} {w w' : World} (h : Touch g w w') {p : Addr} (hp : p.block < w.heap.size) (hg : p.block ≠ g) : w'.cell? p = w.cell? p := World.cell?_of_block (w := w) (h.only p.block hp hg)
theorem Touch.frozen {g : Nat} {w w' : World} (h : Touch g w w') {p : Addr} (hp : p.block < w.heap.size) (hg : p.block ≠ g) : w'.frozen? p = w.frozen? p := World.frozen?_of_block (w := w) (h.only p.block hp hg)
theorem Bel.touch {g : Nat} {w w' : World} (h : Bel w w') (hg : g ≤ w.heap.size) : Touch g w w' := ⟨Below.mono h hg, fun k hk _ => h.block k hk⟩
def LongAt (w : World) (g : Nat) (f : Nat → Int) : Prop := ∀ i, i < 110 → w.cell? ⟨g, i, none⟩ = some (.int .i64 (f i)) ∧ w.frozen? ⟨g, i, none⟩ = false
def lsum (f : Nat → Int) : Nat → Int
  | 0 => 0
  | n + 1 => lsum f n + f n * 2 ^ (30 * n)
def upd (f : Nat → Int) (k : Nat) (v : Int) : Nat → Int := fun i => if i = k then v else f i
theorem upd_same (f : Nat → Int) (k : Nat) (v : Int) : upd f k v k = v := if_pos rfl
theorem upd_other (f : Nat → Int) {k i : Nat} (v : Int) (h : i ≠ k) : upd f k v i = f i := if_neg h
theorem lsum_congr {f h : Nat → Int} : ∀ n, (∀ i, i < n → f i = h i) → lsum f n = lsum h n
  | 0, _ => rfl
  | n + 1, e => by
    show lsum f n + f n * _ = lsum h n + h n * _
    rw [lsum_congr n fun i hi => e i (by omega), e n (by omega)]
theorem lsum_upd (f : Nat → Int) (k : Nat) (d : Int) : ∀ n, k < n → lsum (upd f k (f k + d)) n = lsum f n + d * 2 ^ (30 * k)
  | n + 1, h => by
    show lsum (upd f k (f k + d)) n + upd f k (f k + d) n * _ = lsum f n + f n * _ + _
    by_cases c : k = n
    · subst c
      rw [upd_same, lsum_congr (h := f) k fun i hi => upd_other f _ (by omega), Int.add_mul]; omega
    · rw [upd_other f _ (by omega), lsum_upd f k d n (by omega)]; omega
theorem LongAt.put {w : World} {g : Nat} {f : Nat → Int} (h : LongAt w g f) {k : Nat} (hk : k < 110) (v : Int) : LongAt (w.setCell ⟨g, k, none⟩ (.int .i64 v)) g (upd f k v) := by
  intro i hi
  refine ⟨?_, by rw [World.frozen?_setCell]; exact (h i hi).2⟩
  by_cases c : i = k
  · subst c
    rw [upd_same]
    exact World.cell?_setCell_same' w _ _ (by rw [(h i hi).1]; rfl)
  · rw [upd_other f v c, World.cell?_setCell_other]
    · exact (h i hi).1
    · intro e
      cases e
      exact c rfl
/-- the value, in units of 2^-1200 -/
noncomputable def lval (f : Nat → Int) : Int := Classical.choose (⟨lsum f 110, rfl⟩ : ∃ v, v = lsum f 110)
theorem lval_eq (f : Nat → Int) : lval f = lsum f 110 := Classical.choose_spec (⟨lsum f 110, rfl⟩ : ∃ v, v = lsum f 110)
theorem lval_upd (f : Nat → Int) {k : Nat} (h : k < 110) (d : Int) : lval (upd f k (f k + d)) = lval f + d * 2 ^ (30 * k) := by
  rw [lval_eq, lval_eq]; exact lsum_upd f k d 110 h

theorem pw (j : Nat) : ((2 ^ j : Nat) : Int) = (2 : Int) ^ j := by rw [Int.natCast_pow]; rfl
theorem sg_abs (neg : Bool) (X : Nat) : ((if neg then -1 else 1) * (X : Int)).natAbs = X := by
  cases neg
  · show (1 * (X : Int)).natAbs = X
    omega
  · show (-1 * (X : Int)).natAbs = X
    omega
/-- the state of Put's loop -/
structure PutInv (m : Nat) (neg : Bool) (at' : Nat) (f0 f : Nat → Int) (i u : Nat) : Prop where
  u : u = m / 2 ^ (30 * i)
  val : lval f = lval f0 + (if neg then -1 else 1) * ((m % 2 ^ (30 * i) : Nat) : Int) * 2 ^ at'
  le : ∀ j, (f j - f0 j).natAbs ≤ i * 1073741824
theorem PutInv.start (m : Nat) (neg : Bool) (at' : Nat) (f : Nat → Int) : PutInv m neg at' f f 0 m :=
  ⟨by simp, by simp [Nat.mod_one], fun j => by simp⟩
/-- one round: a piece of 30 bits, moved, in two limbs -/
theorem PutInv.next {m : Nat} {neg : Bool} {at' : Nat} {f0 f : Nat → Int} {i u k s : Nat} (h : PutInv m neg at' f0 f i u) (hat : at' = 30 * k + s) (hs : s < 30) (hk : k + i + 1 < 110) {low high : Int}
    (hl : low = (if neg then -1 else 1) * ((u % 1073741824 * 2 ^ s % 1073741824 : Nat) : Int)) (hh : high = (if neg then -1 else 1) * ((u % 1073741824 * 2 ^ s / 1073741824 : Nat) : Int)) :
    PutInv m neg at' f0 (upd (upd f (k + i) (f (k + i) + low)) (k + i + 1) (upd f (k + i) (f (k + i) + low) (k + i + 1) + high)) (i + 1) (u / 1073741824) := by
  have p30 : (2 : Nat) ^ 30 = 1073741824 := rfl
  have hq : u % 1073741824 * 2 ^ s < 1073741824 * 1073741824 := by
    have h1 : u % 1073741824 < 1073741824 := Nat.mod_lt _ (by decide)
    have h2 : 2 ^ s ≤ 2 ^ 30 := Nat.pow_le_pow_right (by decide) (by omega)
    calc u % 1073741824 * 2 ^ s ≤ u % 1073741824 * 2 ^ 30 := Nat.mul_le_mul_left _ h2
      _ < 1073741824 * 1073741824 := by rw [p30]; exact Nat.mul_lt_mul_of_pos_right h1 (by decide)
  refine ⟨?_, ?_, ?_⟩
  · rw [h.u, Nat.div_div_eq_div_mul, show 30 * (i + 1) = 30 * i + 30 from by omega, Nat.pow_add]
  · rw [lval_upd _ (by omega), lval_upd f (by omega), h.val, hl, hh]
    have e1 : m % 2 ^ (30 * (i + 1)) = m % 2 ^ (30 * i) + (u % 1073741824) * 2 ^ (30 * i) := by
      rw [show 30 * (i + 1) = 30 * i + 30 from by omega, Nat.pow_add, Nat.mod_mul, h.u]
      exact congrArg (m % 2 ^ (30 * i) + ·) (Nat.mul_comm _ _)
    have e2 : u % 1073741824 * 2 ^ s = u % 1073741824 * 2 ^ s % 1073741824 + 1073741824 * (u % 1073741824 * 2 ^ s / 1073741824) := (Nat.mod_add_div _ _).symm
    obtain ⟨q, hq⟩ : ∃ q, q = u % 1073741824 * 2 ^ s := ⟨_, rfl⟩
    obtain ⟨sg, hsg⟩ : ∃ sg : Int, sg = (if neg then -1 else 1) := ⟨_, rfl⟩
    rw [← hsg, ← hq, e1]
    rw [← hq] at e2
    have e3 : ((q % 1073741824 : Nat) : Int) * 2 ^ (30 * (k + i)) + ((q / 1073741824 : Nat) : Int) * 2 ^ (30 * (k + i + 1)) = (q : Int) * 2 ^ (30 * (k + i)) := by
      rw [show 30 * (k + i + 1) = 30 * (k + i) + 30 from by omega, Int.pow_add]
      have : (q : Int) = ((q % 1073741824 : Nat) : Int) + 1073741824 * ((q / 1073741824 : Nat) : Int) := by omega
      obtain ⟨A, hA⟩ : ∃ A, A = ((q % 1073741824 : Nat) : Int) := ⟨_, rfl⟩
      obtain ⟨B, hB⟩ : ∃ B, B = ((q / 1073741824 : Nat) : Int) := ⟨_, rfl⟩
      rw [← hA, ← hB] at this ⊢
      rw [this, Int.add_mul]
      have e30 : (2 : Int) ^ 30 = 1073741824 := rfl
      rw [e30]
      have h5 : B * (2 ^ (30 * (k + i)) * 1073741824) = 1073741824 * B * 2 ^ (30 * (k + i)) := by ac_rfl
      rw [h5]
    have e4 : (q : Int) * 2 ^ (30 * (k + i)) = ((u % 1073741824 * 2 ^ (30 * i) : Nat) : Int) * 2 ^ at' := by
      rw [hq, hat, Int.natCast_mul, Int.natCast_mul, pw, pw, show 30 * (k + i) = 30 * k + 30 * i from by omega, Int.pow_add, Int.pow_add]
      ac_rfl
    obtain ⟨T, hT⟩ : ∃ T : Int, T = ((u % 1073741824 * 2 ^ (30 * i) : Nat) : Int) := ⟨_, rfl⟩
    rw [← hT] at e4
    rw [Int.natCast_add, ← hT, Int.mul_add, Int.add_mul, Int.mul_assoc sg T, ← e4, ← e3]
    have h7 : sg * ((q % 1073741824 : Nat) : Int) * 2 ^ (30 * (k + i)) + sg * ((q / 1073741824 : Nat) : Int) * 2 ^ (30 * (k + i + 1)) =
        sg * (((q % 1073741824 : Nat) : Int) * 2 ^ (30 * (k + i)) + ((q / 1073741824 : Nat) : Int) * 2 ^ (30 * (k + i + 1))) := by
      rw [Int.mul_add, Int.mul_assoc, Int.mul_assoc]
    omega
  · intro j
    have hj := h.le j
    have b1 : u % 1073741824 * 2 ^ s % 1073741824 < 1073741824 := Nat.mod_lt _ (by decide)
    have b2 : u % 1073741824 * 2 ^ s / 1073741824 < 1073741824 := by
      refine (Nat.div_lt_iff_lt_mul (by decide)).2 hq
    have l1 : low.natAbs < 1073741824 := by rw [hl, sg_abs]; exact b1
    have l2 : high.natAbs < 1073741824 := by rw [hh, sg_abs]; exact b2
    clear hl hh hq b1 b2 hat h p30
    rw [show (i + 1) * 1073741824 = i * 1073741824 + 1073741824 from by rw [Nat.add_mul, Nat.one_mul]]
    obtain ⟨X, hX⟩ : ∃ X, X = i * 1073741824 := ⟨_, rfl⟩
    rw [← hX] at hj ⊢
    clear hX
    unfold upd
    by_cases c1 : j = k + i + 1
    · rw [if_pos c1, if_neg (by omega : ¬ k + i + 1 = k + i)]
      subst c1
      omega
    · rw [if_neg c1]
      by_cases c2 : j = k + i
      · rw [if_pos c2]
        subst c2
        omega
      · rw [if_neg c2]; omega
/-- one round, the sign given -/
theorem PutInv.next_t {m : Nat} {at' : Nat} {f0 f : Nat → Int} {i u k s : Nat} (h : PutInv m true at' f0 f i u) (hat : at' = 30 * k + s) (hs : s < 30) (hk : k + i + 1 < 110) :
    PutInv m true at' f0 (upd (upd f (k + i) (f (k + i) + -((u % 1073741824 * 2 ^ s % 1073741824 : Nat) : Int))) (k + i + 1) (upd f (k + i) (f (k + i) + -((u % 1073741824 * 2 ^ s % 1073741824 : Nat) : Int)) (k + i + 1) + -((u % 1073741824 * 2 ^ s / 1073741824 : Nat) : Int))) (i + 1) (u / 1073741824) :=
  h.next hat hs hk (by rw [if_pos rfl, Int.neg_mul, Int.one_mul]) (by rw [if_pos rfl, Int.neg_mul, Int.one_mul])
theorem PutInv.next_f {m : Nat} {at' : Nat} {f0 f : Nat → Int} {i u k s : Nat} (h : PutInv m false at' f0 f i u) (hat : at' = 30 * k + s) (hs : s < 30) (hk : k + i + 1 < 110) :
    PutInv m false at' f0 (upd (upd f (k + i) (f (k + i) + ((u % 1073741824 * 2 ^ s % 1073741824 : Nat) : Int))) (k + i + 1) (upd f (k + i) (f (k + i) + ((u % 1073741824 * 2 ^ s % 1073741824 : Nat) : Int)) (k + i + 1) + ((u % 1073741824 * 2 ^ s / 1073741824 : Nat) : Int))) (i + 1) (u / 1073741824) :=
  h.next hat hs hk (by rw [if_neg (by decide), Int.one_mul]) (by rw [if_neg (by decide), Int.one_mul])
end Go.Proofs.Ytfpneojhhkfhpaa

namespace Go.Proofs.Ytfpneojhhkfhpaa
open Go.RowKit
theorem bits_30 (x : Int) (h0 : 0 ≤ x) (h1 : x ≤ 18446744073709551615) : bits .and .u64 x 1073741823 = x % 1073741824 := by
  obtain ⟨n, rfl⟩ := Int.eq_ofNat_of_zero_le h0
  have h2 : (BitVec.ofInt 64 (n : Int)).toNat = n := by
    rw [BitVec.ofInt_natCast, BitVec.toNat_ofNat]; exact Nat.mod_eq_of_lt (by omega)
  show IntKind.u64.wrap ((BitVec.ofInt 64 (n : Int) &&& BitVec.ofInt 64 1073741823).toNat : Int) = _
  rw [BitVec.toNat_and, h2]
  have h3 : (BitVec.ofInt 64 1073741823).toNat = 2 ^ 30 - 1 := by decide
  rw [h3, Nat.and_two_pow_sub_one_eq_mod, IntKind.wrap_u64]
  omega
theorem bits_30n (x : Nat) (h1 : x ≤ 18446744073709551615) : bits .and .u64 (x : Int) 1073741823 = ((x % 1073741824 : Nat) : Int) := by
  rw [bits_30 _ (by omega) (by omega)]; omega
theorem shl_small {P s : Nat} (hP : P < 1073741824) (hs : s < 30) : P * 2 ^ s < 1152921504606846976 ∧ IntKind.u64.wrap ((P : Int) * 2 ^ s) = ((P * 2 ^ s : Nat) : Int) := by
  have h1 : 2 ^ s ≤ 2 ^ 30 := Nat.pow_le_pow_right (by decide) (by omega)
  have h2 : P * 2 ^ s ≤ P * 2 ^ 30 := Nat.mul_le_mul_left _ h1
  have h3 : P * 2 ^ 30 < 1073741824 * 2 ^ 30 := Nat.mul_lt_mul_of_pos_right hP (by decide)
  have h4 : (1073741824 * 2 ^ 30 : Nat) = 1152921504606846976 := by decide
  have h5 : P * 2 ^ s < 1152921504606846976 := by rw [← h4]; exact Nat.lt_of_le_of_lt h2 h3
  refine ⟨h5, ?_⟩
  have : (P : Int) * 2 ^ s = ((P * 2 ^ s : Nat) : Int) := by rw [Int.natCast_mul, pw]
  rw [this]
  generalize P * 2 ^ s = Q at h5
  rw [IntKind.wrap_u64]; omega
theorem wrap64_nat {L : Nat} (h : L < 1073741824) : wrap64 (L : Int) = (L : Int) ∧ wrap64 (-(L : Int)) = -(L : Int) := by unfold wrap64; omega
theorem fold {Q : Nat} (hQ : Q < 1152921504606846976) : ∃ a b : Int, bits .and .u64 (Q : Int) 1073741823 = a ∧ (Q : Int) / 1073741824 = b ∧ a = ((Q % 1073741824 : Nat) : Int) ∧ b = ((Q / 1073741824 : Nat) : Int) ∧ 0 ≤ a ∧ a < 1073741824 ∧ 0 ≤ b ∧ b < 1073741824 := by
  refine ⟨((Q % 1073741824 : Nat) : Int), ((Q / 1073741824 : Nat) : Int), bits_30n Q (by omega), ?_, rfl, rfl, ?_, ?_, ?_, ?_⟩
  all_goals omega
theorem limb_bound {x f : Int} {i : Nat} (hi : i ≤ 3) (h : (x - f).natAbs ≤ i * 1073741824) (hf : f.natAbs ≤ 1152921504606846976) : -1152921507828072449 < x ∧ x < 1152921507828072449 := by
  have h1 := Nat.le_trans h (Nat.mul_le_mul_right 1073741824 hi)
  have h2 : 3 * 1073741824 = 3221225472 := rfl
  rw [h2] at h1
  omega
theorem wrap_sum {v a : Int} (hv : -1152921507828072449 < v ∧ v < 1152921507828072449) (ha : -1073741825 < a ∧ a < 1073741825) : IntKind.i64.wrap (v + a) = v + a := by
  rw [IntKind.wrap_i64]; omega
theorem wrap_idx {k i J : Nat} (h : J = k + i) (hJ : J < 110) : IntKind.i64.wrap ((k : Int) + (i : Int)) = (J : Int) ∧ IntKind.i64.wrap ((J : Int) + 1) = (J : Int) + 1 := by
  rw [IntKind.wrap_i64, IntKind.wrap_i64]; omega
end Go.Proofs.Ytfpneojhhkfhpaa

/- The reference's Put and Add (layer 3): a number is added to a long one. -/
namespace Go.Proofs.Ytfpneojhhkfhpaa
open Go.RowKit

set_option maxHeartbeats 2000000 in
theorem put_any (g : Nat) (f : Nat → Int) (m e : Int) (w : World) (hf : LongAt w g f) (hm : m.natAbs < 1237940039285380274899124224) (hm2 : m.natAbs < 4611686018427387904) (he0 : -1150 ≤ e) (he1 : e ≤ 1900) (hb : ∀ i, (f i).natAbs ≤ 1152921504606846976) :
    Calls Try.prog 30 #[.pointer (some ⟨g, 0, none⟩), .int .i64 m, .int .i64 e] w fun r w' => r = .returned (.tuple #[]) ∧ ∃ f', LongAt w' g f' ∧ lval f' = lval f + m * 2 ^ (e + 1200).toNat ∧ (∀ j, (f' j - f j).natAbs ≤ 3221225472) ∧ Touch g w w' := by
  by_cases h0 : m = 0
  · subst h0
    go_enter Try.func30, Try.ntmps30
    go_wp2
    refine bodyPost_ret (results_none rfl _ _ _) rfl ?_
    exact ⟨rfl, f, hf, by simp, fun j => by simp, Touch.refl _ _⟩
  · obtain ⟨A, hA⟩ : ∃ A : Nat, e + 1200 = (A : Int) := ⟨(e + 1200).toNat, by omega⟩
    obtain ⟨k, hk⟩ : ∃ k : Nat, k = A / 30 := ⟨_, rfl⟩
    obtain ⟨s, hs⟩ : ∃ s : Nat, s = A % 30 := ⟨_, rfl⟩
    have eK : (A : Int) / 30 = (k : Int) := by omega
    have eS : (A : Int) % 30 = (s : Int) := by omega
    have hat := Lib.hid (show A = 30 * k + s by omega)
    have hs30 : s < 30 := by omega
    have hk105 : k < 105 := by omega
    obtain ⟨M, hM⟩ : ∃ M : Nat, M = m.natAbs := ⟨_, rfl⟩
    have t0 : (m == 0) = false := by rw [beq_eq_false_iff_ne]; exact h0
    clear hk hs
    by_cases hn : m < 0
    · have eU : IntKind.u64.wrap (-IntKind.u64.wrap m) = (M : Int) := by rw [IntKind.wrap_u64, IntKind.wrap_u64]; omega
      have hfin := Lib.hid (show m = -1 * (M : Int) by omega)
      have hS := PutInv.start M true A f
      have M62 : M < 4611686018427387904 := by omega
      clear hM hm hm2
      go_enter Try.func30, Try.ntmps30
      go_wp2
      rw [eS]
      go_loopw [10, 11] (fun x y wr => ∃ (f' : Nat → Int) (i u : Nat), PutInv M true A f f' i u ∧ i ≤ 3 ∧ u < 4611686018427387904 ∧ x = .int .u64 (u : Int) ∧ y = .int .i64 (i : Int) ∧ LongAt wr g f' ∧ Touch g w wr) (fun _ y _ => (3 - intOf y).toNat)
      case atStart => exact ⟨f, 0, M, hS, by omega, M62, rfl, rfl, hf, Touch.refl _ _⟩
      case round =>
        obtain ⟨f', i, u, hI, hi3, hu, rfl, rfl, hL, hB⟩ := hrel
        by_cases hi : i < 3
        · obtain ⟨P, hP⟩ : ∃ P : Nat, P = u % 1073741824 := ⟨_, rfl⟩
          have hN := hI.next_t hat.out hs30 (by omega)
          have hle := hI.le
          have eP : bits .and .u64 (u : Int) 1073741823 = (P : Int) := by rw [bits_30n u (by omega), hP]
          have hP1 : P < 1073741824 := by rw [hP]; exact Nat.mod_lt _ (by decide)
          obtain ⟨hQ1, eQ⟩ := shl_small hP1 hs30
          rw [← hP] at hN
          clear hP hI
          generalize P * 2 ^ s = Q at hN hQ1 eQ
          obtain ⟨a, b, eA, eB, ha, hb', a0, a1, b0, b1⟩ := fold hQ1
          rw [← ha, ← hb'] at hN
          clear ha hb'
          have hN := Lib.hid hN
          obtain ⟨J, hJ⟩ : ∃ J : Nat, J = k + i := ⟨_, rfl⟩
          have J109 : J < 109 := by omega
          obtain ⟨y0, y2⟩ := wrap_idx hJ (by omega)
          obtain ⟨c1, z1⟩ := hL J (by omega)
          obtain ⟨v, hv⟩ : ∃ v : Int, v = f' J := ⟨_, rfl⟩
          obtain ⟨v2, hv2⟩ : ∃ v2 : Int, v2 = f' (J + 1) := ⟨_, rfl⟩
          have bv := limb_bound hi3 (hle J) (hb J)
          have bv2 := limb_bound hi3 (hle (J + 1)) (hb (J + 1))
          rw [← hv] at c1 bv
          rw [← hv2] at bv2
          have y1 : IntKind.i64.wrap (v + -a) = v + -a := wrap_sum bv (by omega)
          have y3 : IntKind.i64.wrap (v2 + -b) = v2 + -b := wrap_sum bv2 (by omega)
          have J0 : (0 : Int) ≤ (J : Int) := by omega
          have J1 : (J : Int) < 110 := by omega
          have J2 : (J : Int) + 1 < 110 := by omega
          have J3 : (0 : Int) ≤ (J : Int) + 1 := by omega
          have J4 : ((J : Int) + 1).toNat = J + 1 := by omega
          have hfin2 := Lib.hid (show PutInv M true A f (upd (upd f' J (v + -a)) (J + 1) (v2 + -b)) (i + 1) (u / 1073741824) from by
            have h5 := hN.out
            rw [← hJ, ← hv, upd_other f' (v + -a) (show J + 1 ≠ J by omega), ← hv2] at h5
            exact h5)
          have hv2H := Lib.hid hv2
          clear hJ hv hv2 hle bv bv2 hN
          go_upto_region 19 with fail
          go_still_tail 17, (by kernel_rfl)
          change wpList _ _ _ _ _ wr.drew
          have hL2 : LongAt wr.drew g f' := hL
          have hB2 : Touch g w wr.drew := hB.drew
          have c2 : wr.drew.cell? ⟨g, J, none⟩ = some (.int .i64 v) := c1
          have z2 : wr.drew.frozen? ⟨g, J, none⟩ = false := z1
          clear hL hB c1 z1
          generalize wr.drew = w2 at hL2 hB2 c2 z2 ⊢
          go_upto_region 20 with fail
          have hL3 := hL2.put (k := J) (by omega) (v + -a)
          have hB3 : Touch g w (w2.setCell ⟨g, J, none⟩ (.int .i64 (v + -a))) := hB2.setCell rfl _
          obtain ⟨c3, z3⟩ := hL3 (J + 1) (by omega)
          rw [upd_other f' (v + -a) (show J + 1 ≠ J by omega), ← hv2H.out] at c3
          clear hL2 hB2 c2 z2
          generalize w2.setCell ⟨g, J, none⟩ (.int .i64 (v + -a)) = w3 at hL3 hB3 c3 z3 ⊢
          go_still_tail 19, (by kernel_rfl)
          change wpList _ _ _ _ _ w3.drew
          have hL4 : LongAt w3.drew g (upd f' J (v + -a)) := hL3
          have hB4 : Touch g w w3.drew := hB3.drew
          have c4 : w3.drew.cell? ⟨g, J + 1, none⟩ = some (.int .i64 v2) := c3
          have z4 : w3.drew.frozen? ⟨g, J + 1, none⟩ = false := z3
          clear hL3 hB3 c3 z3
          generalize w3.drew = w4 at hL4 hB4 c4 z4 ⊢
          have hL5 := hL4.put (k := J + 1) (by omega) (v2 + -b)
          have hB5 : Touch g w (w4.setCell ⟨g, J + 1, none⟩ (.int .i64 (v2 + -b))) := hB4.setCell rfl _
          go_wp2
          go_roundw
          case rel =>
            exact ⟨_, i + 1, u / 1073741824, hfin2.out, by omega, by omega, rfl, by simp, hL5, hB5⟩
          case measure => simp [intOf]; omega
        · have h3 : i = 3 := by omega
          subst h3
          have hv := hI.val
          have hM3 := Lib.hid (Nat.mod_eq_of_lt (show M < 2 ^ (30 * 3) from Nat.lt_of_lt_of_le M62 (by decide)))
          rw [hM3.out, if_pos rfl, ← hfin.out] at hv
          have hv := Lib.hid hv
          have hle := hI.le
          clear hI
          go_wp2
          go_end0
          exact ⟨rfl, f', hL, by rw [show (e + 1200).toNat = A from by omega]; exact hv.out, hle, hB⟩
    · have eU : IntKind.u64.wrap m = (M : Int) := by rw [IntKind.wrap_u64]; omega
      have hfin := Lib.hid (show m = 1 * (M : Int) by omega)
      have hS := PutInv.start M false A f
      have M62 : M < 4611686018427387904 := by omega
      clear hM hm hm2
      go_enter Try.func30, Try.ntmps30
      go_wp2
      go_loopw [10, 11] (fun x y wr => ∃ (f' : Nat → Int) (i u : Nat), PutInv M false A f f' i u ∧ i ≤ 3 ∧ u < 4611686018427387904 ∧ x = .int .u64 (u : Int) ∧ y = .int .i64 (i : Int) ∧ LongAt wr g f' ∧ Touch g w wr) (fun _ y _ => (3 - intOf y).toNat)
      case atStart => exact ⟨f, 0, M, hS, by omega, M62, rfl, rfl, hf, Touch.refl _ _⟩
      case round =>
        obtain ⟨f', i, u, hI, hi3, hu, rfl, rfl, hL, hB⟩ := hrel
        by_cases hi : i < 3
        · obtain ⟨P, hP⟩ : ∃ P : Nat, P = u % 1073741824 := ⟨_, rfl⟩
          have hN := hI.next_f hat.out hs30 (by omega)
          have hle := hI.le
          have eP : bits .and .u64 (u : Int) 1073741823 = (P : Int) := by rw [bits_30n u (by omega), hP]
          have hP1 : P < 1073741824 := by rw [hP]; exact Nat.mod_lt _ (by decide)
          obtain ⟨hQ1, eQ⟩ := shl_small hP1 hs30
          rw [← hP] at hN
          clear hP hI
          generalize P * 2 ^ s = Q at hN hQ1 eQ
          obtain ⟨a, b, eA, eB, ha, hb', a0, a1, b0, b1⟩ := fold hQ1
          rw [← ha, ← hb'] at hN
          clear ha hb'
          have hN := Lib.hid hN
          obtain ⟨J, hJ⟩ : ∃ J : Nat, J = k + i := ⟨_, rfl⟩
          have J109 : J < 109 := by omega
          obtain ⟨y0, y2⟩ := wrap_idx hJ (by omega)
          obtain ⟨c1, z1⟩ := hL J (by omega)
          obtain ⟨v, hv⟩ : ∃ v : Int, v = f' J := ⟨_, rfl⟩
          obtain ⟨v2, hv2⟩ : ∃ v2 : Int, v2 = f' (J + 1) := ⟨_, rfl⟩
          have bv := limb_bound hi3 (hle J) (hb J)
          have bv2 := limb_bound hi3 (hle (J + 1)) (hb (J + 1))
          rw [← hv] at c1 bv
          rw [← hv2] at bv2
          have y1 : IntKind.i64.wrap (v + a) = v + a := wrap_sum bv (by omega)
          have y3 : IntKind.i64.wrap (v2 + b) = v2 + b := wrap_sum bv2 (by omega)
          have J0 : (0 : Int) ≤ (J : Int) := by omega
          have J1 : (J : Int) < 110 := by omega
          have J2 : (J : Int) + 1 < 110 := by omega
          have J3 : (0 : Int) ≤ (J : Int) + 1 := by omega
          have J4 : ((J : Int) + 1).toNat = J + 1 := by omega
          have hfin2 := Lib.hid (show PutInv M false A f (upd (upd f' J (v + a)) (J + 1) (v2 + b)) (i + 1) (u / 1073741824) from by
            have h5 := hN.out
            rw [← hJ, ← hv, upd_other f' (v + a) (show J + 1 ≠ J by omega), ← hv2] at h5
            exact h5)
          have hv2H := Lib.hid hv2
          clear hJ hv hv2 hle bv bv2 hN
          go_upto_region 19 with fail
          go_still_tail 17, (by kernel_rfl)
          change wpList _ _ _ _ _ wr.drew
          have hL2 : LongAt wr.drew g f' := hL
          have hB2 : Touch g w wr.drew := hB.drew
          have c2 : wr.drew.cell? ⟨g, J, none⟩ = some (.int .i64 v) := c1
          have z2 : wr.drew.frozen? ⟨g, J, none⟩ = false := z1
          clear hL hB c1 z1
          generalize wr.drew = w2 at hL2 hB2 c2 z2 ⊢
          go_upto_region 20 with fail
          have hL3 := hL2.put (k := J) (by omega) (v + a)
          have hB3 : Touch g w (w2.setCell ⟨g, J, none⟩ (.int .i64 (v + a))) := hB2.setCell rfl _
          obtain ⟨c3, z3⟩ := hL3 (J + 1) (by omega)
          rw [upd_other f' (v + a) (show J + 1 ≠ J by omega), ← hv2H.out] at c3
          clear hL2 hB2 c2 z2
          generalize w2.setCell ⟨g, J, none⟩ (.int .i64 (v + a)) = w3 at hL3 hB3 c3 z3 ⊢
          go_still_tail 19, (by kernel_rfl)
          change wpList _ _ _ _ _ w3.drew
          have hL4 : LongAt w3.drew g (upd f' J (v + a)) := hL3
          have hB4 : Touch g w w3.drew := hB3.drew
          have c4 : w3.drew.cell? ⟨g, J + 1, none⟩ = some (.int .i64 v2) := c3
          have z4 : w3.drew.frozen? ⟨g, J + 1, none⟩ = false := z3
          clear hL3 hB3 c3 z3
          generalize w3.drew = w4 at hL4 hB4 c4 z4 ⊢
          have hL5 := hL4.put (k := J + 1) (by omega) (v2 + b)
          have hB5 : Touch g w (w4.setCell ⟨g, J + 1, none⟩ (.int .i64 (v2 + b))) := hB4.setCell rfl _
          go_wp2
          go_roundw
          case rel =>
            exact ⟨_, i + 1, u / 1073741824, hfin2.out, by omega, by omega, rfl, by simp, hL5, hB5⟩
          case measure => simp [intOf]; omega
        · have h3 : i = 3 := by omega
          subst h3
          have hv := hI.val
          have hM3 := Lib.hid (Nat.mod_eq_of_lt (show M < 2 ^ (30 * 3) from Nat.lt_of_lt_of_le M62 (by decide)))
          rw [hM3.out, if_neg (by decide), ← hfin.out] at hv
          have hv := Lib.hid hv
          have hle := hI.le
          clear hI
          go_wp2
          go_end0
          exact ⟨rfl, f', hL, by rw [show (e + 1200).toNat = A from by omega]; exact hv.out, hle, hB⟩
end Go.Proofs.Ytfpneojhhkfhpaa

/- The reference's Add and Zero (layer 3). -/
namespace Go.Proofs.Ytfpneojhhkfhpaa
open Go.RowKit

theorem pA_small (x : Nat) : (pM x).natAbs < 4611686018427387904 ∧ (pM x).natAbs < 1237940039285380274899124224 := by
  have := pA_lt x
  rw [pM_abs]; omega
/-- a finite float is added: in units of 2^-1200 -/
theorem add_any (g : Nat) (f : Nat → Int) (x : Nat) (n : Int) (w : World) (hx : Flt.Num x n) (hf : LongAt w g f) (hb : ∀ i, (f i).natAbs ≤ 1152921504606846976) :
    Calls Try.prog 14 #[.pointer (some ⟨g, 0, none⟩), .float .f64 x] w fun r w' => r = .returned (.tuple #[]) ∧ ∃ f', LongAt w' g f' ∧ lval f' = lval f + n * 2 ^ 126 ∧ (∀ j, (f' j - f j).natAbs ≤ 3221225472) ∧ Touch g w w' := by
  have hp := num_parts hx
  have h1 := pE_ge x
  have h2 := pE_le hx.fin
  obtain ⟨h3, h4⟩ := pA_small x
  have hval := Lib.hid (show pM x * 2 ^ (pE x + 1200).toNat = n * 2 ^ 126 from by
    rw [hp, show (pE x + 1200).toNat = (pE x + 1074).toNat + 126 from by omega, Int.pow_add, Int.mul_assoc])
  clear hp
  go_enter Try.func14, Try.ntmps14
  go_wp2_with fail
  refine (parts_any x _).mono ?_; rintro r w1 ⟨rfl, rfl⟩
  go_wp2_with fail
  refine (put_any g f (pM x) (pE x) _ hf h4 h3 (by omega) (by omega) hb).mono ?_; rintro r w1 ⟨rfl, f', k1, k2, k3, k4⟩
  have k2 := Lib.hid k2
  go_wp2
  go_end0
  exact ⟨rfl, f', k1, by rw [k2.out, hval.out], k3, k4⟩

theorem bits_30i (v : Int) : bits .and .i64 v 1073741823 = v % 1073741824 := by
  have h2 : (BitVec.ofInt 64 v).toNat = (v % 18446744073709551616).toNat := by rw [BitVec.toNat_ofInt]; rfl
  show IntKind.i64.wrap ((BitVec.ofInt 64 v &&& BitVec.ofInt 64 1073741823).toNat : Int) = _
  have h3 : (BitVec.ofInt 64 1073741823).toNat = 2 ^ 30 - 1 := by decide
  rw [BitVec.toNat_and, h2, h3, Nat.and_two_pow_sub_one_eq_mod, IntKind.wrap_i64]
  omega
theorem lsum_tail (f : Nat → Int) (k : Nat) : ∀ n, k ≤ n → ∃ t, lsum f n = lsum f k + t * 2 ^ (30 * k)
  | 0, h => ⟨0, by have : k = 0 := by omega
                   subst this; simp⟩
  | n + 1, h => by
    by_cases c : k = n + 1
    · exact ⟨0, by rw [c]; simp⟩
    · obtain ⟨t, ht⟩ := lsum_tail f k n (by omega)
      refine ⟨t + f n * 2 ^ (30 * (n - k)), ?_⟩
      show lsum f n + f n * 2 ^ (30 * n) = _
      rw [ht, Int.add_mul, Int.mul_assoc (f n), ← Int.pow_add, show 30 * (n - k) + 30 * k = 30 * n from by omega, Int.add_assoc]
/-- the carry -/
structure ZInv (f : Nat → Int) (i : Nat) (c : Int) : Prop where
  eq : lsum f i = c * 2 ^ (30 * i)
theorem ZInv.next {f : Nat → Int} {i : Nat} {c : Int} (h : ZInv f i c) (hm : (f i + c) % 1073741824 = 0) : ZInv f (i + 1) ((f i + c) / 1073741824) := by
  refine ⟨?_⟩
  show lsum f i + f i * 2 ^ (30 * i) = _
  have h1 : f i + c = (f i + c) / 1073741824 * 1073741824 := by omega
  rw [h.eq, ← Int.add_mul, Int.add_comm c, show 30 * (i + 1) = 30 + 30 * i from by omega, Int.pow_add, ← Int.mul_assoc]
  exact congrArg (· * (2 : Int) ^ (30 * i)) h1
theorem ZInv.no {f : Nat → Int} {i : Nat} {c : Int} (h : ZInv f i c) (hi : i < 110) (hm : (f i + c) % 1073741824 ≠ 0) : lval f ≠ 0 := by
  intro hz
  obtain ⟨t, ht⟩ := lsum_tail f (i + 1) 110 (by omega)
  have h1 : lsum f (i + 1) = (f i + c) * 2 ^ (30 * i) := by
    show lsum f i + f i * 2 ^ (30 * i) = _
    rw [h.eq, ← Int.add_mul, Int.add_comm c]
  have hz' : lsum f 110 = 0 := by rw [← lval_eq]; exact hz
  rw [ht, h1, show 30 * (i + 1) = 30 + 30 * i from by omega, Int.pow_add, ← Int.mul_assoc, ← Int.add_mul] at hz'
  rcases Int.mul_eq_zero.1 hz' with h2 | h2
  · have e30 : (2 : Int) ^ 30 = 1073741824 := rfl
    rw [e30] at h2
    omega
  · exact absurd h2 (Int.ne_of_gt (Int.pow_pos (by decide)))
theorem ZInv.done {f : Nat → Int} {c : Int} (h : ZInv f 110 c) : decide (lval f = 0) = (c == 0) := by
  have e : lval f = c * 2 ^ (30 * 110) := by rw [lval_eq]; exact h.eq
  by_cases hc : c = 0
  · subst hc
    exact decide_eq_true (by rw [e, Int.zero_mul])
  · have h1 : lval f ≠ 0 := by
      rw [e]
      intro hz
      rcases Int.mul_eq_zero.1 hz with h2 | h2
      · exact hc h2
      · exact absurd h2 (Int.ne_of_gt (Int.pow_pos (by decide)))
    rw [decide_eq_false h1]; symm; rw [beq_eq_false_iff_ne]; exact hc

set_option maxHeartbeats 1000000 in
theorem zero_any (g : Nat) (f : Nat → Int) (w : World) (hf : LongAt w g f) (hb : ∀ i, (f i).natAbs ≤ 2305843009213693952) :
    Calls Try.prog 15 #[.pointer (some ⟨g, 0, none⟩)] w fun r w' => r = .returned (.bool (decide (lval f = 0))) ∧ w = w' := by
  obtain ⟨D, hDD⟩ : ∃ D : Bool, D = decide (lval f = 0) := ⟨_, rfl⟩
  rw [← hDD]
  have hDD := Lib.hid hDD
  go_enter Try.func15, Try.ntmps15
  go_wp2
  go_loop [3, 4] (fun x y => ∃ (c : Int) (i : Nat), ZInv f i c ∧ i ≤ 110 ∧ c.natAbs ≤ 4294967296 ∧ x = .int .i64 c ∧ y = .int .i64 (i : Int)) (fun _ y => (110 - intOf y).toNat)
  case atStart => exact ⟨0, 0, ⟨by simp [lsum]⟩, by omega, by simp, rfl, rfl⟩
  case round =>
    obtain ⟨c, i, hI, hi, hc, rfl, rfl⟩ := hrel
    by_cases hlt : i < 110
    · obtain ⟨c1, z1⟩ := hf i hlt
      obtain ⟨v, hv⟩ : ∃ v : Int, v = f i := ⟨_, rfl⟩
      have bv := hb i
      rw [← hv] at c1 bv
      have eA : bits .and .i64 (v + c) 1073741823 = (v + c) % 1073741824 := bits_30i _
      by_cases hm : (v + c) % 1073741824 = 0
      · have hN := Lib.hid (hI.next (by rw [← hv]; exact hm))
        rw [← hv] at hN
        have t1 : (bits .and .i64 (v + c) 1073741823 != 0) = false := by rw [eA, bne_eq_false_iff_eq]; exact hm
        clear eA hv hI hm
        go_wp2
        go_round
        case rel => exact ⟨_, i + 1, hN.out, by omega, by omega, rfl, by simp⟩
        case measure => simp [intOf]; omega
      · have hN := Lib.hid (hDD.out.trans (decide_eq_false (hI.no hlt (by rw [← hv]; exact hm))))
        obtain ⟨B, hB⟩ : ∃ B : Int, B = (v + c) % 1073741824 := ⟨_, rfl⟩
        have eB : bits .and .i64 (v + c) 1073741823 = B := by rw [eA, hB]
        have t1 : (B != 0) = true := by rw [bne_iff_ne, hB]; exact hm
        clear eA hv hI hm hB
        go_wp2
        go_ret
        exact ⟨ret_bool (hN.out.symm.trans hDD.out), rfl⟩
    · have h110 : i = 110 := by omega
      subst h110
      have hD := Lib.hid (hDD.out.trans hI.done)
      clear hI
      go_wp2
      go_ret
      exact ⟨ret_bool (hD.out.symm.trans hDD.out), rfl⟩
end Go.Proofs.Ytfpneojhhkfhpaa

/- A product added in pieces of 27 bits: over whole numbers. No program is named here. -/
namespace Go.Proofs.Ytfpneojhhkfhpaa
open Go.RowKit

theorem bits_27i (v : Int) : bits .and .i64 v 134217727 = v % 134217728 := by
  have h2 : (BitVec.ofInt 64 v).toNat = (v % 18446744073709551616).toNat := by rw [BitVec.toNat_ofInt]; rfl
  show IntKind.i64.wrap ((BitVec.ofInt 64 v &&& BitVec.ofInt 64 134217727).toNat : Int) = _
  have h3 : (BitVec.ofInt 64 134217727).toNat = 2 ^ 27 - 1 := by decide
  rw [BitVec.toNat_and, h2, h3, Nat.and_two_pow_sub_one_eq_mod, IntKind.wrap_i64]
  omega
/-- the sum so far: P times the lowest k pieces of N -/
structure PieceInv (P N : Nat) (sg : Int) (E : Nat) (v0 v : Int) (k : Nat) : Prop where
  eq : v = v0 + sg * ((P * (N % 2 ^ (27 * k)) : Nat) : Int) * 2 ^ E
theorem PieceInv.start (P N : Nat) (sg : Int) (E : Nat) (v0 : Int) : PieceInv P N sg E v0 v0 0 := ⟨by simp [Nat.mod_one]⟩
theorem PieceInv.next {P N : Nat} {sg : Int} {E : Nat} {v0 v : Int} {k : Nat} (h : PieceInv P N sg E v0 v k) {Q F : Nat} {v' a : Int} (hQ : Q = N / 2 ^ (27 * k) % 134217728) (hF : F = E + 27 * k) (ha : a = sg * ((P * Q : Nat) : Int)) (hv : v' = v + a * 2 ^ F) : PieceInv P N sg E v0 v' (k + 1) := by
  refine ⟨?_⟩
  have e1 : N % 2 ^ (27 * (k + 1)) = N % 2 ^ (27 * k) + Q * 2 ^ (27 * k) := by
    rw [show 27 * (k + 1) = 27 * k + 27 from by omega, Nat.pow_add, Nat.mod_mul, hQ]
    exact congrArg (N % 2 ^ (27 * k) + ·) (Nat.mul_comm _ _)
  have e2 : ((P * (Q * 2 ^ (27 * k)) : Nat) : Int) * 2 ^ E = ((P * Q : Nat) : Int) * 2 ^ F := by
    rw [hF, Int.pow_add, ← Nat.mul_assoc, Int.natCast_mul (P * Q), pw]
    ac_rfl
  rw [hv, h.eq, ha, e1, Nat.mul_add, Int.natCast_add, Int.mul_add, Int.add_mul, Int.add_assoc, Int.mul_assoc sg (((P * (Q * 2 ^ (27 * k)) : Nat) : Int)), e2, Int.mul_assoc sg ((P * Q : Nat) : Int)]
theorem PieceInv.done {P N : Nat} {sg : Int} {E : Nat} {v0 v : Int} {k : Nat} (h : PieceInv P N sg E v0 v k) (hN : N < 2 ^ (27 * k)) : v = v0 + sg * ((P * N : Nat) : Int) * 2 ^ E := by
  have := h.eq
  rwa [Nat.mod_eq_of_lt hN] at this
end Go.Proofs.Ytfpneojhhkfhpaa

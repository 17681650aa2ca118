/- eft.Top. -/
import Derived.Test.YtknlpggbaahajaaTopP
import Derived.Test.YtknlpggbaahajaaTwoTo
namespace Go.Proofs.Ytknlpggbaahajaa
open Go.RowKit

theorem run_fmax {P : Program} (ts : Array TypeId) (t : TypeId) {x y : Nat} (hx : x < 9218868437227405312) (hy : y < 9218868437227405312) (w : World) : (Builtin.max_ ts t #[.float .f64 x, .float .f64 y]).run P w = .ok (.float .f64 (max x y)) w := by
  have ho : FloatKind.f64.format.order x y = _ := Flt.order_words hx hy
  rcases Nat.lt_trichotomy x y with h | h | h
  · rw [Flt.cmp_lt h] at ho
    simp [Builtin.max_, Builtin.max2, ho, Nat.max_eq_right (Nat.le_of_lt h)]
  · subst h
    rw [Flt.cmp_eq] at ho
    simp [Builtin.max_, Builtin.max2, ho]
  · rw [Flt.cmp_gt h] at ho
    simp [Builtin.max_, Builtin.max2, ho, Nat.max_eq_left (Nat.le_of_lt h)]
/-- a slice of floats, as a loop reads it -/
structure FRow (w : World) (v : Value) (l : List Nat) : Prop where
  form : (v = .slice none 0 0 ∧ l = []) ∨ ∃ g cap, v = .slice (some ⟨g, 0, none⟩) l.length cap ∧ l.length ≤ cap ∧ l.length ≤ maxLen ∧
    ∀ (i : Nat) x, l[i]? = some x → w.cell? ⟨g, i, none⟩ = some (.float .f64 x)
theorem ret_top {a b : Int} (c : Bool) (h : a = b) : Ending.returned (.tuple #[.int .i64 a, .bool c]) = .returned (.tuple #[.int .i64 b, .bool c]) := by rw [h]
/-- what Top answers -/
def TopSaid (l : List Nat) (e : Ending) : Prop :=
  (∃ k : Int, e = .returned (.tuple #[.int .i64 k, .bool true]) ∧ Flt.Fins l ∧ Flt.IsTop (Flt.gm l) k) ∨ (e = .returned (.tuple #[.int .i64 0, .bool false]) ∧ ¬ Flt.Fins l)
/-- the search's state -/
structure SrInv (M : Nat) (a b : Int) : Prop where
  lo : -1074 ≤ a
  le : a ≤ b
  hi : b ≤ 1024
  lt : M < Flt.twK b
  ge : ∀ j, -1074 ≤ j → j < a → Flt.twK j ≤ M
theorem SrInv.start {M : Nat} (h : M < 9218868437227405312) : SrInv M (-1074) 1024 := ⟨by decide, by decide, by decide, by rw [Flt.twK_top]; exact h, fun j h1 h2 => by omega⟩
theorem SrInv.down {M : Nat} {a b m : Int} (h : SrInv M a b) (h1 : a ≤ m) (h2 : m < b) (h3 : M < Flt.twK m) : SrInv M a m := ⟨h.lo, h1, by have := h.hi; omega, h3, h.ge⟩
theorem SrInv.up {M : Nat} {a b m : Int} (h : SrInv M a b) (h1 : a ≤ m) (h2 : m < b) (h3 : ¬ M < Flt.twK m) : SrInv M (m + 1) b :=
  ⟨by have := h.lo; omega, by omega, h.hi, h.lt, fun j j1 j2 => Nat.le_trans (Flt.twK_mono j1 (show j ≤ m by omega) (by have := h.hi; omega)) (by omega)⟩
theorem SrInv.done {M : Nat} {a b : Int} (h : SrInv M a b) (he : ¬ a < b) : Flt.IsTop M a := by
  have e : a = b := by have := h.le; omega
  subst e
  exact ⟨h.lo, h.hi, h.lt, h.ge⟩

set_option maxHeartbeats 4000000 in
theorem top_any (v : Value) (l : List Nat) (w : World) (hR : FRow w v l) (hl : ∀ x ∈ l, x < 18446744073709551616) :
    Calls Try.prog 22 #[v] w fun e w' => TopSaid l e ∧ w = w' := by
  rcases hR.form with ⟨rfl, rfl⟩ | ⟨g, cap, rfl, hc, hm, hcells⟩
  · have hM : (0 : Nat) < 9218868437227405312 := by decide
    have hS := SrInv.start hM
    have hFin : Hid (Flt.Fins [] ∧ True) := Lib.hid ⟨(fun x hx => by cases hx), trivial⟩
    go_enter Try.func22, Try.ntmps22
    go_wp2
    go_loop [4, 13] (fun a b => a = .float .f64 0 ∧ b = .int .i64 0) (fun _ _ => 0)
    case atStart => exact ⟨rfl, rfl⟩
    case round =>
      obtain ⟨rfl, rfl⟩ := hrel
      go_wp2
      go_loop [8, 9, 10] (fun a b _ => ∃ x y : Int, SrInv 0 x y ∧ a = .int .i64 x ∧ b = .int .i64 y) (fun a b _ => (intOf b - intOf a).toNat)
      case atStart => exact ⟨_, _, hS, rfl, rfl⟩
      case round =>
        obtain ⟨x, y, hI, rfl, rfl⟩ := hrel
        by_cases hxy : x < y
        · have h1 := hI.lo
          have h2 := hI.hi
          obtain ⟨m, hm⟩ : ∃ m, m = x + (y - x) / 2 := ⟨_, rfl⟩
          have m1 : x ≤ m := by omega
          have m2 : m < y := by omega
          have ed : (y - x).tdiv 2 = m - x := by rw [Int.tdiv_eq_ediv_of_nonneg (by omega)]; omega
          have em : x + (m - x) = m := by omega
          have hfin := Flt.twK_fin (show -1074 ≤ m by omega) (show m ≤ 1023 by omega)
          have htt := fun w => twoto_any m w (by omega) (by omega)
          clear hm
          obtain ⟨p, hp⟩ : ∃ p, p = Flt.twK m := ⟨_, rfl⟩
          rw [← hp] at htt hfin
          have ho : FloatKind.f64.format.order 0 p = _ := Flt.order_words (show 0 < 9218868437227405312 from hM) hfin
          by_cases c : 0 < p
          · have hN := Lib.hid (hI.down m1 m2 (by rw [← hp]; exact c))
            rw [Flt.cmp_lt c] at ho
            clear hI hp hfin c
            go_wp2_with fail
            refine (htt _).mono ?_; rintro r w1 ⟨rfl, rfl⟩
            go_wp2
            go_round
            case rel => exact ⟨x, m, hN.out, rfl, rfl⟩
            case measure => simp [intOf]; omega
          · have hN := Lib.hid (hI.up m1 m2 (by rw [← hp]; exact c))
            have ho2 : FloatKind.f64.format.order 0 p = some .eq ∨ FloatKind.f64.format.order 0 p = some .gt := by
              rcases Nat.eq_or_lt_of_le (Nat.le_of_not_lt c) with k | k
              · left; rw [ho, k, Flt.cmp_eq]
              · right; rw [ho, Flt.cmp_gt k]
            clear hI hp hfin c ho
            rcases ho2 with ho | ho
            · go_wp2_with fail
              refine (htt _).mono ?_; rintro r w1 ⟨rfl, rfl⟩
              go_wp2
              go_round
              case rel => exact ⟨m + 1, y, hN.out, by simp, rfl⟩
              case measure => simp [intOf]; omega
            · go_wp2_with fail
              refine (htt _).mono ?_; rintro r w1 ⟨rfl, rfl⟩
              go_wp2
              go_round
              case rel => exact ⟨m + 1, y, hN.out, by simp, rfl⟩
              case measure => simp [intOf]; omega
        · have hD := Lib.hid (hI.done hxy)
          clear hI
          go_wp2
          go_ret2
          exact ⟨Or.inl ⟨x, rfl, hFin.out.1, hD.out⟩, rfl⟩
  · have hm : l.length ≤ 9223372036854775807 := Nat.le_trans hm (by decide)
    have hFin0 : Flt.Fins (l.take 0) := fun x hx => by simp at hx
    have hG0 : Flt.gm (l.take 0) = 0 := by simp [Flt.gm]
    go_enter Try.func22, Try.ntmps22
    go_wp2
    go_loop [4, 6, 7, 13] (fun a _ _ b => ∃ i : Nat, Flt.Fins (l.take i) ∧ i ≤ l.length ∧ a = .float .f64 (Flt.gm (l.take i)) ∧ b = .int .i64 (i : Int)) (fun _ _ _ b => l.length - (intOf b).toNat)
    case atStart => exact ⟨0, hFin0, by omega, by rw [hG0], by simp⟩
    case round =>
      obtain ⟨i, hF, hi, rfl, rfl⟩ := hrel
      have hM := Flt.gm_fin hF
      by_cases hlt : i < l.length
      · obtain ⟨x, hx⟩ : ∃ x, l[i]? = some x := ⟨_, List.getElem?_eq_getElem hlt⟩
        have hxm : x ∈ l := List.mem_of_getElem? hx
        have hcell := hcells i x hx
        clear hcells
        have habs := fun w => abs_any x w (hl x hxm)
        obtain ⟨y, hy⟩ : ∃ y, y = x % 9223372036854775808 := ⟨_, rfl⟩
        rw [← hy] at habs
        obtain ⟨M, hMM⟩ : ∃ M, M = Flt.gm (l.take i) := ⟨_, rfl⟩
        rw [← hMM] at hM ⊢
        rcases Flt.ord4 y 9218868437227405311 (by omega) (by decide) with ⟨ho0, k⟩ | ⟨ho0, k⟩ | ⟨ho0, k, k'⟩ | ⟨ho0, k⟩ <;> have ho : FloatKind.f64.format.order y 9218868437227405311 = _ := ho0 <;> clear ho0
        · have hy2 : y < 9218868437227405312 := by omega
          have hN := Lib.hid (And.intro (Flt.fins_take hF hx (by rw [← hy]; exact hy2)) (show Flt.gm (l.take (i + 1)) = max M y from by rw [Flt.gm_take hx, ← hMM, ← hy]))
          have hmx := fun (ts : Array TypeId) (t : TypeId) (w : World) => run_fmax (P := Try.prog) ts t hM hy2 w
          clear hy hMM hF hx hxm hM hy2 k
          go_wp2_with fail
          refine (habs _).mono ?_; rintro r w1 ⟨rfl, rfl⟩
          go_wp2
          go_round
          case rel => exact ⟨i + 1, hN.out.1, by omega, by rw [hN.out.2], by simp⟩
          case measure => simp [intOf]; omega
        · have hy2 : y < 9218868437227405312 := by omega
          have hN := Lib.hid (And.intro (Flt.fins_take hF hx (by rw [← hy]; exact hy2)) (show Flt.gm (l.take (i + 1)) = max M y from by rw [Flt.gm_take hx, ← hMM, ← hy]))
          have hmx := fun (ts : Array TypeId) (t : TypeId) (w : World) => run_fmax (P := Try.prog) ts t hM hy2 w
          clear hy hMM hF hx hxm hM hy2 k
          go_wp2_with fail
          refine (habs _).mono ?_; rintro r w1 ⟨rfl, rfl⟩
          go_wp2
          go_round
          case rel => exact ⟨i + 1, hN.out.1, by omega, by rw [hN.out.2], by simp⟩
          case measure => simp [intOf]; omega
        · have hN := Lib.hid (show ¬ Flt.Fins l from fun hc => by have := hc x hxm; omega)
          clear hy hMM hF hx hxm hM k k'
          go_wp2_with fail
          refine (habs _).mono ?_; rintro r w1 ⟨rfl, rfl⟩
          go_wp2
          go_ret2
          exact ⟨Or.inr ⟨rfl, hN.out⟩, rfl⟩
        · have hN := Lib.hid (show ¬ Flt.Fins l from fun hc => by have := hc x hxm; omega)
          clear hy hMM hF hx hxm hM k
          go_wp2_with fail
          refine (habs _).mono ?_; rintro r w1 ⟨rfl, rfl⟩
          go_wp2
          go_ret2
          exact ⟨Or.inr ⟨rfl, hN.out⟩, rfl⟩
      · have hil : i = l.length := by omega
        have htk : l.take i = l := by rw [hil]; exact List.take_length
        rw [htk] at hF hM ⊢
        have hFin : Hid (Flt.Fins l) := Lib.hid hF
        obtain ⟨M, hMM⟩ : ∃ M, M = Flt.gm l := ⟨_, rfl⟩
        rw [← hMM] at hM ⊢
        have hMH := Lib.hid hMM
        have hS := SrInv.start hM
        clear hMM hF htk hil
        go_wp2
        go_loop [8, 9, 10] (fun a b _ => ∃ x y : Int, SrInv M x y ∧ a = .int .i64 x ∧ b = .int .i64 y) (fun a b _ => (intOf b - intOf a).toNat)
        case atStart => exact ⟨_, _, hS, rfl, rfl⟩
        case round =>
          obtain ⟨x, y, hI, rfl, rfl⟩ := hrel
          by_cases hxy : x < y
          · have h1 := hI.lo
            have h2 := hI.hi
            obtain ⟨m, hm⟩ : ∃ m, m = x + (y - x) / 2 := ⟨_, rfl⟩
            have m1 : x ≤ m := by omega
            have m2 : m < y := by omega
            have ed : (y - x).tdiv 2 = m - x := by rw [Int.tdiv_eq_ediv_of_nonneg (by omega)]; omega
            have em : x + (m - x) = m := by omega
            have hfin := Flt.twK_fin (show -1074 ≤ m by omega) (show m ≤ 1023 by omega)
            have htt := fun w => twoto_any m w (by omega) (by omega)
            clear hm
            obtain ⟨p, hp⟩ : ∃ p, p = Flt.twK m := ⟨_, rfl⟩
            rw [← hp] at htt hfin
            have ho : FloatKind.f64.format.order M p = _ := Flt.order_words (show M < 9218868437227405312 from hM) hfin
            by_cases c : M < p
            · have hN := Lib.hid (hI.down m1 m2 (by rw [← hp]; exact c))
              rw [Flt.cmp_lt c] at ho
              clear hI hp hfin c
              go_wp2_with fail
              refine (htt _).mono ?_; rintro r w1 ⟨rfl, rfl⟩
              go_wp2
              go_round
              case rel => exact ⟨x, m, hN.out, rfl, rfl⟩
              case measure => simp [intOf]; omega
            · have hN := Lib.hid (hI.up m1 m2 (by rw [← hp]; exact c))
              have ho2 : FloatKind.f64.format.order M p = some .eq ∨ FloatKind.f64.format.order M p = some .gt := by
                rcases Nat.eq_or_lt_of_le (Nat.le_of_not_lt c) with k | k
                · left; rw [ho, k, Flt.cmp_eq]
                · right; rw [ho, Flt.cmp_gt k]
              clear hI hp hfin c ho
              rcases ho2 with ho | ho
              · go_wp2_with fail
                refine (htt _).mono ?_; rintro r w1 ⟨rfl, rfl⟩
                go_wp2
                go_round
                case rel => exact ⟨m + 1, y, hN.out, by simp, rfl⟩
                case measure => simp [intOf]; omega
              · go_wp2_with fail
                refine (htt _).mono ?_; rintro r w1 ⟨rfl, rfl⟩
                go_wp2
                go_round
                case rel => exact ⟨m + 1, y, hN.out, by simp, rfl⟩
                case measure => simp [intOf]; omega
          · have hD := Lib.hid (hI.done hxy)
            clear hI
            go_wp2
            go_ret2
            exact ⟨Or.inl ⟨x, rfl, hFin.out, hMH.out ▸ hD.out⟩, rfl⟩
end Go.Proofs.Ytknlpggbaahajaa

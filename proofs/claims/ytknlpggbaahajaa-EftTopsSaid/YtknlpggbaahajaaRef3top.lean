/- The reference's Top (layer 3). -/
import Derived.Test.YtknlpggbaahajaaRef3p
import Derived.Test.YtknlpggbaahajaaETop
namespace Go.Proofs.Ytknlpggbaahajaa
open Go.RowKit

theorem dec_max {M y p : Nat} (h : y < p) : decide (M < p) = decide (max M y < p) := decide_eq_decide.2 ⟨fun _ => by omega, fun _ => by omega⟩
set_option maxHeartbeats 8000000 in
theorem reftop_any (v : Value) (l : List Nat) (w : World) (hR : FRow w v l) (hl : ∀ x ∈ l, x < 18446744073709551616) :
    Calls Try.prog 23 #[v] w fun e w' => TopSaid l e ∧ w = w' := by
  rcases hR.form with ⟨rfl, rfl⟩ | ⟨g, cap, rfl, hc, hm, hcells⟩
  · have hT : Flt.IsTop (Flt.gm []) (-1074) := ⟨by decide, by decide, by decide, fun j h1 h2 => by omega⟩
    have hF : Flt.Fins [] := fun x hx => by cases hx
    have hp := fun w => power_any (-1074) w (by decide) (by decide)
    obtain ⟨p, hpe⟩ : ∃ p, p = Flt.twK (-1074) := ⟨_, rfl⟩
    rw [← hpe] at hp
    clear hpe
    have hTH := Lib.hid hT
    have hFH := Lib.hid hF
    clear hT hF
    go_enter Try.func23, Try.ntmps23
    go_wp2
    go_loop [4, 5] (fun a _ => a = .int .i64 0) (fun _ _ => 0)
    case atStart => exact rfl
    case round =>
      obtain rfl := hrel
      go_wp2
      go_loop [6, 7, 8, 9] (fun a _ _ _ => a = .int .i64 (-1074)) (fun _ _ _ _ => 0)
      case atStart => exact rfl
      case round =>
        obtain rfl := hrel
        go_wp2_with fail
        refine (hp _).mono ?_; rintro r w1 ⟨rfl, rfl⟩
        go_wp2
        go_loop [8, 9] (fun a b => a = .bool true ∧ b = .int .i64 0) (fun _ _ => 0)
        case atStart => exact ⟨rfl, rfl⟩
        case round =>
          obtain ⟨rfl, rfl⟩ := hrel
          go_wp2
          go_ret2
          exact ⟨Or.inl ⟨_, rfl, hFH.out, hTH.out⟩, rfl⟩
  · have hm : l.length ≤ 9223372036854775807 := Nat.le_trans hm (by decide)
    have hFin0 : Flt.Fins (l.take 0) := fun x hx => by simp at hx
    have hG0 : Flt.gm (l.take 0) = 0 := by simp [Flt.gm]
    go_enter Try.func23, Try.ntmps23
    go_wp2
    go_loop [4, 5] (fun a _ => ∃ i : Nat, Flt.Fins (l.take i) ∧ i ≤ l.length ∧ a = .int .i64 (i : Int)) (fun a _ => l.length - (intOf a).toNat)
    case atStart => exact ⟨0, hFin0, by omega, by simp⟩
    case round =>
      obtain ⟨i, hF, hi, rfl⟩ := hrel
      by_cases hlt : i < l.length
      · obtain ⟨x, hx⟩ : ∃ x, l[i]? = some x := ⟨_, List.getElem?_eq_getElem hlt⟩
        have hxm : x ∈ l := List.mem_of_getElem? hx
        have hcell := hcells i x hx
        clear hcells
        have hfx := fun w => finite_any x w
        by_cases hy : x % 9223372036854775808 < 9218868437227405312
        · have hN := Lib.hid (Flt.fins_take hF hx hy)
          rw [decide_eq_true hy] at hfx
          clear hF hx hxm hy
          go_wp2_with fail
          refine (hfx _).mono ?_; rintro r w1 ⟨rfl, rfl⟩
          go_wp2
          go_round
          case rel => exact ⟨i + 1, hN.out, by omega, by simp⟩
          case measure => simp [intOf]; omega
        · have hN := Lib.hid (show ¬ Flt.Fins l from fun hc => hy (hc x hxm))
          rw [decide_eq_false hy] at hfx
          clear hF hx hxm hy
          go_wp2_with fail
          refine (hfx _).mono ?_; rintro r w1 ⟨rfl, rfl⟩
          go_wp2
          go_ret2
          exact ⟨Or.inr ⟨rfl, hN.out⟩, rfl⟩
      · have hil : i = l.length := by omega
        have htk : l.take i = l := by rw [hil]; exact List.take_length
        rw [htk] at hF
        clear htk
        subst hil
        have hM := Flt.gm_fin hF
        have hFH := Lib.hid hF
        obtain ⟨M, hMM⟩ : ∃ M, M = Flt.gm l := ⟨_, rfl⟩
        have hMH := Lib.hid hMM
        rw [← hMM] at hM
        clear hF hMM
        go_wp2
        go_loop [6, 7, 8, 9] (fun a _ _ _ => ∃ k : Int, -1074 ≤ k ∧ k ≤ 1024 ∧ (∀ j, -1074 ≤ j → j < k → Flt.twK j ≤ M) ∧ a = .int .i64 k) (fun a _ _ _ => (1024 - intOf a).toNat)
        case atStart => exact ⟨-1074, by omega, by omega, fun j h1 h2 => by omega, rfl⟩
        case round =>
          obtain ⟨k, k0, k1, hk, rfl⟩ := hrel
          have hkH := Lib.hid hk
          clear hk
          by_cases hk2 : k < 1024
          · have hp := fun w => power_any k w k0 (by omega)
            have p0 := Flt.twK_pos k0 k1
            have p1 := Flt.twK_fin k0 (by omega)
            obtain ⟨p, hpe⟩ : ∃ p, p = Flt.twK k := ⟨_, rfl⟩
            have hpH := Lib.hid hpe
            rw [← hpe] at hp p0 p1
            clear hpe
            go_wp2_with fail
            refine (hp _).mono ?_; rintro r w1 ⟨rfl, rfl⟩
            go_wp2
            go_loop [8, 9] (fun a b => ∃ i : Nat, i ≤ l.length ∧ a = .bool (decide (Flt.gm (l.take i) < p)) ∧ b = .int .i64 (i : Int)) (fun _ b => l.length - (intOf b).toNat)
            case atStart => exact ⟨0, by omega, by rw [hG0, decide_eq_true p0], by simp⟩
            case round =>
              obtain ⟨i, hi2, rfl, rfl⟩ := hrel
              by_cases hlt : i < l.length
              · obtain ⟨x, hx⟩ : ∃ x, l[i]? = some x := ⟨_, List.getElem?_eq_getElem hlt⟩
                have hxm : x ∈ l := List.mem_of_getElem? hx
                have hcell := hcells i x hx
                clear hcells
                have hx64 := hl x hxm
                have hfx := hFH.out x hxm
                have hgt := Flt.gm_take hx
                obtain ⟨y, hy⟩ : ∃ y, y = x % 9223372036854775808 := ⟨_, rfl⟩
                rw [← hy] at hfx hgt
                obtain ⟨B, hB⟩ : ∃ B, B = decide (Flt.gm (l.take i) < p) := ⟨_, rfl⟩
                rw [← hB]
                have hng := fun w => run_neg (P := Try.prog) x w
                have hnx := neg_eq x hx64
                by_cases hs : x < 9223372036854775808
                · have ex : x = y := by omega
                  subst ex
                  rw [if_pos hs] at hnx
                  rw [hnx] at hng
                  have oN : FloatKind.f64.format.order (x + 9223372036854775808) p = some .lt := Flt.ord_neg hfx p0 p1
                  have oP : FloatKind.f64.format.order x p = _ := Flt.order_words hfx p1
                  rcases Nat.lt_trichotomy x p with c | c | c
                  · rw [Flt.cmp_lt c] at oP
                    have hN := Lib.hid (show B = decide (Flt.gm (l.take (i + 1)) < p) from by rw [hB, hgt]; exact dec_max c)
                    clear hB hgt hnx hy c hx hxm
                    go_wp2
                    go_round
                    case rel => exact ⟨i + 1, by omega, by rw [hN.out], by simp⟩
                    case measure => simp [intOf]; omega
                  · rw [c, Flt.cmp_eq] at oP
                    have hN := Lib.hid (show decide (Flt.gm (l.take (i + 1)) < p) = false by rw [hgt]; exact decide_eq_false (by omega))
                    subst c
                    clear hB hgt hnx hy hx hxm
                    go_wp2
                    go_round
                    case rel => exact ⟨i + 1, by omega, by rw [hN.out], by simp⟩
                    case measure => simp [intOf]; omega
                  · rw [Flt.cmp_gt c] at oP
                    have hN := Lib.hid (show decide (Flt.gm (l.take (i + 1)) < p) = false by rw [hgt]; exact decide_eq_false (by omega))
                    clear hB hgt hnx hy c hx hxm
                    go_wp2
                    go_round
                    case rel => exact ⟨i + 1, by omega, by rw [hN.out], by simp⟩
                    case measure => simp [intOf]; omega
                · have ex : x = y + 9223372036854775808 := by omega
                  rw [if_neg hs, show x - 9223372036854775808 = y from by omega] at hnx
                  rw [hnx] at hng
                  have oN : FloatKind.f64.format.order x p = some .lt := by rw [ex]; exact Flt.ord_neg hfx p0 p1
                  have oP : FloatKind.f64.format.order y p = _ := Flt.order_words hfx p1
                  rcases Nat.lt_trichotomy y p with c | c | c
                  · rw [Flt.cmp_lt c] at oP
                    have hN := Lib.hid (show B = decide (Flt.gm (l.take (i + 1)) < p) from by rw [hB, hgt]; exact dec_max c)
                    clear hB hgt hnx hy c hx hxm ex
                    go_wp2
                    go_round
                    case rel => exact ⟨i + 1, by omega, by rw [hN.out], by simp⟩
                    case measure => simp [intOf]; omega
                  · rw [c, Flt.cmp_eq] at oP
                    have hN := Lib.hid (show decide (Flt.gm (l.take (i + 1)) < p) = false by rw [hgt]; exact decide_eq_false (by omega))
                    subst c
                    clear hB hgt hnx hy hx hxm ex
                    go_wp2
                    go_round
                    case rel => exact ⟨i + 1, by omega, by rw [hN.out], by simp⟩
                    case measure => simp [intOf]; omega
                  · rw [Flt.cmp_gt c] at oP
                    have hN := Lib.hid (show decide (Flt.gm (l.take (i + 1)) < p) = false by rw [hgt]; exact decide_eq_false (by omega))
                    clear hB hgt hnx hy c hx hxm ex
                    go_wp2
                    go_round
                    case rel => exact ⟨i + 1, by omega, by rw [hN.out], by simp⟩
                    case measure => simp [intOf]; omega
              · have hil : i = l.length := by omega
                have htk : l.take i = l := by rw [hil]; exact List.take_length
                rw [htk, ← hMH.out]
                clear htk
                subst hil
                by_cases hMp : M < p
                · rw [decide_eq_true hMp]
                  have hT := Lib.hid (show Flt.IsTop (Flt.gm l) k from by rw [← hMH.out]; exact ⟨k0, k1, by rw [← hpH.out]; exact hMp, hkH.out⟩)
                  go_wp2
                  go_ret2
                  exact ⟨Or.inl ⟨k, rfl, hFH.out, hT.out⟩, rfl⟩
                · rw [decide_eq_false hMp]
                  have hN := Lib.hid (show ∀ j, -1074 ≤ j → j < k + 1 → Flt.twK j ≤ M from fun j j1 j2 => by
                    by_cases c : j = k
                    · rw [c, ← hpH.out]; omega
                    · exact hkH.out j j1 (by omega))
                  go_wp2
                  go_round
                  case rel => exact ⟨k + 1, by omega, by omega, hN.out, by simp⟩
                  case measure => simp [intOf]; omega
          · have hk3 : k = 1024 := by omega
            have hlt : M < Flt.twK k := Nat.lt_of_lt_of_eq hM (Flt.twK_top.symm.trans (congrArg Flt.twK hk3.symm))
            have hT := Lib.hid (show Flt.IsTop (Flt.gm l) k from by rw [← hMH.out]; exact ⟨k0, k1, hlt, hkH.out⟩)
            subst hk3
            go_wp2
            go_ret2
            exact ⟨Or.inl ⟨_, rfl, hFH.out, hT.out⟩, rfl⟩
end Go.Proofs.Ytknlpggbaahajaa

/- prime.Is: trial by twelve bases, then the strong test by each. -/
import Derived.Test.YtcglffigbdglpaaDoorPasses
namespace Go.Proofs.YtcglffigbdglpaaDoor
open Go.RowKit Dia

/-- the listed variable's memory -/
structure Bases (w : World) : Prop where
  c0 : w.cell? ⟨0, 0, none⟩ = some (.int .i64 2)
  c1 : w.cell? ⟨0, 1, none⟩ = some (.int .i64 3)
  c2 : w.cell? ⟨0, 2, none⟩ = some (.int .i64 5)
  c3 : w.cell? ⟨0, 3, none⟩ = some (.int .i64 7)
  c4 : w.cell? ⟨0, 4, none⟩ = some (.int .i64 11)
  c5 : w.cell? ⟨0, 5, none⟩ = some (.int .i64 13)
  c6 : w.cell? ⟨0, 6, none⟩ = some (.int .i64 17)
  c7 : w.cell? ⟨0, 7, none⟩ = some (.int .i64 19)
  c8 : w.cell? ⟨0, 8, none⟩ = some (.int .i64 23)
  c9 : w.cell? ⟨0, 9, none⟩ = some (.int .i64 29)
  c10 : w.cell? ⟨0, 10, none⟩ = some (.int .i64 31)
  c11 : w.cell? ⟨0, 11, none⟩ = some (.int .i64 37)

/-- what is known when the i-th base's turn comes -/
def Tried (n : Int) (i : Int) : Prop := ∀ j : Nat, (j : Int) < i → ∀ b, basesL[j]? = some b → n % b ≠ 0
theorem Tried.next {n b : Int} {i : Nat} (h : Tried n i) (hb : basesL[i]? = some b) (k : n % b ≠ 0) : Tried n (i + 1) := by
  intro j hj c hc
  by_cases e : j = i
  · subst e; rw [hb] at hc; cases hc; exact k
  · exact h j (by omega) c hc
theorem Tried.all {n : Int} (h : Tried n 12) : ∀ b ∈ basesL, n % b ≠ 0 := by
  intro b hb
  obtain ⟨j, hj⟩ := List.mem_iff_getElem?.1 hb
  refine h j ?_ b hj
  have := (List.getElem?_eq_some_iff.1 hj).1
  have : basesL.length = 12 := rfl
  omega
def Passed (n : Int) (i : Int) : Prop := ∀ j : Nat, (j : Int) < i → ∀ b, basesL[j]? = some b → strongB n b = true
theorem Passed.next {n b : Int} {i : Nat} (h : Passed n i) (hb : basesL[i]? = some b) (k : strongB n b = true) : Passed n (i + 1) := by
  intro j hj c hc
  by_cases e : j = i
  · subst e; rw [hb] at hc; cases hc; exact k
  · exact h j (by omega) c hc
theorem Passed.all {n : Int} (h : Passed n 12) : ∀ b ∈ basesL, strongB n b = true := by
  intro b hb
  obtain ⟨j, hj⟩ := List.mem_iff_getElem?.1 hb
  refine h j ?_ b hj
  have := (List.getElem?_eq_some_iff.1 hj).1
  have : basesL.length = 12 := rfl
  omega

theorem base_at (w : World) {i : Nat} {b : Int} (h : basesL[i]? = some b) :
    (Instr.index 35 (.agg #[.int .i64 2, .int .i64 3, .int .i64 5, .int .i64 7, .int .i64 11, .int .i64 13, .int .i64 17, .int .i64 19, .int .i64 23, .int .i64 29, .int .i64 31, .int .i64 37]) (.int .i64 (i : Int))).run Tryd.prog w = .ok (.int .i64 b) w := by
  match i, h with
  | 0, h => cases h; show _ = _; kernel_rfl
  | 1, h => cases h; show _ = _; kernel_rfl
  | 2, h => cases h; show _ = _; kernel_rfl
  | 3, h => cases h; show _ = _; kernel_rfl
  | 4, h => cases h; show _ = _; kernel_rfl
  | 5, h => cases h; show _ = _; kernel_rfl
  | 6, h => cases h; show _ = _; kernel_rfl
  | 7, h => cases h; show _ = _; kernel_rfl
  | 8, h => cases h; show _ = _; kernel_rfl
  | 9, h => cases h; show _ = _; kernel_rfl
  | 10, h => cases h; show _ = _; kernel_rfl
  | 11, h => cases h; show _ = _; kernel_rfl
  | _ + 12, h => cases h

theorem base_ex {i : Nat} (h : i < 12) : ∃ b, basesL[i]? = some b := ⟨_, List.getElem?_eq_getElem (by exact h)⟩

set_option maxHeartbeats 1000000 in
theorem is_dr (n : Int) (w : World) (hb : Bases w) :
    Calls Tryd.prog 11 #[.int .i64 n] w fun e w' => e = .returned (.bool (isB n)) ∧ Dr w w' := by
  by_cases h1 : 2 ≤ n
  · by_cases h2 : n ≤ 4611686018427387904
    · have h1' : ¬ n < 2 := by omega
      have h2' : ¬ 4611686018427387904 < n := by omega
      obtain ⟨c0, c1, c2, c3, c4, c5, c6, c7, c8, c9, c10, c11⟩ := hb
      go_enter Tryd.func11, Tryd.ntmps11
      go_wp2
      go_loop [14] (fun v => ∃ i : Nat, i ≤ 12 ∧ Tried n i ∧ v = .int .i64 (i : Int)) (fun v => (12 - intOf v).toNat)
      case atStart => exact ⟨0, by omega, fun j hj => by omega, rfl⟩
      case round =>
        obtain ⟨i, hi, hT, rfl⟩ := hrel
        by_cases hlt : i < 12
        · obtain ⟨b, hbb⟩ := base_ex hlt
          have hbm : b ∈ basesL := List.mem_of_getElem? hbb
          have hb2 := bases_le hbm
          have hix := base_at w hbb
          have t0 : (b == 0) = false := by rw [beq_eq_false_iff_ne]; omega
          by_cases hm : n % b = 0
          · have hB := Lib.hid (isB_div h1 h2 hbm hm)
            have t1 := beq_iff_eq.2 hm
            clear hm hT
            go_wp2
            go_ret
            exact ⟨ret_bool hB.out.symm, Dr.refl _⟩
          · have hN := hT.next hbb hm
            have t1 := beq_eq_false_iff_ne.2 hm
            clear hm hT
            go_wp2
            go_round
            case rel => exact ⟨i + 1, by omega, hN, by simp⟩
            case measure => simp [intOf]; omega
        · obtain rfl : i = 12 := by omega
          have hA := Lib.hid (Tried.all hT)
          have h3 : 3 ≤ n := three_of h1 (hA.out 2 (by decide))
          clear hT
          go_wp2
          go_loopw [26] (fun v wr => ∃ i : Nat, i ≤ 12 ∧ Passed n i ∧ v = .int .i64 (i : Int) ∧ Dr w wr) (fun v _ => (12 - intOf v).toNat)
          case atStart => exact ⟨0, by omega, fun j hj => by omega, rfl, Dr.refl _⟩
          case round =>
            obtain ⟨i, hi, hT, rfl, g⟩ := hrel
            by_cases hlt : i < 12
            · obtain ⟨b, hbb⟩ := base_ex hlt
              have hbm : b ∈ basesL := List.mem_of_getElem? hbb
              have hix : ∀ w, _ := fun w => base_at w hbb
              by_cases hs : strongB n b = true
              · have hN := Lib.hid (hT.next hbb hs)
                have hs := Lib.hid hs
                clear hT
                go_wp2_with fail
                refine (passes_dr n b _ h3 h2).mono ?_; rintro e w1 ⟨rfl, g1⟩
                rw [hs.out]
                go_wp2
                go_roundw
                case rel => exact ⟨i + 1, by omega, hN.out, by simp, g.trans g1⟩
                case measure => simp [intOf]; omega
              · have hs : strongB n b = false := by simpa using hs
                have hB := Lib.hid (isB_weak hA.out hbm hs)
                have hs := Lib.hid hs
                clear hT
                go_wp2_with fail
                refine (passes_dr n b _ h3 h2).mono ?_; rintro e w1 ⟨rfl, g1⟩
                rw [hs.out]
                go_wp2
                go_ret
                exact ⟨ret_bool hB.out.symm, g.trans g1⟩
            · obtain rfl : i = 12 := by omega
              have hB := Lib.hid (isB_strong h1 h2 hA.out hT.all)
              clear hT
              go_wp2
              go_ret
              exact ⟨ret_bool hB.out.symm, g⟩
    · have hB := Lib.hid (isB_out (n := n) (by omega))
      have h1' : ¬ n < 2 := by omega
      have h2' : 4611686018427387904 < n := by omega
      go_enter Tryd.func11, Tryd.ntmps11
      go_wp2
      go_ret
      exact ⟨ret_bool hB.out.symm, Dr.refl _⟩
  · have hB := Lib.hid (isB_out (n := n) (by omega))
    have h1' : n < 2 := by omega
    go_enter Tryd.func11, Tryd.ntmps11
    go_wp2
    go_ret
    exact ⟨ret_bool hB.out.symm, Dr.refl _⟩
theorem is_any (n : Int) (w : World) (hb : Bases w) :
    Calls Tryd.prog 11 #[.int .i64 n] w fun e w' => e = .returned (.bool (isB n)) ∧ Bel w w' :=
  (is_dr n w hb).mono fun _ _ ⟨h, g⟩ => ⟨h, g.bel⟩

end Go.Proofs.YtcglffigbdglpaaDoor

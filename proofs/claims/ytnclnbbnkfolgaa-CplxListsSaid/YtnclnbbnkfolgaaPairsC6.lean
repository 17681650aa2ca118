/- The landed Pairs: two lists of floats as a list of numbers. -/
import Derived.Test.YtnclnbbnkfolgaaPairR6
import Derived.Deep.DeepCutAuto
namespace Go.Proofs.Ytnclnbbnkfolgaa
open Go.RowKit

/-- Pairs of lists of two lengths -/
theorem pairs_no (v v' : Value) (l l' : List Nat) (base base' : Nat) (w : World) (h : FRow6 w v l base) (h' : FRow6 w v' l' base') (hne : l.length ≠ l'.length) :
    Calls Try.prog 22 #[v, v'] w fun r w' => r = .returned (.tuple #[.slice none 0 0, .int .i64 4]) ∧ w = w' := by
  have hv : ∃ p c, v = .slice p l.length c := by
    rcases h.form with ⟨rfl, rfl⟩ | ⟨g, cap, rfl, _⟩
    · exact ⟨_, _, rfl⟩
    · exact ⟨_, _, rfl⟩
  have hv' : ∃ p c, v' = .slice p l'.length c := by
    rcases h'.form with ⟨rfl, rfl⟩ | ⟨g, cap, rfl, _⟩
    · exact ⟨_, _, rfl⟩
    · exact ⟨_, _, rfl⟩
  obtain ⟨p, c, rfl⟩ := hv
  obtain ⟨p', c', rfl⟩ := hv'
  clear h h'
  generalize l.length = n at *
  generalize l'.length = n' at *
  have t1 : ((n : Int) != (n' : Int)) = true := by rw [bne_iff_ne]; omega
  go_enter Try.func22, Try.ntmps22
  go_wp2
  refine bodyPost_ret (by simp [results, go_sem]; try rfl) rfl ?_
  exact ⟨rfl, rfl⟩
theorem zip_at {l l' : List Nat} {j : Nat} (h : j < l.length) (h' : j < l'.length) : (l.zip l')[j]? = some (l.getD j 0, l'.getD j 0) := by
  rw [List.getD_eq_getElem?_getD, List.getD_eq_getElem?_getD, List.getElem?_eq_getElem h, List.getElem?_eq_getElem h', List.getElem?_eq_getElem (by rw [List.length_zip]; omega), List.getElem_zip]
  rfl
theorem CRow6.empty (w : World) (g base : Nat) (hb : base ≤ g) (hg : g < w.heap.size) : CRow6 w (.slice (some ⟨g, 0, none⟩) 0 0) [] base :=
  ⟨Or.inr ⟨g, 0, rfl, hb, hg, Nat.le_refl _, Nat.zero_le _, fun i x hx => by simp at hx⟩⟩
/-- lists without an element, one of them nil -/
theorem pairs_none (v v' : Value) (w : World) (hv : ∃ p c, v = .slice p 0 c) (hv' : ∃ p c, v' = .slice p 0 c) :
    Calls Try.prog 22 #[v, v'] w fun r w' => ∃ L, r = .returned (.tuple #[.slice (some ⟨L, 0, none⟩) 0 0, .int .i64 0]) ∧ w.heap.size ≤ L ∧ L < w'.heap.size ∧ Bel w w' := by
  obtain ⟨p, c, rfl⟩ := hv
  obtain ⟨p', c', rfl⟩ := hv'
  have hm : ∀ w, (Instr.makeSlice 38 (.int .i64 0) (.int .i64 0)).run Try.prog w = .ok (.slice (some ⟨w.heap.size, 0, none⟩) 0 0) (w.alloc (.cells (madeCells #[.float .f64 0, .float .f64 0] 0) 25)) := make_c 0 (by decide)
  go_enter Try.func22, Try.ntmps22
  go_wp2
  go_loop [18] (fun a => a = .int .i64 0) (fun _ => 0)
  case atStart => rfl
  case round =>
    obtain rfl := hrel
    go_wp2
    refine bodyPost_ret (by simp [results, go_sem]; try rfl) rfl ?_
    exact ⟨_, rfl, Nat.le_refl _, by simp, (Bel.refl _).alloc _⟩
set_option maxHeartbeats 2000000 in
theorem pairs_run (v v' : Value) (l l' : List Nat) (base : Nat) (w : World) (hR : FRow6 w v l base) (hR' : FRow6 w v' l' base) (hlen : l.length = l'.length) (hn : l.length * 16 ≤ 281474976710656) :
    Calls Try.prog 22 #[v, v'] w fun r w' => ∃ L, r = .returned (.tuple #[.slice (some ⟨L, 0, none⟩) l.length l.length, .int .i64 0]) ∧ w.heap.size ≤ L ∧ L < w'.heap.size ∧ CArr w' L l.length (fun j => (l.getD j 0, l'.getD j 0)) ∧ Bel w w' := by
  have hn0 : ∀ (v : Value) (l : List Nat) (base : Nat), FRow6 w v l base → l.length = 0 → ∃ p c, v = .slice p 0 c := by
    intro v l base h h0
    rcases h.form with ⟨rfl, rfl⟩ | ⟨g, cap, rfl, _⟩
    · exact ⟨_, _, rfl⟩
    · rw [h0]; exact ⟨_, _, rfl⟩
  by_cases h0 : l.length = 0
  · rw [h0]
    exact (pairs_none v v' w (hn0 v l _ hR h0) (hn0 v' l' _ hR' (by omega))).mono fun r w' ⟨L, e1, e2, e3, e4⟩ => ⟨L, e1, e2, e3, ⟨fun j hj => absurd hj (by omega), fun j hj => absurd hj (by omega), fun j hj => absurd hj (by omega), fun j hj => absurd hj (by omega)⟩, e4⟩
  clear hn0
  rcases hR.form with ⟨rfl, rfl⟩ | ⟨g, cap, rfl, hg0, hg, hcap, hmax, _⟩
  · exact absurd rfl h0
  · rcases hR'.form with ⟨rfl, rfl⟩ | ⟨g', cap', rfl, hg0', hg', hcap', hmax', _⟩
    · exact absurd hlen h0
    · obtain ⟨_, _, _, tF⟩ := hR.arr
      obtain ⟨_, _, _, tE⟩ := hR'.arr
      obtain ⟨n, hnn⟩ : ∃ n, n = l.length := ⟨_, rfl⟩
      have hnn' : l'.length = n := by omega
      rw [hnn'] at tE
      rw [← hnn] at tF
      rw [hnn', ← hnn]
      rw [← hnn] at hn hmax
      have hm := make_c n hn
      have h63 : (n : Int) ≤ 9223372036854775807 := by omega
      obtain ⟨F, hF⟩ : ∃ F : Nat → Nat, F = fun j => l.getD j 0 := ⟨_, rfl⟩
      obtain ⟨E, hE⟩ : ∃ E : Nat → Nat, E = fun j => l'.getD j 0 := ⟨_, rfl⟩
      have hz2 : (fun j => (l.getD j 0, l'.getD j 0)) = fun j => (F j, E j) := by rw [hF, hE]
      rw [hz2]
      rw [← hF] at tF
      rw [← hE] at tE
      clear h0 hR hR' hz2 hF hE hnn hnn' hlen
      go_enter Try.func22, Try.ntmps22
      go_wp2
      obtain ⟨L, hL⟩ : ∃ L, L = w.heap.size := ⟨_, rfl⟩
      have tL := CArr.made w n 25 L hL
      obtain ⟨w1, hw1⟩ : ∃ w1, w1 = w.alloc (.cells (madeCells #[.float .f64 0, .float .f64 0] (n * 2)) 25) := ⟨_, rfl⟩
      have b1 : Bel w w1 := by rw [hw1]; exact (Bel.refl _).alloc _
      have sL : L < w1.heap.size := by rw [hw1, hL]; simp
      rw [← hw1] at tL ⊢
      rw [← hL]
      have hgL : g < L := by omega
      have hgL' : g' < L := by omega
      have hL1 : w.heap.size ≤ L := by omega
      go_loopw [7, 18] (fun _ a wr => ∃ (i : Nat) (C : Nat → Nat × Nat), i ≤ n ∧ a = .int .i64 (i : Int) ∧ CArr wr L n C ∧ (∀ j, j < i → C j = (F j, E j)) ∧ Bel w wr ∧ L < wr.heap.size) (fun _ a _ => n - (intOf a).toNat)
      case atStart => exact ⟨0, _, by omega, rfl, tL, fun j hj => absurd hj (by omega), b1, sL⟩
      case round =>
        obtain ⟨i, C, hi, rfl, hC, hall, hB, hsL⟩ := hrel
        clear tL b1 sL hw1 hL
        by_cases hlt : i < n
        · clear hm
          go_upto_region 7 with fail
          refine pairs_reg _ g g' L n cap cap' n i F E ⟨_, rfl, rfl, rfl, rfl⟩ ⟨_, rfl, rfl, rfl, rfl⟩ ⟨_, rfl, rfl, rfl, rfl⟩ ⟨_, rfl, rfl, rfl, rfl⟩ ⟨_, rfl, rfl, rfl, rfl⟩ ⟨_, rfl, rfl, rfl, rfl⟩ ⟨_, rfl, rfl, rfl, rfl⟩ ⟨_, rfl, rfl, rfl, rfl⟩ ⟨_, rfl, rfl, rfl, rfl⟩ ⟨_, rfl, rfl, rfl, rfl⟩ ⟨_, rfl, rfl, rfl, rfl⟩ ⟨_, rfl, rfl, rfl, rfl⟩ ⟨_, rfl, rfl, rfl, rfl⟩ rfl (by decide +kernel) rfl rfl rfl rfl rfl hlt (tF.bel hB hg) (Nat.lt_of_lt_of_le hg hB.size) (tE.bel hB hg') (Nat.lt_of_lt_of_le hg' hB.size) ?_
          intro f w2 g1 q1 q2 o o1 o2 o3 o4
          refine wpOp_go o1 o4 (step_storeCat (d := none) o2 o3 q1 q2 (hC.bel g1 hsL) hlt ?_)
          have hC2 := (hC.bel g1 hsL).set hlt (F i) (E i)
          have B2 : Bel w ((w2.setCell ⟨L, i * 2, none⟩ (.float .f64 (F i))).setCell ⟨L, i * 2 + 1, none⟩ (.float .f64 (E i))) := ((hB.trans g1).setCell (p := ⟨L, i * 2, none⟩) hL1 _).setCell (p := ⟨L, i * 2 + 1, none⟩) hL1 _
          have s2 : L < ((w2.setCell ⟨L, i * 2, none⟩ (.float .f64 (F i))).setCell ⟨L, i * 2 + 1, none⟩ (.float .f64 (E i))).heap.size := by
            have := g1.size
            simp; omega
          have hall2 : ∀ j, j < i + 1 → (fun j => if j = i then (F i, E i) else C j) j = (F j, E j) := by
            intro j hj
            show (if j = i then (F i, E i) else C j) = _
            by_cases e : j = i
            · rw [if_pos e, e]
            · rw [if_neg e]; exact hall j (by omega)
          clear q1 q2 o1 o2 o3 o4 hC hall hB hsL g1 tF tE
          unfold actOf
          simp only [List.mapIdx_toArray, List.mapIdx_cons, List.mapIdx_nil, List.mem_cons, List.mem_nil_iff, Nat.reduceEqDiff, Nat.reduceAdd, or_false, or_true, if_true, if_false]
          go_wp2
          go_roundw
          case rel => exact ⟨i + 1, _, by omega, (by first | rfl | simp), hC2, hall2, B2, s2⟩
          case measure => simp [intOf]; omega
        · obtain rfl : i = n := by omega
          have R : CArr wr L i (fun j => (F j, E j)) := hC.congr hall
          clear hall hC
          go_wp2
          refine bodyPost_ret (by simp [results, go_sem]; try rfl) rfl ?_
          exact ⟨_, rfl, hL1, hsL, R, hB⟩
theorem pairs_said6 : PairsSaid6 := by
  intro v v' l l' base w hR hR' hlen hn
  refine (pairs_run v v' l l' base w hR hR' hlen hn).mono ?_
  rintro _ w' ⟨L, rfl, h1, h2, h3, h4⟩
  have hm : l.length ≤ maxLen := by unfold maxLen; omega
  exact ⟨_, rfl, h3.row (by rw [List.length_zip]; omega) (fun j hj => zip_at (by omega) (by omega)) h1 h2 hm, h4⟩
end Go.Proofs.Ytnclnbbnkfolgaa

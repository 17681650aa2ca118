/- CplxGuards' whole walk, of a slice that holds something. -/
import Derived.Test.YtnclnbbnkfolgaaList6
import Derived.Test.YtnclnbbnkfolgaaMay6
import Derived.Test.YtnclnbbnkfolgaaKeepA
namespace Go.Proofs.Ytnclnbbnkfolgaa
open Go.RowKit
set_option linter.unusedVariables false

def nums6 (zs : List (Int × Int)) : List (Nat × Nat) := zs.map fun z => (wd z.1, wd z.2)
theorem nums6_w (zs : List (Int × Int)) : ∀ c ∈ nums6 zs, W64 c.1 ∧ W64 c.2 := by
  intro c hc
  obtain ⟨z, _, rfl⟩ := List.mem_map.1 hc
  exact ⟨wd_lt _, wd_lt _⟩
theorem nums6_take {zs : List (Int × Int)} {j : Nat} {z : Int × Int} (h : zs[j]? = some z) : nums6 (zs.take (j + 1)) = nums6 (zs.take j) ++ [(wd z.1, wd z.2)] := by
  unfold nums6
  rw [List.take_add_one, h]
  simp
theorem nums6_len {zs : List (Int × Int)} {j : Nat} (h : j ≤ zs.length) : (nums6 (zs.take j)).length = j := by
  unfold nums6
  rw [List.length_map, List.length_take]; omega
set_option maxHeartbeats 4000000 in
theorem guards6 (hwk : WakesSaid6) (hG : GuardSaid6) (b off cap : Nat) (zs : List (Int × Int)) (w : World) (h0 : 0 < zs.length) (hc : zs.length ≤ cap) (hn : zs.length * 16 ≤ 140737488351232) (hb : b < w.heap.size) (hcell : ∀ (i : Nat) z, zs[i]? = some z → w.cell? ⟨b, off + i * 2, none⟩ = some (.int .i64 z.1) ∧ w.cell? ⟨b, off + i * 2 + 1, none⟩ = some (.int .i64 z.2)) :
    Calls Try.prog 6 #[.slice (some ⟨b, off, none⟩) zs.length cap] w fun e w' => e = .returned (.bool true) ∧ Bel w w' := by
  obtain ⟨i0, hi, hz0, hz1, hz2⟩ := info_parts cplx_info
  have sf := run_store_float Try.prog
  go_enter Try.func6, Try.ntmps6
  go_wp2
  go_loopw [3, 4, 5, 6, 7, 8, 13] (fun x wt er _ _ _ i wr => ∃ (j : Nat), j ≤ zs.length ∧ i = .int .i64 (j : Int) ∧ wr.ownsRow w.heap.size 25 2 x j (cc6 (nums6 (zs.take j))) ∧ wt = .int .i64 (gAt6 (nums6 (zs.take j))) ∧ er = .int .i64 (gErr6 (nums6 (zs.take j))) ∧ Bel w wr) (fun _ _ _ _ _ _ i _ => zs.length - (intOf i).toNat)
  case atStart => exact ⟨0, by omega, by simp, ⟨by simp [nums6, cc6], Or.inl ⟨rfl, rfl⟩⟩, rfl, rfl, Bel.refl _⟩
  case round =>
    obtain ⟨j, hj, rfl, hown, rfl, rfl, hB⟩ := hrel
    by_cases hlt : j < zs.length
    · obtain ⟨z, hz⟩ : ∃ z, zs[j]? = some z := ⟨_, List.getElem?_eq_getElem (by omega)⟩
      obtain ⟨p, q⟩ := z
      have hc0 := (hB.cell (p := ⟨b, off + j * 2, none⟩) hb).trans (hcell j _ hz).1
      have hc1 := (hB.cell (p := ⟨b, off + j * 2 + 1, none⟩) hb).trans (hcell j _ hz).2
      have hbr : b < wr.heap.size := Nat.lt_of_lt_of_le hb hB.size
      have hnum := fun w => number_any p q w
      have hm1 := fun w => may_any (wd p) w (wd_lt p)
      have hm2 := fun w => may_any (wd q) w (wd_lt q)
      have hstep := g6_step (nums6 (zs.take j)) (wd p, wd q)
      have htk := nums6_take hz
      rw [nums6_len hj] at hstep
      simp only at htk
      rw [← htk] at hstep
      have hcc : cc6 (nums6 (zs.take j)) ++ [.float .f64 (wd p), .float .f64 (wd q)] = cc6 (nums6 (zs.take (j + 1))) := by rw [htk, cc6_append]
      have hccH := Lib.hid hcc
      obtain ⟨L, hL⟩ : ∃ L, L = cc6 (nums6 (zs.take j)) := ⟨_, rfl⟩
      rw [← hL] at hown hccH
      obtain ⟨ga, hga⟩ : ∃ ga, ga = gAt6 (nums6 (zs.take j)) := ⟨_, rfl⟩
      obtain ⟨ge, hge⟩ : ∃ ge, ge = gErr6 (nums6 (zs.take j)) := ⟨_, rfl⟩
      rw [← hga, ← hge] at hstep ⊢
      obtain ⟨x, hx⟩ : ∃ x, x = wd p := ⟨_, rfl⟩
      obtain ⟨y, hy⟩ : ∃ y, y = wd q := ⟨_, rfl⟩
      unfold bad6 at hstep
      rw [← hx, ← hy] at hstep hccH hnum
      rw [← hx] at hm1
      rw [← hy] at hm2
      have hstepH := Lib.hid hstep
      clear hcell hz hL hga hge hx hy hcc hstep htk
      go_wp2_with fail
      refine (hnum _).mono ?_; rintro r w1 ⟨rfl, g1⟩
      have g0 : Bel wr w1 := ((Bel.refl wr).alloc _).trans g1
      have hown1 := ownsRow_bel hown g0
      have hb1 := hB.trans g0
      clear hown hnum hc0 hc1 hB g0 g1
      go_wp2_with (at_builtin; refine wpList_append_own _ rfl _ _ 38 rfl w.heap.size 25 i0 (.agg #[.float .f64 0, .float .f64 0]) 2 16 Try.underlying38 hi hz0 hz1 hz2 rfl (by decide) _ _ _ rfl ((hown1.alloc _).alloc _) ⟨w1.heap.size + 1, 0, none⟩ 1 1 [.float .f64 x, .float .f64 y] rfl rfl ?c1 ?c2 ?c3 ?c4 ?c5 ?_)
      case c1 =>
        intro k u hu
        match k, hu with
        | 0, hu => simp at hu; subst hu; simp [Addr.add]
        | 1, hu => simp at hu; subst hu; simp [Addr.add]
        | k + 2, hu => simp at hu
      case c2 => intro u hu; simp at hu; rcases hu with rfl | rfl <;> rfl
      case c3 => unfold maxLen; omega
      case c4 => omega
      case c5 => have := hb1.size; simp; omega
      intro v' w2 hown2 hgrow _
      have tc := two_grown hown1 hgrow
      have hb2 := (((hb1.alloc _).alloc _).grown hgrow (ownsRow_block hown1))
      rw [hccH.out] at hown2
      obtain ⟨C, hC⟩ : ∃ C, C = w1.heap.size := ⟨_, rfl⟩
      rw [← hC] at tc ⊢
      have t0 := tc.c0
      have t1 := tc.c1
      have hst := hstepH.out
      clear hown1 hb1 hgrow tc hC hccH hstepH hbr hi hz0 hz1 hz2
      rcases hst with ⟨e0, eb, e1, e2⟩ | ⟨e0, eb, e1, e2⟩ | ⟨e0, e1, e2⟩ <;> subst e0 <;> replace e1 := Lib.hid e1 <;> replace e2 := Lib.hid e2
      · cases hx : may6 x with
        | false =>
          rw [hx] at hm1
          clear eb hx
          go_wp2_with fail
          refine (hm1 _).mono ?_; rintro r w3 ⟨rfl, rfl⟩
          go_wp2
          go_roundw
          case rel => exact ⟨j + 1, by omega, (by first | rfl | simp), hown2, by rw [e1.out], by rw [e2.out], hb2⟩
          case measure => simp [intOf]; omega
        | true =>
          obtain hy : may6 y = false := by rw [hx] at eb; simpa using eb
          rw [hx] at hm1
          rw [hy] at hm2
          clear eb hx hy
          go_wp2_with fail
          refine (hm1 _).mono ?_; rintro r w3 ⟨rfl, rfl⟩
          go_wp2_with fail
          refine (hm2 _).mono ?_; rintro r w3 ⟨rfl, rfl⟩
          go_wp2
          go_roundw
          case rel => exact ⟨j + 1, by omega, (by first | rfl | simp), hown2, by rw [e1.out], by rw [e2.out], hb2⟩
          case measure => simp [intOf]; omega
      · obtain ⟨hx, hy⟩ : may6 x = true ∧ may6 y = true := by simpa using eb
        rw [hx] at hm1
        rw [hy] at hm2
        clear eb hx hy
        go_wp2_with fail
        refine (hm1 _).mono ?_; rintro r w3 ⟨rfl, rfl⟩
        go_wp2_with fail
        refine (hm2 _).mono ?_; rintro r w3 ⟨rfl, rfl⟩
        go_wp2
        go_roundw
        case rel => exact ⟨j + 1, by omega, (by first | rfl | simp), hown2, by rw [e1.out], by rw [e2.out], hb2⟩
        case measure => simp [intOf]; omega
      · clear hm1 hm2
        go_wp2
        go_roundw
        case rel => exact ⟨j + 1, by omega, (by first | rfl | simp), hown2, by rw [e1.out], by rw [e2.out], hb2⟩
        case measure => simp [intOf]; omega
    · obtain rfl : j = zs.length := by omega
      have ht : zs.take zs.length = zs := List.take_length
      have hlen : (nums6 zs).length = zs.length := by unfold nums6; rw [List.length_map]
      rw [ht] at hown ⊢
      have hR := CRow6.of (l := nums6 zs) (by rw [hlen]; exact hown)
      have hGd := hG _ (nums6 zs) w.heap.size _ hR (nums6_w zs)
      have hB1 := fun w2 (g : Bel wr w2) => hB.trans g
      obtain ⟨ga, hga⟩ : ∃ ga, ga = gAt6 (nums6 zs) := ⟨_, rfl⟩
      obtain ⟨ge, hge⟩ : ∃ ge, ge = gErr6 (nums6 zs) := ⟨_, rfl⟩
      rw [← hga, ← hge] at hGd ⊢
      clear hga hge hR hcell ht hlen hown hi hz0 hz1 hz2 hB
      go_wp2_with fail
      refine hGd.mono ?_; rintro r w1 ⟨rfl, g1⟩
      go_wp2_with fail
      refine (hwk _).mono ?_; rintro r w2 ⟨rfl, g2⟩
      go_wp2
      go_ret
      exact ⟨ret_bool (by simp), hB1 _ (g1.trans g2)⟩
/-- of a slice that holds nothing -/
theorem guards6_nil (hwk : WakesSaid6) (hG : GuardSaid6) (p : Option Addr) (cap : Nat) (w : World) :
    Calls Try.prog 6 #[.slice p 0 cap] w fun e w' => e = .returned (.bool true) ∧ Bel w w' := by
  have hGd := fun w => hG (.slice none 0 0) [] 0 w ⟨Or.inl ⟨rfl, rfl⟩⟩ (by intro c hc; cases hc)
  have e1 : gAt6 [] = 0 := rfl
  have e2 : gErr6 [] = 0 := rfl
  rw [e1, e2] at hGd
  go_enter Try.func6, Try.ntmps6
  go_wp2
  go_loopw [3, 4, 5, 6, 7, 8, 13] (fun x wt er _ _ _ i wr => x = .slice none 0 0 ∧ wt = .int .i64 0 ∧ er = .int .i64 0 ∧ i = .int .i64 0 ∧ wr = w) (fun _ _ _ _ _ _ _ _ => 0)
  case atStart => exact ⟨rfl, rfl, rfl, rfl, rfl⟩
  case round =>
    obtain ⟨rfl, rfl, rfl, rfl, rfl⟩ := hrel
    go_wp2_with fail
    refine (hGd _).mono ?_; rintro r w1 ⟨rfl, g1⟩
    go_wp2_with fail
    refine (hwk _).mono ?_; rintro r w2 ⟨rfl, g2⟩
    go_wp2
    go_ret
    exact ⟨ret_bool (by simp), g1.trans g2⟩
end Go.Proofs.Ytnclnbbnkfolgaa

/- Of every list of floats of any bits, of which the first 50 are taken, the least power of two above it is what the document says.
   Conditions: none beyond the row's own. -/
import Derived.Test.YtknlpggbaahajaaWakes3
import Derived.Test.YtknlpggbaahajaaTopsL
import Derived.Test.YtknlpggbaahajaaRows
import Derived.WalkKit
import Derived.ProofKit
import Derived.OpenShut
import Derived.ShutString
import Derived.Lib.SmallJoins
import Derived.Test.YtknlpggbaahajaaKeep
namespace Go.Proofs.Ytknlpggbaahajaa.eftTops
open Go.ChangeShapes Go.WideShapes Go.ChangeAt Go.RowKit Go.Proofs.Ytknlpggbaahajaa
set_option linter.unusedVariables false

theorem own : ownKnob Try.prog.godebug = none := by kernel_rfl

/-- the statement's end, once the list is built -/
theorem walk_nil (v : Value) (zs : List Int) (w : World) (hz : zs = []) (hv : v = .slice none 0 0 ∨ ∃ a cap, v = .slice (some a) 0 cap) :
    Calls Try.prog 7 #[v] w fun e w' => e = .returned (.bool true) ∧ Bel w w' := by
  have hR : FRow w (.slice none 0 0) [] := ⟨Or.inl ⟨rfl, rfl⟩⟩
  have h1 := fun w => top_any (.slice none 0 0) [] w ⟨Or.inl ⟨rfl, rfl⟩⟩ (fun x hx => by cases hx)
  have h2 := fun w => reftop_any (.slice none 0 0) [] w ⟨Or.inl ⟨rfl, rfl⟩⟩ (fun x hx => by cases hx)
  rcases hv with rfl | ⟨a, cap, rfl⟩
  · go_enter Try.func7, Try.ntmps7
    go_wp2
    go_loop [3, 5, 16] (fun a _ b => a = .slice none 0 0 ∧ b = .int .i64 0) (fun _ _ _ => 0)
    case atStart => exact ⟨rfl, rfl⟩
    case round =>
      obtain ⟨rfl, rfl⟩ := hrel
      go_wp2_with fail
      refine (h1 _).mono ?_; rintro r w1 ⟨t1, rfl⟩
      obtain ⟨_, k, b, rfl⟩ := top_agree t1 t1
      go_wp2_with fail
      refine (h2 _).mono ?_; rintro r w1 ⟨t2, rfl⟩
      obtain ⟨rfl, _⟩ := top_agree t2 t1
      go_wp2_with fail
      refine (wakes_any _).mono ?_; rintro r w1 ⟨rfl, g1⟩
      go_wp2
      go_ret
      exact ⟨ret_bool (by simp), g1⟩
  · go_enter Try.func7, Try.ntmps7
    go_wp2
    go_loop [3, 5, 16] (fun a _ b => a = .slice none 0 0 ∧ b = .int .i64 0) (fun _ _ _ => 0)
    case atStart => exact ⟨rfl, rfl⟩
    case round =>
      obtain ⟨rfl, rfl⟩ := hrel
      go_wp2_with fail
      refine (h1 _).mono ?_; rintro r w1 ⟨t1, rfl⟩
      obtain ⟨_, k, b, rfl⟩ := top_agree t1 t1
      go_wp2_with fail
      refine (h2 _).mono ?_; rintro r w1 ⟨t2, rfl⟩
      obtain ⟨rfl, _⟩ := top_agree t2 t1
      go_wp2_with fail
      refine (wakes_any _).mono ?_; rintro r w1 ⟨rfl, g1⟩
      go_wp2
      go_ret
      exact ⟨ret_bool (by simp), g1⟩

set_option maxHeartbeats 2000000 in
theorem walk_some (b off cap : Nat) (zs : List Int) (w : World) (h0 : 0 < zs.length) (hc : zs.length ≤ cap) (hm : cap ≤ 9223372036854775807) (hb : b < w.heap.size) (hcell : ∀ (i : Nat) z, zs[i]? = some z → w.cell? ⟨b, off + i, none⟩ = some (.int .i64 z)) :
    Calls Try.prog 7 #[.slice (some ⟨b, off, none⟩) zs.length cap] w fun e w' => e = .returned (.bool true) ∧ Bel w w' := by
  obtain ⟨i0, hi, hz0, hz1, hz2⟩ := info_parts float_info
  obtain ⟨m, hmm⟩ : ∃ m : Nat, (m : Int) = (if (50 : Int) < (zs.length : Int) then 50 else (zs.length : Int)) := by
    by_cases c : (50 : Int) < (zs.length : Int)
    · exact ⟨50, by rw [if_pos c]; rfl⟩
    · exact ⟨zs.length, by rw [if_neg c]⟩
  have hm50 : m ≤ 50 ∧ m ≤ zs.length := by split at hmm <;> omega
  obtain ⟨m1, m2⟩ := hm50
  have hmin := hmm.symm
  clear hmm
  go_enter Try.func7, Try.ntmps7
  go_wp2
  go_loopw [3, 5, 16] (fun x _ i wr => ∃ (j : Nat), j ≤ m ∧ i = .int .i64 (j : Int) ∧ wr.ownsRow w.heap.size 22 1 x j (((zs.take j).map flw).map (Value.float .f64)) ∧ Bel w wr) (fun _ _ i _ => m - (intOf i).toNat)
  case atStart => exact ⟨0, by omega, by simp, ⟨by simp, Or.inl ⟨rfl, rfl⟩⟩, Bel.refl _⟩
  case round =>
    obtain ⟨j, hj, rfl, hown, hB⟩ := hrel
    by_cases hlt : j < m
    · obtain ⟨z, hz⟩ : ∃ z, zs[j]? = some z := ⟨_, List.getElem?_eq_getElem (by omega)⟩
      have hcj := (hB.cell (p := ⟨b, off + j, none⟩) hb).trans (hcell j z hz)
      have hf := fun w => float_any z w
      have hnext : (((zs.take j).map flw).map (Value.float .f64)) ++ [Value.float .f64 (IntKind.u64.wrap z).toNat] = ((zs.take (j + 1)).map flw).map (Value.float .f64) := by
        rw [List.take_add_one, hz]
        simp [flw]
      have hnextH := Lib.hid hnext
      obtain ⟨L, hL⟩ : ∃ L, L = ((zs.take j).map flw).map (Value.float .f64) := ⟨_, rfl⟩
      rw [← hL] at hown hnextH
      obtain ⟨u, hu⟩ : ∃ u, u = (IntKind.u64.wrap z).toNat := ⟨_, rfl⟩
      rw [← hu] at hf hnextH
      clear hcell hz hL hu hnext
      go_wp2_with fail
      refine (hf _).mono ?_; rintro r w1 ⟨rfl, _, rfl⟩
      have hsz := hB.size
      go_wp2_with (at_builtin; refine wpList_append_own _ rfl _ _ 39 rfl w.heap.size 22 i0 (.float .f64 0) 1 8 Try.underlying39 hi hz0 hz1 hz2 rfl (by decide) _ _ _ rfl (hown.alloc _) ⟨wr.heap.size, 0, none⟩ 1 1 [.float .f64 u] rfl rfl ?c1 ?c2 ?c3 ?c4 ?c5 ?_)
      case c1 =>
        intro i x hi
        match i, hi with
        | 0, hi => simp at hi; subst hi; simp [Addr.add]
        | i + 1, hi => simp at hi
      case c2 => intro x hx; simp at hx; subst hx; rfl
      case c3 => unfold maxLen; omega
      case c4 => omega
      case c5 => simp; omega
      intro v' w2 hown2 hgrow _
      have hb2 := ((hB.alloc _).grown hgrow (ownsRow_block hown))
      rw [hnextH.out] at hown2
      clear hown hB
      go_wp2
      go_roundw
      case rel => exact ⟨j + 1, by omega, by simp, hown2, hb2⟩
      case measure => simp [intOf]; omega
    · have hjm : j = m := by omega
      subst hjm
      obtain ⟨l, hl⟩ : ∃ l, l = (zs.take j).map flw := ⟨_, rfl⟩
      have hlen : l.length = j := by rw [hl, List.length_map, List.length_take]; omega
      have hl64 : ∀ x ∈ l, x < 18446744073709551616 := by
        intro x hx
        rw [hl] at hx
        obtain ⟨z, _, rfl⟩ := List.mem_map.1 hx
        exact flw_lt z
      rw [← hl, ← hlen] at hown
      have hR := FRow.of hown
      have h1 := fun v => top_any v l wr
      have h2 := fun v => reftop_any v l wr
      clear hl hlen hown hcell
      go_wp2_with fail
      refine (h1 _ hR hl64).mono ?_; rintro r w1 ⟨t1, rfl⟩
      obtain ⟨_, k, bb, rfl⟩ := top_agree t1 t1
      go_wp2_with fail
      refine (h2 _ hR hl64).mono ?_; rintro r w1 ⟨t2, rfl⟩
      obtain ⟨rfl, _⟩ := top_agree t2 t1
      go_wp2_with fail
      refine (wakes_any _).mono ?_; rintro r w1 ⟨rfl, g1⟩
      go_wp2
      go_ret
      exact ⟨ret_bool (by simp), hB.trans g1⟩

theorem walk (v0 : Value) (z0 : List Int) (w0 : ∀ z ∈ z0, (Lit.int .i64 z).wf = true) (w : World) (hv : IRow w v0 z0) :
    Calls Try.prog 7 #[v0] w fun e w' => e = .returned (.bool true) ∧ Bel w w' := by
  match v0, z0, hv with
  | _, _, .nil => exact walk_nil _ [] w rfl (Or.inl rfl)
  | _, _, .none a cap => exact walk_nil _ [] w rfl (Or.inr ⟨a, cap, rfl⟩)
  | _, zs, .some b off cap _ h0 hc hm hb hcell => exact walk_some b off cap zs w h0 hc (Nat.le_trans hm (by decide)) hb hcell

set_option maxRecDepth 100000 in
theorem lifted (os : Os) (started : os.Started) (H : Type) (enc : TypeId × Value → H) :
    ReturnsInHanded {} Try.checked os 7 .any (Rows.eftTopsSpec.pre6 enc Try.prog Try.f7 Rows.eftTopsRow.domain false) (Rows.eftTopsSpec.post enc Try.prog Try.f7 false true false false) := by
  refine returnsInHanded_of_change (C := Try.checked) own started (by kernel_rfl) Try.func7
    (ChangeSpec.witness6 (enc := enc) (C := Try.checked) false ⟨#[], #[.slice none 0 0], []⟩ 8 (by kernel_rfl) (by kernel_rfl) (by kernel_rfl) (by kernel_rfl)) ?_
  intro W base args ds gs before hval0 hW hcnd _
  have hval : ∀ (j : Nat) t v, Try.f7.params[j]? = some t → args[j]? = some v → Value.okWide Try.prog W .any base t v := hval0
  have hW' := hW
  obtain ⟨p, q, hA0, hV, rfl, hfz, hnd⟩ := hW
  have hA : DataW.TrodAll enc Try.prog W 0 (fun _ => true) true Try.f7.params.toList args.toList ds p := hA0
  have hlt : ∀ x ∈ p, x.block < W.heap.size := DataW.TrodAll.lt hA
  have hK := hA
  rw [Try.params7] at hA hval
  obtain ⟨v0, vs0, d0, ds0, p0, q0, hargs, rfl, rfl, h0, r0⟩ := trodAll_cons hA
  obtain ⟨rfl, rfl, rfl⟩ := trodAll_nil r0
  have hKW := fun (W2 : World) (hb : Bel W W2) (sp : Nat → Bool) => trodAll_keep (sp := sp) (by kernel_rfl) hb (by kernel_rfl) hK hlt
  clear hK hlt
  obtain rfl : args = #[v0] := by cases args; simp_all
  obtain ⟨rfl, rfl⟩ := trodVars_none hV
  obtain ⟨z0, hv0, w0⟩ := open_irow Try.underlying38 Try.underlying2 (by kernel_rfl) (hval 0 38 v0 rfl rfl) h0
  clear hA0 hval0
  refine (walk v0 z0 w0 W hv0).mono fun e W' ⟨he, hg⟩ => ?_
  subst he
  exact ⟨_, rfl, post_of_bel (pv := []) hW' (fun _ _ _ => (trodAll_cons_mk (shut_bool Try.underlying4 _) trodAll_mk0)) (fun sp hsp => hKW W' hg sp fun x hx => hsp x (List.mem_append_left _ hx)) (fun _ _ => rfl) rfl
    hg (ok_one (by kernel_rfl) rfl (okWide_bool_mk Try.underlying4 _))⟩

theorem over : Rows.eftTopsRow.holds Try.pinned (OpenSpec.ofChange Rows.eftTopsSpec) :=
  OpenClaim.holds_of_wide 7 Try.f7 rfl rfl rfl rfl rfl rfl rfl ⟨rfl, rfl, rfl, rfl, rfl⟩ rfl rfl rfl rfl rfl (by kernel_rfl) Try.func7 (by kernel_rfl)
    (of_decide_eq_true (by kernel_rfl)) (by unfold Func.isWrapper; first | (rw [if_pos (by decide +kernel)]; kernel_rfl) | (rw [if_neg (by decide +kernel)]; exact ⟨rfl, rfl⟩))
    (fun os started H enc _ => lifted os started H enc)

/-- the statement -/
theorem proved : Rows.EftTopsSaid :=
  over
#print axioms proved
end Go.Proofs.Ytknlpggbaahajaa.eftTops

/- A slice of pairs of integers that came in; how much a slice that came in can hold. -/
import Derived.Test.YtnclnbbnkfolgaaKeep
import Derived.Test.YtnclnbbnkfolgaaArr
import Derived.SizedLaws
namespace Go.Proofs.Ytnclnbbnkfolgaa
open Go.RowKit Go.ChangeShapes Go.WideShapes Go.ChangeAt

/-- a slice of pairs of integers as a call reads it -/
inductive PRow (w : World) : Value → List (Int × Int) → Prop
  | nil : PRow w (.slice none 0 0) []
  | none (a : Addr) (cap : Nat) : PRow w (.slice (some a) 0 cap) []
  | some (b off cap : Nat) (zs : List (Int × Int)) (h0 : 0 < zs.length) (hc : zs.length ≤ cap) (hm : cap ≤ maxLen) (hb : b < w.heap.size) (hcell : ∀ (i : Nat) z, zs[i]? = Option.some z → w.cell? ⟨b, off + i * 2, Option.none⟩ = Option.some (.int .i64 z.1) ∧ w.cell? ⟨b, off + i * 2 + 1, Option.none⟩ = Option.some (.int .i64 z.2)) : PRow w (.slice (Option.some ⟨b, off, Option.none⟩) zs.length cap) zs
theorem cells_two {w : World} {base : Nat} {a : Addr} {cs : List Value} (h : w.cells? base a 2 = some cs) : ∃ x y, cs = [x, y] ∧ w.cell? a = some x ∧ w.cell? (a.add 1) = some y := by
  unfold World.cells? at h
  split at h
  · have e : List.range 2 = [0, 1] := rfl
    have e0 : a.add 0 = a := by cases a; rfl
    rw [e] at h
    simp only [List.mapM_cons, List.mapM_nil, e0, Option.bind_eq_bind, Option.bind_eq_some_iff] at h
    obtain ⟨x, hx, ys, ⟨y, hy, _, hn, hz⟩, hcs⟩ := h
    cases hn
    cases hz
    cases hcs
    exact ⟨x, y, rfl, hx, hy⟩
  · cases h
theorem open_prow {H : Type} {enc : TypeId × Value → H} {P : Program} {w : World} {t e e' : TypeId} {v : Value} {d : DataW H} {ps : List MemPlace} {r : Reach} {b0 : Nat} (ht : P.underlying t = some (.slice e)) (he : P.underlying e = some (.array 2 e')) (he' : P.underlying e' = some (.int .i64)) (hc : P.cellsOf e = 2) (hc' : P.cellsOf e' = 1)
    (hval : Value.okWide P w r b0 t v) (h : DataW.Trod enc P w 0 (fun _ => true) true t v d ps) : ∃ zs, PRow w v zs := by
  obtain ⟨a0, len, cap, rfl⟩ := okWide_slice ht hval
  obtain ⟨fuel, hf⟩ := h
  rcases DataW.trod_slice ht hf with ⟨hcs, _⟩ | ⟨a, len', cap', elems, rest, n, _, hcs, _, _, hl, hm, hlen, hel, _, _⟩
  · simp [Value.cells] at hcs
    obtain ⟨rfl, rfl, rfl⟩ := hcs
    exact ⟨[], .nil⟩
  · simp [Value.cells] at hcs
    obtain ⟨rfl, rfl, rfl⟩ := hcs
    have key : ∀ i, i < len → ∃ z : Int × Int, w.cell? (a.add (i * 2)) = some (.int .i64 z.1) ∧ w.cell? ((a.add (i * 2)).add 1) = some (.int .i64 z.2) := by
      intro i hi
      have k := hel i hi
      rw [List.getElem?_eq_getElem (by omega), hc, Option.bind_eq_some_iff] at k
      obtain ⟨cs, k1, k2⟩ := k
      obtain ⟨x, y, rfl, hx, hy⟩ := cells_two k1
      obtain ⟨xs, m, _, _, _, hl2, hi2⟩ := DataW.trod_array he k2
      simp only [hc'] at hi2
      have i0 := hi2 0 (by omega)
      have i1 := hi2 1 (by omega)
      match xs, hl2 with
      | [y0, y1], _ =>
        simp at i0 i1
        obtain ⟨z0, e0, _, _⟩ := DataW.trod_int he' i0
        obtain ⟨z1, e1, _, _⟩ := DataW.trod_int he' i1
        simp at e0 e1
        subst e0 e1
        exact ⟨(z0, z1), hx, hy⟩
    by_cases h0 : len = 0
    · subst h0
      exact ⟨[], .none a cap⟩
    · obtain ⟨b, off, spot⟩ := a
      obtain ⟨z0, hz0, _⟩ := key 0 (by omega)
      have hspot : spot = none := by simpa [Addr.add] using World.cell?_spot hz0
      subst hspot
      have hb : b < w.heap.size := World.block_lt_of_cell? w _ hz0
      obtain ⟨f, hf⟩ : ∃ f : Nat → Int × Int, ∀ i, i < len → w.cell? ⟨b, off + i * 2, none⟩ = some (.int .i64 (f i).1) ∧ w.cell? ⟨b, off + i * 2 + 1, none⟩ = some (.int .i64 (f i).2) := by
        have key2 : ∀ i, i < len → ∃ z : Int × Int, w.cell? ⟨b, off + i * 2, none⟩ = some (.int .i64 z.1) ∧ w.cell? ⟨b, off + i * 2 + 1, none⟩ = some (.int .i64 z.2) := by
          intro i hi
          have k := key i hi
          rw [Go.WideShapes.add_plain, Go.WideShapes.add_plain] at k
          exact k
        refine ⟨fun i => if h : i < len then Classical.choose (key2 i h) else (0, 0), fun i hi => ?_⟩
        simp only [dif_pos hi]
        exact Classical.choose_spec (key2 i hi)
      have hlen2 : ((List.range len).map f).length = len := by simp
      refine ⟨(List.range len).map f, ?_⟩
      have k := PRow.some (w := w) b off cap ((List.range len).map f) (by omega) (by omega) hm hb (fun i z hz => by
        have hi := (List.getElem?_eq_some_iff.1 hz).1
        rw [hlen2] at hi
        rw [List.getElem?_map, List.getElem?_range hi] at hz
        obtain rfl : f i = z := by simpa using hz
        exact hf i hi)
      rw [hlen2] at k
      exact k
/-- what a slice that came in can hold -/
theorem slice_weight {H : Type} {enc : TypeId × Value → H} {P : Program} {w : World} {t e : TypeId} {d : DataW H} {ps : List MemPlace} {p : Option Addr} {len cap : Nat} {ts : List TypeId} {ds : List (DataW H)} {j : Nat} (ht : P.underlying t = some (.slice e)) (h : DataW.Trod enc P w 0 (fun _ => true) true t (.slice p len cap) d ps)
    (hs : (DataW.weightsEach P ts ds).all (· ≤ reachBytes) = true) (hj : ts[j]? = some t) (hd : ds[j]? = some d) : len * P.bytesOf e ≤ 140737488351232 := by
  obtain ⟨fuel, hf⟩ := h
  rcases DataW.trod_slice ht hf with ⟨hcs, _⟩ | ⟨a, len', cap', elems, rest, n, _, hcs, hx, _, hl, hm, hlen, hel, _, _⟩
  · simp [Value.cells] at hcs
    obtain ⟨_, rfl, _⟩ := hcs
    omega
  · simp [Value.cells] at hcs
    obtain ⟨_, rfl, _⟩ := hcs
    have hd' : d = .slice (elems.map (·.1)) (rest.map (·.1)) := congrArg Prod.fst hx
    rw [hd'] at hd
    have k := sized_slice hs hj hd ht
    simp only [List.length_map, hlen] at k
    have e : reachBytes = 140737488351232 := by decide
    rw [e] at k
    exact Nat.le_trans (Nat.mul_le_mul_right _ (Nat.le_add_right _ _)) k
theorem PA.len {w : World} {v : Value} {zs : List (Int × Int)} {k : Nat} (h : PRow w v zs) (hb : ∀ q l c, v = .slice q l c → l * k ≤ 140737488351232) : zs.length * k ≤ 140737488351232 := by
  cases h with
  | nil => simp
  | none a cap => simp
  | some b off cap _ h0 hc hm hb' hcell => exact hb _ _ _ rfl
theorem PB.len {w : World} {v : Value} {zs : List Int} {k : Nat} (h : IRow w v zs) (hb : ∀ q l c, v = .slice q l c → l * k ≤ 140737488351232) : zs.length * k ≤ 140737488351232 := by
  cases h with
  | nil => simp
  | none a cap => simp
  | some b off cap _ h0 hc hm hb' hcell => exact hb _ _ _ rfl
end Go.Proofs.Ytnclnbbnkfolgaa

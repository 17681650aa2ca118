/- A listed package-level variable that is an array of integers: its cells hold what is listed. Over any program. -/
import Derived.Test.YtcglffigbdglpaaDoorBase
import Derived.LaidMore
import Derived.MakeChecks
namespace Go.Proofs.YtcglffigbdglpaaDoor
open Go.RowKit Go.ChangeShapes Go.WideShapes Go.ChangeAt

theorem cells_of_laid {H : Type} {enc : TypeId × Value → H} {P : Program} {w : World} {base fuel n : Nat} {spare : Nat → Bool} {held : Bool} {t e : TypeId} {cs : List Value} {ds : List Int} {ps : List MemPlace}
    (ht : P.underlying t = some (.array n e)) (hi : P.underlying e = some (.int .i64)) (hc : P.cellsOf e = 1)
    (h : DataW.trod enc P w base spare held fuel t cs = some (.agg (ds.map fun k => .lit (.int .i64 k)), ps)) : ∀ (j : Nat) k, ds[j]? = some k → cs[j]? = some (.int .i64 k) := by
  intro j k hj
  obtain ⟨xs, m, rfl, hx, _, hn, hel⟩ := DataW.trod_array ht h
  simp only [Prod.mk.injEq, DataW.agg.injEq] at hx
  have h1 : (ds.map fun k => (DataW.lit (.int .i64 k) : DataW H))[j]? = some (.lit (.int .i64 k)) := by rw [List.getElem?_map, hj]; rfl
  rw [hx.1, List.getElem?_map] at h1
  cases hxj : xs[j]? with
  | none => rw [hxj] at h1; simp at h1
  | some x =>
    rw [hxj] at h1
    simp only [Option.map_some, Option.some.injEq] at h1
    have hlt := (List.getElem?_eq_some_iff.1 hxj).1
    have h2 := hel j (by omega)
    rw [hxj, hc, Nat.mul_one] at h2
    obtain ⟨k', e1, e2, _⟩ := DataW.trod_int hi h2
    rw [e2] at h1
    simp only [DataW.lit.injEq, Lit.int.injEq, true_and] at h1
    subst h1
    have h3 : ((cs.drop j).take 1)[0]? = some (.int .i64 k') := by rw [e1]; rfl
    rw [List.getElem?_take, if_pos (by decide), List.getElem?_drop] at h3
    simpa using h3
end Go.Proofs.YtcglffigbdglpaaDoor

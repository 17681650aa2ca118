/- Arguments of any types read behind a call that turns nothing old as they did; a slice of integers that came in. Over any program. -/
import Derived.Test.YtnclnbbnkfolgaaBase
import Derived.Carry
import Derived.ChangeSlices
import Derived.ProofKit
namespace Go.Proofs.Ytnclnbbnkfolgaa
open Go.RowKit Go.ChangeShapes Go.WideShapes Go.ChangeAt

section
variable {H : Type} {enc : TypeId × Value → H} {P : Program}
/-- every argument reads as it did -/
theorem trodAll_keep (hl : laidOutB P = true) {W W' : World} (hb : Bel W W') {sp : Nat → Bool} :
    ∀ {ts : List TypeId} {vs : List Value} {ds : List (DataW H)} {ps : List MemPlace}, (ts.all fun t => P.readableRec t && decide (t < P.types.size)) = true → DataW.TrodAll enc P W 0 (fun _ => true) true ts vs ds ps → (∀ p ∈ ps, p.block < W.heap.size) → (∀ p ∈ ps, sp p.block = true) → DataW.TrodAll enc P W' 0 sp true ts vs ds ps
  | [], vs, ds, ps, _, h, _, _ => by
    obtain ⟨rfl, rfl, rfl⟩ := trodAll_nil h
    exact trodAll_mk0
  | t :: ts, vs, ds, ps, ht, h, hlt, hsp => by
    obtain ⟨v, vs', d, ds', p, q, rfl, rfl, rfl, h1, h2⟩ := trodAll_cons h
    simp only [List.all_cons, Bool.and_eq_true, decide_eq_true_eq] at ht
    refine trodAll_cons_mk (WideElems.Trod_stays hl ht.1.1 ht.1.2 h1 (fun x hx => ?_) (fun x hx => hsp x (List.mem_append_left _ hx))) (trodAll_keep hl hb (by simpa using ht.2) h2 (fun x hx => hlt x (List.mem_append_right _ hx)) fun x hx => hsp x (List.mem_append_right _ hx))
    exact Below.same hb (hlt x (List.mem_append_left _ hx))
end

/-- a slice of integers as a call reads it -/
inductive IRow (w : World) : Value → List Int → Prop
  | nil : IRow w (.slice none 0 0) []
  | none (a : Addr) (cap : Nat) : IRow w (.slice (some a) 0 cap) []
  | some (b off cap : Nat) (zs : List Int) (h0 : 0 < zs.length) (hc : zs.length ≤ cap) (hm : cap ≤ maxLen) (hb : b < w.heap.size) (hcell : ∀ (i : Nat) z, zs[i]? = Option.some z → w.cell? ⟨b, off + i, Option.none⟩ = Option.some (.int .i64 z)) : IRow w (.slice (Option.some ⟨b, off, Option.none⟩) zs.length cap) zs
theorem open_irow {H : Type} {enc : TypeId × Value → H} {P : Program} {w : World} {t e : TypeId} {v : Value} {d : DataW H} {ps : List MemPlace} {r : Reach} {b0 : Nat} (ht : P.underlying t = some (.slice e)) (he : P.underlying e = some (.int .i64)) (hc : P.cellsOf e = 1)
    (hval : Value.okWide P w r b0 t v) (h : DataW.Trod enc P w 0 (fun _ => true) true t v d ps) : ∃ zs, IRow w v zs ∧ ∀ z ∈ zs, (Lit.int .i64 z).wf = true := by
  obtain ⟨a0, len, cap, rfl⟩ := okWide_slice ht hval
  obtain ⟨fuel, hf⟩ := h
  rcases open_ints ht he hc hf with ⟨hcs, hx⟩ | ⟨a, len', cap', zs, hcs, _, hle, hmax, hall, hx, hcell, hwz⟩
  · simp [Value.cells] at hcs
    obtain ⟨rfl, rfl, rfl⟩ := hcs
    exact ⟨[], .nil, fun z hz => by cases hz⟩
  · simp [Value.cells] at hcs
    obtain ⟨rfl, rfl, rfl⟩ := hcs
    simp only [if_true] at hall
    by_cases h0 : len = 0
    · subst h0
      exact ⟨[], .none a cap, fun z hz => by cases hz⟩
    · obtain ⟨b, off, rfl, hcb⟩ := ints_at hcell (by omega)
      have hlen : (zs.take len).length = len := by rw [List.length_take]; omega
      refine ⟨zs.take len, ?_, fun z hz => hwz z (List.mem_of_mem_take hz)⟩
      have hb : b < w.heap.size := World.block_lt_of_cell? w _ (hcb 0 (by omega))
      have := IRow.some (w := w) b off cap (zs.take len) (by omega) (by omega) hmax hb (fun i z hz => by
        have hi := (List.getElem?_eq_some_iff.1 hz).1
        rw [hlen] at hi
        rw [hcb i (by omega)]
        rw [List.getElem?_take, if_pos hi] at hz
        simp [List.getD, hz])
      rw [hlen] at this
      exact this
end Go.Proofs.Ytnclnbbnkfolgaa

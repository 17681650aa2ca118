/- A list of floats that a statement builds out of bits: its row; what Top says of one list is one thing. -/
import Derived.Test.YtknlpggbaahajaaOwn
import Derived.Test.YtknlpggbaahajaaRef3top
import Derived.Test.YtknlpggbaahajaaFloatB
namespace Go.Proofs.Ytknlpggbaahajaa
open Go.RowKit

/-- a float's word out of an int64 -/
def flw (z : Int) : Nat := (IntKind.u64.wrap z).toNat
theorem flw_lt (z : Int) : flw z < 18446744073709551616 := by unfold flw; rw [IntKind.wrap_u64]; omega
theorem FRow.of {w : World} {v : Value} {l : List Nat} {base : Nat} {e : TypeId} (h : w.ownsRow base e 1 v l.length (l.map (Value.float .f64))) : FRow w v l := by
  refine ⟨?_⟩
  rcases ownsRow_form' h with ⟨h1, h2⟩ | ⟨g, cap, rfl, _, _, h3, h4⟩
  · exact Or.inl ⟨h1, List.length_eq_zero_iff.1 h2⟩
  · refine Or.inr ⟨g, cap, rfl, h3, h4, fun i x hx => ?_⟩
    have hlt := (List.getElem?_eq_some_iff.1 hx).1
    rw [h.cellAt i (by omega), List.getElem?_map, hx]; rfl
theorem top_agree {l : List Nat} {e e' : Ending} (h : TopSaid l e) (h' : TopSaid l e') : e = e' ∧ ∃ (k : Int) (b : Bool), e = .returned (.tuple #[.int .i64 k, .bool b]) := by
  rcases h with ⟨k, rfl, hF, hT⟩ | ⟨rfl, hF⟩ <;> rcases h' with ⟨k', rfl, hF', hT'⟩ | ⟨rfl, hF'⟩
  · rw [hT.unique hT']; exact ⟨rfl, _, _, rfl⟩
  · exact absurd hF hF'
  · exact absurd hF' hF
  · exact ⟨rfl, _, _, rfl⟩
theorem float_info : (Try.prog.info? 22).map (fun i => (i.zero, i.size, i.bytes)) = some (some (.float .f64 0), 1, 8) := by kernel_rfl
end Go.Proofs.Ytknlpggbaahajaa

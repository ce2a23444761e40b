/- A struct of two structs of two one-cell fields each, by value: opened to its four cells. -/
import Derived.Lib.SmallJoins
import Derived.ChangeSame
namespace Go.Proofs.Ytlkjpackjjncaaa
open Go.Joins Go.ChangeShapes Go.WideShapes Go.RowKit Go.Deep
section
variable {H : Type} {enc : TypeId × Value → H} {P : Program} {w : World} {base : Nat} {spare : Nat → Bool} {held : Bool}
theorem open_two {t s : TypeId} {g0 g1 : Field} {n : Nat} {c0 c1 : Value} {x : DataW H × List MemPlace} (hs : P.underlying s = some (.struct #[g0, g1])) (hone : oneCellFields P #[g0, g1] = true) (e : t = s) (h : DataW.trod enc P w base spare held n t [c0, c1] = some x) :
    ∃ (y0 y1 : DataW H × List MemPlace) (m : Nat), DataW.trod enc P w base spare held m g0.type [c0] = some y0 ∧ DataW.trod enc P w base spare held m g1.type [c1] = some y1 := by
  subst e
  obtain ⟨y0, y1, m, _, _, h0, h1⟩ := trod_struct2 hs h
  obtain ⟨o0, k0⟩ := hone_of hone 0 g0 rfl
  obtain ⟨o1, k1⟩ := hone_of hone 1 g1 rfl
  exact ⟨y0, y1, m, by simpa [o0, k0] using h0, by simpa [o1, k1] using h1⟩

theorem open_box {r : Reach} {b0 : Nat} {t s : TypeId} {f0 f1 g0 g1 : Field} {v : Value} {d : DataW H} {p : List MemPlace} (ht : P.underlying t = some (.struct #[f0, f1])) (hs : P.underlying s = some (.struct #[g0, g1])) (hone : oneCellFields P #[g0, g1] = true)
    (hC : P.cellsOf t = 4) (hS : P.cellsOf s = 2) (e0 : f0.type = s) (e1 : f1.type = s) (o0 : f0.offset = 0) (o1 : f1.offset = 2) (hv : Value.okWide P w r b0 t v) (h : DataW.Trod enc P w base spare held t v d p) :
    ∃ (c0 c1 c2 c3 : Value) (y0 y1 y2 y3 : DataW H × List MemPlace) (m k : Nat), v = .agg #[c0, c1, c2, c3] ∧ DataW.trod enc P w base spare held m g0.type [c0] = some y0 ∧ DataW.trod enc P w base spare held m g1.type [c1] = some y1 ∧
      DataW.trod enc P w base spare held k g0.type [c2] = some y2 ∧ DataW.trod enc P w base spare held k g1.type [c3] = some y3 := by
  obtain ⟨cs, rfl, hsz⟩ := okWide_struct ht hv
  obtain ⟨l⟩ := cs
  match l, hsz.trans hC with
  | [c0, c1, c2, c3], _ =>
    obtain ⟨fuel, hf⟩ := h
    obtain ⟨y0, y1, n, _, _, h0, h1⟩ := trod_struct2 ht hf
    rw [o0, e0, hS] at h0
    rw [o1, e1, hS] at h1
    simp only [Value.cells, List.drop, List.take] at h0 h1
    obtain ⟨z0, z1, m, q0, q1⟩ := open_two hs hone rfl h0
    obtain ⟨z2, z3, k, q2, q3⟩ := open_two hs hone rfl h1
    exact ⟨c0, c1, c2, c3, z0, z1, z2, z3, m, k, rfl, q0, q1, q2, q3⟩
end
end Go.Proofs.Ytlkjpackjjncaaa

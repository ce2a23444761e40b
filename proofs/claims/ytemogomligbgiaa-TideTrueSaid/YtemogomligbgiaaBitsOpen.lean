/- A slice of small numbers as an argument: opened to its numbers. -/
import Derived.Test.YtemogomligbgiaaTidTr
import Derived.Test.YtemogomligbgiaaRows
import Derived.Deep.SlicePairs
import Derived.Lib.SmallJoins
import Derived.ChangeSame
namespace Go.Proofs.Ytemogomligbgiaa.Ti
open Go.Joins Go.ChangeShapes Go.WideShapes Go.RowKit Go.Deep
theorem cellsU16 : Try.prog.cellsOf 48 = 1 := by kernel_rfl
set_option maxRecDepth 100000 in
theorem open_bits {H : Type} {enc : TypeId × Value → H} {w : World} {base : Nat} {spare : Nat → Bool} {held : Bool} {r : Reach} {b0 : Nat} {v : Value} {d : DataW H} {p : List MemPlace}
    (hval : Value.okWide Try.prog w r b0 46 v) (h : DataW.Trod enc Try.prog w base spare held 46 v d p) : ∃ l : List Int, Bits w v l := by
  obtain ⟨a, len, cap, rfl⟩ := okWide_slice Try.underlying46 hval
  obtain ⟨fuel, hf⟩ := h
  have e : (Value.slice a len cap).cells.toList = [.slice a len cap] := rfl
  rw [e] at hf
  rcases open_slice Try.underlying46 hf with ⟨hc, _⟩ | ⟨a', len', cap', m, n, D, Pl, hc, hb, hl, hm, hmm, hx, hall⟩
  · simp only [List.cons.injEq, and_true, Value.slice.injEq] at hc
    obtain ⟨rfl, rfl, rfl⟩ := hc
    exact ⟨[], ⟨⟨_, _, rfl, fun h => absurd h (by simp)⟩, fun i hi => absurd hi (by simp), by simp⟩⟩
  · simp only [List.cons.injEq, and_true, Value.slice.injEq] at hc
    obtain ⟨rfl, rfl, rfl⟩ := hc
    have hlm : len ≤ m := by rw [hmm]; split <;> omega
    have ints : ∀ i, i < len → ∃ x : Int, w.cell? (a'.add i) = some (.int .u16 x) ∧ 0 ≤ x ∧ x ≤ 65535 := fun i hi => by
      obtain ⟨cs', h1, h2⟩ := hall i (by omega)
      rw [cellsU16, Nat.mul_one] at h1
      obtain ⟨_, hlen, hcell⟩ := World.cells?_some h1
      match cs', hlen with
      | [c0], _ =>
        obtain ⟨x, q0, _, hw⟩ := DataW.trod_int Try.underlying48 h2
        simp only [List.cons.injEq, and_true] at q0
        have e0 := hcell 0 (by omega)
        subst q0
        refine ⟨x, ?_, ?_⟩
        · simpa [Addr.add] using e0
        · simp only [Lit.wf, Bool.and_eq_true, decide_eq_true_eq] at hw
          have a1 : IntKind.u16.min = 0 := rfl
          have a2 : IntKind.u16.max = 65535 := rfl
          rw [a1, a2] at hw
          exact hw
    obtain ⟨q, hq⟩ := choose_lt ints
    have hgi : ∀ i, i < len → gi ((List.range len).map q) i = q i := fun i hi => by simp [gi, hi]
    have hlen : ((List.range len).map q).length = len := by simp
    refine ⟨(List.range len).map q, ⟨⟨some a', cap, by rw [hlen], fun h0 => ?_⟩, fun i hi => by rw [hlen] at hi; rw [hgi i hi]; exact (hq i hi).2, by rw [hlen]; unfold maxLen at hm; omega⟩⟩
    rw [hlen] at h0
    obtain ⟨b, off, spot⟩ := a'
    have hs : spot = none := by
      have h1 := (hq 0 (by omega)).1
      cases spot with
      | none => rfl
      | some s =>
        exfalso
        simp only [World.cell?, Addr.add] at h1
        split at h1 <;> simp at h1
    subst hs
    refine ⟨b, off, rfl, fun i hi => ?_⟩
    rw [hlen] at hi
    rw [hgi i hi]
    have h1 := (hq i hi).1
    have ea : ∀ n, (⟨b, off, none⟩ : Addr).add n = ⟨b, off + n, none⟩ := fun n => by simp [Addr.add]
    rw [ea] at h1
    exact h1
end Go.Proofs.Ytemogomligbgiaa.Ti

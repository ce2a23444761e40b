/- A slice of places as an argument: opened to its places. -/
import Derived.Test.YtphcmdmfjhjidaaPolO
import Derived.Deep.SlicePairs
import Derived.Lib.SmallJoins
import Derived.ChangeSame
namespace Go.Proofs.Ytphcmdmfjhjidaa.Po
open Go.Joins Go.ChangeShapes Go.WideShapes Go.RowKit Go.Deep
set_option maxRecDepth 100000 in
theorem open_pts {H : Type} {enc : TypeId × Value → H} {w : World} {base : Nat} {spare : Nat → Bool} {held : Bool} {r : Reach} {b0 : Nat} {v : Value} {d : DataW H} {p : List MemPlace}
    (hval : Value.okWide Try.prog w r b0 22 v) (h : DataW.Trod enc Try.prog w base spare held 22 v d p) : ∃ l : List Pt, Pts w v l := by
  obtain ⟨a, len, cap, rfl⟩ := okWide_slice Try.underlying22 hval
  obtain ⟨fuel, hf⟩ := h
  have e : (Value.slice a len cap).cells.toList = [.slice a len cap] := rfl
  rw [e] at hf
  rcases open_slice_pairs Try.underlying22 Try.underlying28 (by kernel_rfl) rfl rfl (by kernel_rfl) (by kernel_rfl) hf with ⟨hc, _⟩ | ⟨a', len', cap', m, n, V0, V1, D0, D1, P0, P1, hc, hb, hl, hm, hmm, hx, hall⟩
  · simp only [List.cons.injEq, and_true, Value.slice.injEq] at hc
    obtain ⟨rfl, rfl, rfl⟩ := hc
    exact ⟨[], ⟨⟨none, 0, rfl, fun h => absurd h (by simp)⟩, by simp⟩⟩
  · simp only [List.cons.injEq, and_true, Value.slice.injEq] at hc
    obtain ⟨rfl, rfl, rfl⟩ := hc
    have hlm : len ≤ m := by rw [hmm]; split <;> omega
    have ints : ∀ i, i < len → ∃ q : Int × Int, V0 i = (.int .i64 (q.1)) ∧ V1 i = (.int .i64 (q.2)) := fun i hi => by
      obtain ⟨_, _, t0, t1⟩ := hall i (by omega)
      obtain ⟨x, e0, _, _⟩ := DataW.trod_int Try.underlying3 t0
      obtain ⟨y, e1, _, _⟩ := DataW.trod_int Try.underlying3 t1
      simp only [List.cons.injEq, and_true] at e0 e1
      exact ⟨(x, y), e0, e1⟩
    obtain ⟨q, hq⟩ := choose_lt ints
    have hgp : ∀ i, i < len → gp (upto q len) i = q i := fun i hi => by simp [gp, upto, hi]
    refine ⟨upto q len, ⟨⟨some a', cap, by rw [upto_length], fun h0 => ?_⟩, by rw [upto_length]; unfold maxLen at hm; omega⟩⟩
    rw [upto_length] at h0
    obtain ⟨b, off, spot⟩ := a'
    have hs : spot = none := by
      have h1 := (hall 0 (by omega)).1
      cases spot with
      | none => rfl
      | some s =>
        exfalso
        simp only [World.cell?, Addr.add] at h1
        split at h1 <;> simp at h1
    subst hs
    refine ⟨b, off, rfl, fun i hi => ?_⟩
    rw [upto_length] at hi
    obtain ⟨c0, c1, _, _⟩ := hall i (by omega)
    obtain ⟨e0, e1⟩ := hq i hi
    rw [hgp i hi]
    rw [e0] at c0
    rw [e1] at c1
    have ea : ∀ n, (⟨b, off, none⟩ : Addr).add n = ⟨b, off + n, none⟩ := fun n => by simp [Addr.add]
    rw [ea] at c0 c1
    exact ⟨c0, by rw [Nat.add_assoc]; exact c1⟩
end Go.Proofs.Ytphcmdmfjhjidaa.Po

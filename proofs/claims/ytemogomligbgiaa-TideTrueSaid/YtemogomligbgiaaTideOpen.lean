/- A table as an argument: opened to its numbers and its spans. -/
import Derived.Test.YtemogomligbgiaaTidE
import Derived.Test.YtemogomligbgiaaRows
import Derived.Deep.SlicePairs
import Derived.Lib.SmallJoins
import Derived.ChangeSame
namespace Go.Proofs.Ytemogomligbgiaa.Ti
open Go.Joins Go.ChangeShapes Go.WideShapes Go.RowKit Go.Deep
theorem uptoO_get (q : Nat → Int × Int) {n i : Nat} (hi : i < n) : gt ((List.range n).map q) i = q i := by simp [gt, hi]
set_option maxRecDepth 100000 in
theorem open_spans {H : Type} {enc : TypeId × Value → H} {w : World} {base : Nat} {spare : Nat → Bool} {held : Bool} {fuel : Nat} {v : Value} {y : DataW H × List MemPlace}
    (h : DataW.trod enc Try.prog w base spare held fuel 22 [v] = some y) : ∃ l : List Pr, Spans w v l := by
  rcases open_slice_pairs Try.underlying22 Try.underlying26 (by kernel_rfl) rfl rfl (by kernel_rfl) (by kernel_rfl) h with ⟨hc, _⟩ | ⟨a', len', cap', m, n, V0, V1, D0, D1, P0, P1, hc, hb, hl, hm, hmm, hx, hall⟩
  · simp only [List.cons.injEq, and_true] at hc
    subst hc
    exact ⟨[], Spans.nil w⟩
  · simp only [List.cons.injEq, and_true] at hc
    subst hc
    have hlm : len' ≤ m := by rw [hmm]; split <;> omega
    have ints : ∀ i, i < len' → ∃ q : Int × Int, V0 i = (.int .i64 (q.1)) ∧ V1 i = (.int .i64 (q.2)) := fun i hi => by
      obtain ⟨_, _, t0, t1⟩ := hall i (by omega)
      obtain ⟨x, e0, _, _⟩ := DataW.trod_int Try.underlying3 t0
      obtain ⟨y, e1, _, _⟩ := DataW.trod_int Try.underlying3 t1
      simp only [List.cons.injEq, and_true] at e0 e1
      exact ⟨(x, y), e0, e1⟩
    obtain ⟨q, hq⟩ := choose_lt ints
    have hlen : ((List.range len').map q).length = len' := by simp
    refine ⟨(List.range len').map q, ⟨⟨some a', cap', by rw [hlen], fun h => (by cases h), by rw [hlen]; exact hl, fun h0 => ?_⟩, by rw [hlen]; unfold maxLen at hm; omega⟩⟩
    rw [hlen] at h0
    obtain ⟨b, off, spot⟩ := a'
    have hs : spot = none := by
      have h1 := (hall 0 (by omega)).1
      cases spot with
      | none => rfl
      | some s =>
        exfalso
        simp only [World.cell?, Addr.add] at h1
        split at h1 <;> simp at h1
    subst hs
    refine ⟨b, off, rfl, fun i hi => ?_⟩
    rw [hlen] at hi
    obtain ⟨c0, c1, _, _⟩ := hall i (by omega)
    obtain ⟨e0, e1⟩ := hq i hi
    rw [uptoO_get q hi]
    rw [e0] at c0
    rw [e1] at c1
    have ea : ∀ n, (⟨b, off, none⟩ : Addr).add n = ⟨b, off + n, none⟩ := fun n => by simp [Addr.add]
    rw [ea] at c0 c1
    exact ⟨c0, by rw [Nat.add_assoc]; exact c1⟩
set_option maxRecDepth 100000 in
theorem open_tide {H : Type} {enc : TypeId × Value → H} {w : World} {base : Nat} {spare : Nat → Bool} {held : Bool} {r : Reach} {b0 : Nat} {v : Value} {d : DataW H} {p : List MemPlace}
    (hval : Value.okWide Try.prog w r b0 24 v) (h : DataW.Trod enc Try.prog w base spare held 24 v d p) : ∃ (a b : Int) (u : Value) (l : List Pr), v = .agg #[(.int .i64 a), (.int .i64 b), u] ∧ Spans w u l := by
  obtain ⟨v0, v1, v2, y0, y1, y2, n, hv, _, _, h0, h1, h2⟩ := open_agg3 Try.underlying24 (by kernel_rfl) (by kernel_rfl) hval h
  obtain ⟨x, e0, _, _⟩ := DataW.trod_int Try.underlying3 h0
  obtain ⟨y, e1, _, _⟩ := DataW.trod_int Try.underlying3 h1
  simp only [List.cons.injEq, and_true] at e0 e1
  obtain ⟨l, hs⟩ := open_spans h2
  exact ⟨x, y, v2, l, by rw [hv, e0, e1], hs⟩
end Go.Proofs.Ytemogomligbgiaa.Ti

/- A slice of sectors as an argument: opened to its sectors. -/
import Derived.Test.YtpadkmlckmopfaaSecE
import Derived.Test.YtpadkmlckmopfaaRows
import Derived.Deep.SlicePairs
import Derived.Lib.SmallJoins
import Derived.ChangeSame
namespace Go.Proofs.Ytpadkmlckmopfaa.Se
open Go.Joins Go.ChangeShapes Go.WideShapes Go.RowKit Go.Deep
instance : Inhabited Sec := ⟨zeroS⟩
theorem cellsSec : Try.prog.cellsOf 26 = 6 := by kernel_rfl
theorem cellsPnt : Try.prog.cellsOf 24 = 2 := by kernel_rfl
theorem cellsInt : Try.prog.cellsOf 3 = 1 := by kernel_rfl
theorem trod_pt {H : Type} {enc : TypeId × Value → H} {w : World} {base : Nat} {spare : Nat → Bool} {held : Bool} {n : Nat} {c0 c1 : Value} {y : DataW H × List MemPlace}
    (h : DataW.trod enc Try.prog w base spare held n 24 [c0, c1] = some y) : ∃ a b : Int, c0 = (.int .i64 a) ∧ c1 = (.int .i64 b) := by
  obtain ⟨xs, k, hk, hxy, _, hxl, hf⟩ := DataW.trod_struct Try.underlying24 h
  match xs, hxl with
  | [z0, z1], _ =>
    have g0 := hf 0 _ rfl
    have g1 := hf 1 _ rfl
    simp [cellsInt] at g0 g1
    obtain ⟨a, e0, _, _⟩ := DataW.trod_int Try.underlying3 g0
    obtain ⟨b, e1, _, _⟩ := DataW.trod_int Try.underlying3 g1
    simp only [List.cons.injEq, and_true] at e0 e1
    exact ⟨a, b, e0, e1⟩
set_option maxRecDepth 100000 in
theorem open_secs {H : Type} {enc : TypeId × Value → H} {w : World} {base : Nat} {spare : Nat → Bool} {held : Bool} {r : Reach} {b0 : Nat} {v : Value} {d : DataW H} {p : List MemPlace}
    (hval : Value.okWide Try.prog w r b0 22 v) (h : DataW.Trod enc Try.prog w base spare held 22 v d p) : ∃ l : List Sec, Secs w v l := by
  obtain ⟨a, len, cap, rfl⟩ := okWide_slice Try.underlying22 hval
  obtain ⟨fuel, hf⟩ := h
  have e : (Value.slice a len cap).cells.toList = [.slice a len cap] := rfl
  rw [e] at hf
  rcases open_slice Try.underlying22 hf with ⟨hc, _⟩ | ⟨a', len', cap', m, n, D, Pl, hc, hb, hl, hm, hmm, hx, hall⟩
  · simp only [List.cons.injEq, and_true, Value.slice.injEq] at hc
    obtain ⟨rfl, rfl, rfl⟩ := hc
    exact ⟨[], Secs.nil w⟩
  · simp only [List.cons.injEq, and_true, Value.slice.injEq] at hc
    obtain ⟨rfl, rfl, rfl⟩ := hc
    have hlm : len ≤ m := by rw [hmm]; split <;> omega
    have ints : ∀ i, i < len → ∃ s : Sec, w.cell? (a'.add (i * 6)) = some (.int .i64 (s.fx)) ∧ w.cell? (a'.add (i * 6 + 1)) = some (.int .i64 (s.fy)) ∧ w.cell? (a'.add (i * 6 + 2)) = some (.int .i64 (s.tx)) ∧ w.cell? (a'.add (i * 6 + 3)) = some (.int .i64 (s.ty)) ∧ w.cell? (a'.add (i * 6 + 4)) = some (.int .i64 (s.co)) ∧ w.cell? (a'.add (i * 6 + 5)) = some (.int .i64 (s.ra)) := fun i hi => by
      obtain ⟨cs', h1, h2⟩ := hall i (by omega)
      rw [cellsSec] at h1
      obtain ⟨_, hlen, hcell⟩ := World.cells?_some h1
      obtain ⟨xs, k, hk, hxy, _, hxl, hf⟩ := DataW.trod_struct Try.underlying26 h2
      match xs, hxl, cs', hlen with
      | [y0, y1, y2, y3], _, [c0, c1, c2, c3, c4, c5], _ =>
        have g0 := hf 0 _ rfl
        have g1 := hf 1 _ rfl
        have g2 := hf 2 _ rfl
        have g3 := hf 3 _ rfl
        simp [cellsInt, cellsPnt] at g0 g1 g2 g3
        obtain ⟨x0, x1, q0, q1⟩ := trod_pt g0
        obtain ⟨x2, x3, q2, q3⟩ := trod_pt g1
        obtain ⟨x4, q4, _, _⟩ := DataW.trod_int Try.underlying3 g2
        obtain ⟨x5, q5, _, _⟩ := DataW.trod_int Try.underlying3 g3
        simp only [List.cons.injEq, and_true] at q4 q5
        have e0 := hcell 0 (by omega)
        have e1 := hcell 1 (by omega)
        have e2 := hcell 2 (by omega)
        have e3 := hcell 3 (by omega)
        have e4 := hcell 4 (by omega)
        have e5 := hcell 5 (by omega)
        rw [add_add] at e0 e1 e2 e3 e4 e5
        refine ⟨⟨x0, x1, x2, x3, x4, x5⟩, ?_, ?_, ?_, ?_, ?_, ?_⟩
        · rw [← q0]; simpa using e0
        · rw [← q1]; simpa using e1
        · rw [← q2]; simpa using e2
        · rw [← q3]; simpa using e3
        · rw [← q4]; simpa using e4
        · rw [← q5]; simpa using e5
    obtain ⟨q, hq⟩ := choose_lt ints
    have hgs : ∀ i, i < len → gs (upto q len) i = q i := fun i hi => by simp [gs, upto, hi]
    refine ⟨upto q len, ⟨⟨some a', cap, by rw [upto_length], fun h => (by cases h), by rw [upto_length]; exact hl, fun h0 => ?_⟩, by rw [upto_length]; unfold maxLen at hm; omega⟩⟩
    rw [upto_length] at h0
    obtain ⟨b, off, spot⟩ := a'
    have hs : spot = none := by
      have h1 := (hq 0 (by omega)).1
      cases spot with
      | none => rfl
      | some s =>
        exfalso
        simp only [World.cell?, Addr.add] at h1
        split at h1 <;> simp at h1
    subst hs
    refine ⟨b, off, rfl, fun i hi => ?_⟩
    rw [upto_length] at hi
    have ea : ∀ n, (⟨b, off, none⟩ : Addr).add n = ⟨b, off + n, none⟩ := fun n => by simp [Addr.add]
    have := hq i hi
    rw [hgs i hi]
    rw [ea, ea, ea, ea, ea, ea] at this
    exact this
end Go.Proofs.Ytpadkmlckmopfaa.Se

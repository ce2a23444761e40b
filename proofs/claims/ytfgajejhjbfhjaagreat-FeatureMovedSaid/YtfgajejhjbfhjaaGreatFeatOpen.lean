/- A feature as an argument: opened to its fields. -/
import Derived.Test.YtfgajejhjbfhjaaGreatGm
import Derived.Deep.SlicePairs
import Derived.Lib.SmallJoins
import Derived.ChangeSame
namespace Go.Proofs.YtfgajejhjbfhjaaGreat.Fe
open Go.Joins Go.ChangeShapes Go.WideShapes Go.RowKit Go.Deep
set_option linter.unusedVariables false
theorem cellsInt : Tryz.prog.cellsOf 3 = 1 := by kernel_rfl
theorem cellsPnt : Tryz.prog.cellsOf 23 = 2 := by kernel_rfl
theorem cellsSec : Tryz.prog.cellsOf 70 = 6 := by kernel_rfl
theorem cellsPs : Tryz.prog.cellsOf 24 = 1 := by kernel_rfl
theorem cellsSs : Tryz.prog.cellsOf 25 = 1 := by kernel_rfl
theorem cellsFe : Tryz.prog.cellsOf 27 = 9 := by kernel_rfl
section
variable {H : Type} {enc : TypeId × Value → H} {w : World} {base : Nat} {spare : Nat → Bool} {held : Bool}
theorem add_nn (b off n : Nat) : (⟨b, off, none⟩ : Addr).add n = ⟨b, off + n, none⟩ := by simp [Addr.add]
theorem spot_none {a : Addr} {n : Nat} {v : Value} (hn : n = 0) (h : w.cell? (a.add n) = some v) : a.spot = none := by
  subst hn
  obtain ⟨b, off, spot⟩ := a
  cases spot with
  | none => rfl
  | some s =>
    exfalso
    simp only [World.cell?, Addr.add] at h
    split at h <;> simp at h
theorem open_int2 {fuel : Nat} {c : Value} {y : DataW H × List MemPlace} (h : DataW.trod enc Tryz.prog w base spare held fuel 3 [c] = some y) : ∃ x : Int, c = (.int .i64 x) ∧ i64 x := by
  obtain ⟨x, e, _, hw⟩ := DataW.trod_int Tryz.underlying3 h
  simp only [List.cons.injEq, and_true] at e
  refine ⟨x, e, ?_⟩
  simp only [Lit.wf, Bool.and_eq_true, decide_eq_true_eq] at hw
  have h1 : IntKind.i64.min = -9223372036854775808 := by decide +kernel
  have h2 : IntKind.i64.max = 9223372036854775807 := by decide +kernel
  rw [h1, h2] at hw
  exact hw
theorem open_pt2 {fuel : Nat} {c0 c1 : Value} {y : DataW H × List MemPlace} (h : DataW.trod enc Tryz.prog w base spare held fuel 23 [c0, c1] = some y) : ∃ a b : Int, c0 = (.int .i64 a) ∧ c1 = (.int .i64 b) ∧ i64 a ∧ i64 b := by
  obtain ⟨xs, k, hk, hxy, _, hxl, hf⟩ := DataW.trod_struct Tryz.underlying23 h
  match xs, hxl with
  | [z0, z1], _ =>
    have g0 := hf 0 _ rfl
    have g1 := hf 1 _ rfl
    simp [cellsInt] at g0 g1
    obtain ⟨a, e0, r0⟩ := open_int2 g0
    obtain ⟨b, e1, r1⟩ := open_int2 g1
    exact ⟨a, b, e0, e1, r0, r1⟩
set_option maxRecDepth 100000 in
theorem open_ptsT {fuel : Nat} {v : Value} {y : DataW H × List MemPlace} (h : DataW.trod enc Tryz.prog w base spare held fuel 24 [v] = some y) : ∃ l : List Po.Pt, Po.Pts w v l := by
  rcases open_slice_pairs Tryz.underlying24 Tryz.underlying23 (by kernel_rfl) rfl rfl (by kernel_rfl) (by kernel_rfl) h with ⟨hc, _⟩ | ⟨a', len', cap', m, n, V0, V1, D0, D1, P0, P1, hc, hb, hl, hm, hmm, hx, hall⟩
  · simp only [List.cons.injEq, and_true] at hc
    subst hc
    exact ⟨[], ⟨⟨none, 0, rfl, fun h => absurd h (by simp)⟩, by simp⟩⟩
  · simp only [List.cons.injEq, and_true] at hc
    subst hc
    have hlm : len' ≤ m := by rw [hmm]; split <;> omega
    have ints : ∀ i, i < len' → ∃ q : Int × Int, V0 i = (.int .i64 (q.1)) ∧ V1 i = (.int .i64 (q.2)) := fun i hi => by
      obtain ⟨_, _, t0, t1⟩ := hall i (by omega)
      obtain ⟨x, e0, _⟩ := open_int2 t0
      obtain ⟨y, e1, _⟩ := open_int2 t1
      exact ⟨(x, y), e0, e1⟩
    obtain ⟨q, hq⟩ := choose_lt ints
    have hgp : ∀ i, i < len' → Po.gp (Po.upto q len') i = q i := fun i hi => by simp [Po.gp, Po.upto, hi]
    refine ⟨Po.upto q len', ⟨⟨some a', cap', by rw [Po.upto_length], fun h0 => ?_⟩, by rw [Po.upto_length]; unfold maxLen at hm; omega⟩⟩
    rw [Po.upto_length] at h0
    have hs := spot_none (by omega) (hall 0 (by omega)).1
    obtain ⟨b, off, spot⟩ := a'
    dsimp only at hs
    subst hs
    refine ⟨b, off, rfl, fun i hi => ?_⟩
    rw [Po.upto_length] at hi
    obtain ⟨c0, c1, _, _⟩ := hall i (by omega)
    obtain ⟨e0, e1⟩ := hq i hi
    rw [hgp i hi]
    rw [e0] at c0
    rw [e1] at c1
    rw [add_nn] at c0 c1
    exact ⟨c0, by rw [Nat.add_assoc]; exact c1⟩
set_option maxRecDepth 100000 in
theorem open_secsT {fuel : Nat} {v : Value} {y : DataW H × List MemPlace} (h : DataW.trod enc Tryz.prog w base spare held fuel 25 [v] = some y) : ∃ l : List Se.Sec, Se.Secs w v l := by
  rcases open_slice Tryz.underlying25 h with ⟨hc, _⟩ | ⟨a', len, cap, m, n, D, Pl, hc, hb, hl, hm, hmm, hx, hall⟩
  · simp only [List.cons.injEq, and_true] at hc
    subst hc
    exact ⟨[], Se.Secs.nil w⟩
  · simp only [List.cons.injEq, and_true] at hc
    subst hc
    have hlm : len ≤ m := by rw [hmm]; split <;> omega
    have ints : ∀ i, i < len → ∃ s : Se.Sec, w.cell? (a'.add (i * 6)) = some (.int .i64 (s.fx)) ∧ w.cell? (a'.add (i * 6 + 1)) = some (.int .i64 (s.fy)) ∧ w.cell? (a'.add (i * 6 + 2)) = some (.int .i64 (s.tx)) ∧ w.cell? (a'.add (i * 6 + 3)) = some (.int .i64 (s.ty)) ∧ w.cell? (a'.add (i * 6 + 4)) = some (.int .i64 (s.co)) ∧ w.cell? (a'.add (i * 6 + 5)) = some (.int .i64 (s.ra)) := fun i hi => by
      obtain ⟨cs', h1, h2⟩ := hall i (by omega)
      rw [cellsSec] at h1
      obtain ⟨_, hlen, hcell⟩ := World.cells?_some h1
      obtain ⟨xs, k, hk, hxy, _, hxl, hf⟩ := DataW.trod_struct Tryz.underlying70 h2
      match xs, hxl, cs', hlen with
      | [y0, y1, y2, y3], _, [c0, c1, c2, c3, c4, c5], _ =>
        have g0 := hf 0 _ rfl
        have g1 := hf 1 _ rfl
        have g2 := hf 2 _ rfl
        have g3 := hf 3 _ rfl
        simp [cellsInt, cellsPnt] at g0 g1 g2 g3
        obtain ⟨x0, x1, q0, q1, _⟩ := open_pt2 g0
        obtain ⟨x2, x3, q2, q3, _⟩ := open_pt2 g1
        obtain ⟨x4, q4, _⟩ := open_int2 g2
        obtain ⟨x5, q5, _⟩ := open_int2 g3
        have e0 := hcell 0 (by omega)
        have e1 := hcell 1 (by omega)
        have e2 := hcell 2 (by omega)
        have e3 := hcell 3 (by omega)
        have e4 := hcell 4 (by omega)
        have e5 := hcell 5 (by omega)
        rw [add_add] at e0 e1 e2 e3 e4 e5
        refine ⟨⟨x0, x1, x2, x3, x4, x5⟩, ?_, ?_, ?_, ?_, ?_, ?_⟩
        · rw [← q0]; simpa using e0
        · rw [← q1]; simpa using e1
        · rw [← q2]; simpa using e2
        · rw [← q3]; simpa using e3
        · rw [← q4]; simpa using e4
        · rw [← q5]; simpa using e5
    have inh : Inhabited Se.Sec := ⟨Se.zeroS⟩
    obtain ⟨q, hq⟩ := choose_lt ints
    have hgs : ∀ i, i < len → Se.gs (Se.upto q len) i = q i := fun i hi => by simp [Se.gs, Se.upto, hi]
    refine ⟨Se.upto q len, ⟨⟨some a', cap, by rw [Se.upto_length], fun h => (by cases h), by rw [Se.upto_length]; exact hl, fun h0 => ?_⟩, by rw [Se.upto_length]; unfold maxLen at hm; omega⟩⟩
    rw [Se.upto_length] at h0
    have hs := spot_none (by omega) (hq 0 (by omega)).1
    obtain ⟨b, off, spot⟩ := a'
    dsimp only at hs
    subst hs
    refine ⟨b, off, rfl, fun i hi => ?_⟩
    rw [Se.upto_length] at hi
    have := hq i hi
    rw [hgs i hi]
    rw [add_nn, add_nn, add_nn, add_nn, add_nn, add_nn] at this
    exact this
set_option maxRecDepth 100000 in
theorem open_fe {fuel : Nat} {c0 c1 c2 c3 c4 c5 c6 c7 c8 : Value} {y : DataW H × List MemPlace} (h : DataW.trod enc Tryz.prog w base spare held fuel 27 [c0, c1, c2, c3, c4, c5, c6, c7, c8] = some y) :
    ∃ f : Fe, FeV w (.agg #[c0, c1, c2, c3, c4, c5, c6, c7, c8]) f := by
  obtain ⟨xs, k, hk, hxy, _, hxl, hf⟩ := DataW.trod_struct Tryz.underlying27 h
  match xs, hxl with
  | [y0, y1, y2, y3, y4, y5, y6, y7], _ =>
    have g0 := hf 0 _ rfl
    have g1 := hf 1 _ rfl
    have g2 := hf 2 _ rfl
    have g3 := hf 3 _ rfl
    have g4 := hf 4 _ rfl
    have g5 := hf 5 _ rfl
    have g6 := hf 6 _ rfl
    have g7 := hf 7 _ rfl
    simp [cellsInt, cellsPnt, cellsPs, cellsSs] at g0 g1 g2 g3 g4 g5 g6 g7
    obtain ⟨x0, e0, _⟩ := open_int2 g0
    obtain ⟨x1, e1, _⟩ := open_int2 g1
    obtain ⟨x2, x3, e2, e3, r2, r3⟩ := open_pt2 g2
    obtain ⟨x4, e4, _⟩ := open_int2 g3
    obtain ⟨l, hl⟩ := open_ptsT g4
    obtain ⟨x6, e6, _⟩ := open_int2 g5
    obtain ⟨x7, e7, _⟩ := open_int2 g6
    obtain ⟨s, hs⟩ := open_secsT g7
    obtain ⟨⟨pa, ca, ea, _⟩, _⟩ := id hl
    obtain ⟨⟨ps, cs, es, _⟩, _⟩ := id hs
    subst e0 e1 e2 e3 e4 e6 e7 ea es
    exact ⟨⟨x0, x1, x2, x3, x4, l, x6, x7, s⟩, ⟨pa, ps, ca, cs, rfl, hl, hs⟩, r2, r3⟩
theorem array9 {α : Type} {cs : Array α} (h : cs.size = 9) : ∃ c0 c1 c2 c3 c4 c5 c6 c7 c8, cs = #[c0, c1, c2, c3, c4, c5, c6, c7, c8] := by
  obtain ⟨l⟩ := cs
  match l, h with
  | [c0, c1, c2, c3, c4, c5, c6, c7, c8], _ => exact ⟨c0, c1, c2, c3, c4, c5, c6, c7, c8, rfl⟩
set_option maxRecDepth 100000 in
theorem open_feat {r : Reach} {b0 : Nat} {v : Value} {d : DataW H} {p : List MemPlace}
    (hval : Value.okWide Tryz.prog w r b0 27 v) (h : DataW.Trod enc Tryz.prog w base spare held 27 v d p) : ∃ f : Fe, FeV w v f := by
  obtain ⟨cs, rfl, hsz⟩ := okWide_struct Tryz.underlying27 hval
  obtain ⟨c0, c1, c2, c3, c4, c5, c6, c7, c8, rfl⟩ := array9 (hsz.trans cellsFe)
  obtain ⟨fuel, hf⟩ := h
  exact open_fe (by simpa [Value.cells] using hf)
end
end Go.Proofs.YtfgajejhjbfhjaaGreat.Fe

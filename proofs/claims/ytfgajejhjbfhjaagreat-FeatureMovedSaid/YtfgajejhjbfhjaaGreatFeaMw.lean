/- FeaMw: shapes that are moved. -/
import Derived.Test.YtfgajejhjbfhjaaGreatFeaMv
import Derived.Test.YtfgajejhjbfhjaaGreatGn
import Derived.Test.YtfgajejhjbfhjaaGreatGm
namespace Go.Proofs.YtfgajejhjbfhjaaGreat.Fe
open Go.RowKit
set_option linter.unusedVariables false

section
variable (v1 v2 : Int)
def mvF (f : Fe) : Fe := if f.ki = 3 ∨ f.ki = 6 then ⟨f.id, f.ki, f.x, f.y, f.ra, ML v1 v2 f.ar, f.de, f.sy, f.se⟩ else ⟨f.id, f.ki, f.x + v1, f.y + v2, f.ra, f.ar, f.de, f.sy, f.se⟩
def mvS : Sh → Sh
  | .dis x y r => .dis (x + v1) (y + v2) r
  | .pol l => .pol (ML v1 v2 l)
  | .lig x y s => .lig (x + v1) (y + v2) s
theorem shF_mv (f : Fe) : shF (mvF v1 v2 f) = mvS v1 v2 (shF f) := by
  unfold mvF
  by_cases hp : f.ki = 3 ∨ f.ki = 6
  · rw [if_pos hp]
    unfold shF
    rw [if_pos hp, if_pos hp]
    rfl
  · rw [if_neg hp]
    unfold shF
    rw [if_neg hp, if_neg hp]
    by_cases hl : f.ki = 4
    · rw [if_pos hl, if_pos hl]; rfl
    · rw [if_neg hl, if_neg hl]; rfl
theorem de_mv (f : Fe) : (mvF v1 v2 f).de = f.de := by unfold mvF; split <;> rfl
theorem coS_mv (s : Sh) (p q : Int) : coS (mvS v1 v2 s) (p + v1) (q + v2) = coS s p q := by
  cases s with
  | dis x y r => exact near_mv v1 v2 _ _ _ _ _ _ _
  | pol l => show decide (0 ≤ Po.siL (mv v1 v2 (p, q)) (ML v1 v2 l)) = _; rw [siM]; rfl
  | lig x y s => rfl
theorem hoS_mv (s t : Sh) : hoS (mvS v1 v2 s) (mvS v1 v2 t) = hoS s t := by
  cases t with
  | dis e1 e2 e3 =>
    cases s with
    | dis d1 d2 d3 => exact lie_mv v1 v2 _ _ _ _ _ _
    | pol l => show decide (0 < Po.diL (ML v1 v2 l) (mv v1 v2 (e1, e2)) e3) = _; rw [diM]; rfl
    | lig x y q => rfl
  | pol m =>
    cases s with
    | dis d1 d2 d3 => show (!lackD (ML v1 v2 m) (d1 + v1) (d2 + v2) d3) = _; rw [lackM]; rfl
    | pol l => exact hoM v1 v2 l m
    | lig x y q => rfl
  | lig x y q => cases s <;> rfl
theorem toS_mv (s t : Sh) (hs : okS s) (ht : okS t) : toS (mvS v1 v2 s) (mvS v1 v2 t) = toS s t := by
  cases t with
  | dis e1 e2 e3 =>
    cases s with
    | dis d1 d2 d3 => exact near_mv v1 v2 _ _ _ _ _ _ _
    | pol l => show decide (0 ≤ Po.diL (ML v1 v2 l) (mv v1 v2 (e1, e2)) e3) = _; rw [diM]; rfl
    | lig x y q => rfl
  | pol m =>
    cases s with
    | dis d1 d2 d3 => show decide (0 ≤ Po.diL (ML v1 v2 m) (mv v1 v2 (d1, d2)) d3) = _; rw [diM]; rfl
    | pol l => exact touM v1 v2 l m (Po.vaL_len hs) (Po.vaL_len ht)
    | lig x y q => rfl
  | lig x y q => cases s <;> rfl
theorem dec_mv (a b t : Int) : decide (a + t = b + t) = decide (a = b) := by
  rw [Bool.eq_iff_iff, decide_eq_true_eq, decide_eq_true_eq]
  omega
theorem stS_mv (s t : Sh) (a b : Int) : stS (mvS v1 v2 s) (mvS v1 v2 t) a b = stS s t a b := by
  cases s with
  | dis d1 d2 d3 => show (hoS (mvS v1 v2 t) (mvS v1 v2 (.dis d1 d2 d3)) && decide (b ≤ a)) = _; rw [hoS_mv]; rfl
  | pol l => show (hoS (mvS v1 v2 t) (mvS v1 v2 (.pol l)) && decide (b ≤ a)) = _; rw [hoS_mv]; rfl
  | lig x y q =>
    cases t with
    | dis e1 e2 e3 => rfl
    | pol m => rfl
    | lig x' y' q' =>
      show (decide (x' + v1 = x + v1) && decide (y' + v2 = y + v2) && Se.hoL q' q 1) = (decide (x' = x) && decide (y' = y) && Se.hoL q' q 1)
      rw [dec_mv, dec_mv]
theorem bxS_mv (s : Sh) (hs : okS s) : bxS (mvS v1 v2 s) = (((bxS s).1.1 + v1, (bxS s).1.2 + v1), ((bxS s).2.1 + v2, (bxS s).2.2 + v2)) := by
  cases s with
  | dis x y r => refine Prod.ext (Prod.ext ?_ ?_) (Prod.ext ?_ ?_) <;> simp only [mvS, bxS] <;> omega
  | pol l =>
    show Po.bxL (ML v1 v2 l) (ML v1 v2 l).length = _
    rw [lenM]
    exact bxM v1 v2 (Po.vaL_len hs) (Nat.le_refl _)
  | lig x y q => rfl
end
theorem mvF_pol (v1 v2 : Int) {f : Fe} (h : f.ki = 3 ∨ f.ki = 6) : mvF v1 v2 f = ⟨f.id, f.ki, f.x, f.y, f.ra, ML v1 v2 f.ar, f.de, f.sy, f.se⟩ := if_pos h
theorem mvF_not (v1 v2 : Int) {f : Fe} (h : ¬ (f.ki = 3 ∨ f.ki = 6)) : mvF v1 v2 f = ⟨f.id, f.ki, f.x + v1, f.y + v2, f.ra, f.ar, f.de, f.sy, f.se⟩ := if_neg h
theorem vaF_pol {v1 v2 : Int} {f : Fe} (h : f.ki = 3 ∨ f.ki = 6) (hv : vaF f = true) (ho : Po.okL (ML v1 v2 f.ar) = true) : vaF (mvF v1 v2 f) = true := by
  obtain ⟨h1, h2, h3⟩ := va_parts hv
  rw [mvF_pol v1 v2 h]
  unfold vaF suF at *
  rw [if_pos h] at h3 ⊢
  simp only [Bool.and_eq_true] at h3 ⊢
  exact ⟨⟨h1, h2⟩, ⟨⟨⟨vaM v1 v2 h3.1.1.1.1 ho, h3.1.1.1.2⟩, h3.1.1.2⟩, h3.1.2⟩, h3.2⟩
/-- A valid disc stays within the places. -/
def inS : Sh → Prop
  | .dis x y r => -1000000 ≤ x - r ∧ x + r ≤ 1000000 ∧ -1000000 ≤ y - r ∧ y + r ≤ 1000000 ∧ 0 ≤ r
  | .pol l => Po.vaL l = true
  | .lig x y s => ok x y
theorem va_in {f : Fe} (h : vaF f = true) (hx : i64 f.x) (hy : i64 f.y) : inS (shF f) := by
  have hs := (va_parts h).2.2
  have hk := va_ok h hx hy
  unfold suF at hs
  unfold shF at *
  by_cases hp : f.ki = 3 ∨ f.ki = 6
  · rw [if_pos hp] at hk ⊢
    exact hk
  · rw [if_neg hp] at hs hk ⊢
    by_cases hl : f.ki = 4
    · rw [if_pos hl] at hk ⊢
      exact hk.2
    · rw [if_neg hl] at hs hk ⊢
      by_cases hd : f.ki = 1 ∨ f.ki = 2 ∨ f.ki = 5
      · rw [if_pos hd] at hs
        simp only [Bool.and_eq_true, bt_iff] at hs
        obtain ⟨h0, h1⟩ := hs.1.1.1.1
        have := lim_ok hx hy h0 h1 hs.1.1.1.2
        exact ⟨this.1, this.2.1, this.2.2.1, this.2.2.2, h0⟩
      · rw [if_neg hd] at hs
        cases hs
theorem w64 {z : Int} (h : -9223372036854775808 ≤ z ∧ z ≤ 9223372036854775807) : wrap64 z = z := IntWalk.wrap64_in _ (by omega)
theorem Box_ok (v : Value) (f : Fe) (w : World) (hv : FeV w v f) (hf : vaF f = true) : Calls Tryz.prog 28 #[v] w (Ret w (.tuple #[.agg #[(.int .i64 ((bxS (shF f)).1.1)), (.int .i64 ((bxS (shF f)).1.2)), (.int .i64 ((bxS (shF f)).2.1)), (.int .i64 ((bxS (shF f)).2.2))], (.int .i64 0)])) := by
  have hi := va_in hf hv.2.1 hv.2.2
  have e : ∃ s, shF f = s := ⟨_, rfl⟩
  obtain ⟨s, e⟩ := e
  rw [e] at hi ⊢
  cases s with
  | dis x y r =>
    obtain ⟨h1, h2, h3, h4, h5⟩ := hi
    have h := Box_dis v f x y r w hv hf e
    rw [w64 (z := x - r) (by omega), w64 (z := x + r) (by omega), w64 (z := y - r) (by omega), w64 (z := y + r) (by omega)] at h
    exact h
  | pol l => exact Box_pol v f l w hv hf e
  | lig x y q => exact Box_lig v f x y q w hv hf e
theorem bx_in {s : Sh} (h : inS s) : -1000000 ≤ (bxS s).1.1 ∧ (bxS s).1.1 ≤ 1000000 ∧ -1000000 ≤ (bxS s).1.2 ∧ (bxS s).1.2 ≤ 1000000 ∧ -1000000 ≤ (bxS s).2.1 ∧ (bxS s).2.1 ≤ 1000000 ∧ -1000000 ≤ (bxS s).2.2 ∧ (bxS s).2.2 ≤ 1000000 := by
  cases s with
  | dis x y r =>
    obtain ⟨h1, h2, h3, h4, h5⟩ := h
    simp only [bxS]
    omega
  | pol l =>
    have := Po.bxL_ok (Po.vaL_iff.1 h).2.2.1 l.length
    rw [Sp.vB_iff] at this
    simp only [bxS]
    omega
  | lig x y q =>
    have h : ok x y := h
    unfold ok at h
    simp only [bxS]
    omega
end Go.Proofs.YtfgajejhjbfhjaaGreat.Fe

/- FeaGa: a polygon holds itself. -/
import Derived.Test.YtfgajejhjbfhjaaGreatPolO
import Derived.Test.YtfgajejhjbfhjaaGreatGl
import Derived.Test.YtfgajejhjbfhjaaGreatSecZ
section
namespace Go.Proofs.YtfgajejhjbfhjaaGreat.Po
open Go.RowKit
set_option linter.unusedVariables false

theorem tu_rot (a b c : Pt) : tu a b c = tu b c a := by
  unfold tu turn
  congr 1
  unfold cross
  grind
theorem tu_aab (a b : Pt) : tu a b b = 0 := by
  unfold tu turn
  have : cross a.1 a.2 b.1 b.2 b.1 b.2 = 0 := by unfold cross; grind
  rw [this]
  rfl
theorem tu_aba (a b : Pt) : tu a b a = 0 := by
  unfold tu turn
  have : cross a.1 a.2 b.1 b.2 a.1 a.2 = 0 := by unfold cross; grind
  rw [this]
  rfl
theorem on_tu {q a b : Pt} (h : onP q a b = true) : tu a b q = 0 := by
  unfold onP on at h
  simp only [Bool.and_eq_true, decide_eq_true_eq] at h
  exact h.1.1
theorem on_fst (a b : Pt) : onP a a b = true := by
  unfold onP on between
  simp only [Bool.and_eq_true, decide_eq_true_eq]
  exact ⟨⟨tu_aba a b, by omega, by omega⟩, by omega, by omega⟩

/-- A corner lies on its own two edges alone. -/
theorem corner_edge {l : List Pt} (hv : vaL l = true) {i j : Nat} (hi : i < l.length) (hj : j < l.length) (h : onP (gp l i) (gp l j) (nx l j) = true) : i = j ∨ i = (j + 1) % l.length := by
  obtain ⟨h3, -, -, -, hb, hs, -⟩ := vaL_iff.1 hv
  have hb := of_decide_eq_true hb
  have hs := of_decide_eq_true hs
  by_cases e1 : i = j
  · exact .inl e1
  by_cases e2 : i = (j + 1) % l.length
  · exact .inr e2
  exfalso
  by_cases e3 : j = (i + 1) % l.length
  · have hp : pv l j = gp l i := by
      unfold pv
      congr 1
      subst e3
      by_cases hl : i + 1 < l.length
      · rw [Nat.mod_eq_of_lt hl, show i + 1 + l.length - 1 = i + l.length by omega, Nat.add_mod_right, Nat.mod_eq_of_lt hi]
      · obtain e : i + 1 = l.length := by omega
        rw [e, Nat.mod_self, Nat.zero_add, Nat.mod_eq_of_lt (by omega)]
        omega
    have hn := hb j hj
    rw [hp, tu_rot] at hn
    exact hn (on_tu h)
  · rcases Nat.lt_or_gt_of_ne e1 with hlt | hlt
    · have hi1 : (i + 1) % l.length = i + 1 := Nat.mod_eq_of_lt (by omega)
      have hm := hs i hi j hj (by omega) (fun e => e2 e.symm)
      have : meP (gp l i) (gp l (i + 1)) (gp l j) (nx l j) = true := by
        unfold meP meetB anyOn
        unfold onP at h
        rw [h]
        simp
      rw [this] at hm
      cases hm
    · have hj1 : (j + 1) % l.length = j + 1 := Nat.mod_eq_of_lt (by omega)
      have hm := hs j hj i hi (by omega) (fun e => e3 e.symm)
      have hx : nx l j = gp l (j + 1) := by unfold nx; rw [hj1]
      rw [hx] at h
      have : meP (gp l j) (gp l (j + 1)) (gp l i) (nx l i) = true := by
        unfold meP meetB anyOn
        unfold onP at h
        rw [h]
        simp
      rw [this] at hm
      cases hm
/-- Edges do not cross. -/
theorem edge_cross {l : List Pt} (hv : vaL l = true) {i j : Nat} (hi : i < l.length) (hj : j < l.length) : crP (gp l j) (nx l j) (gp l i) (nx l i) = false := by
  obtain ⟨h3, -, -, -, hb, hs, -⟩ := vaL_iff.1 hv
  have hs := of_decide_eq_true hs
  rw [Bool.eq_false_iff]
  intro hc
  unfold crP at hc
  rw [Bool.and_eq_true] at hc
  obtain ⟨c1, c2⟩ := hc
  have c1' := of_decide_eq_true c1
  have z : ∀ x y : Int, x = 0 ∨ y = 0 → ¬ (x * y < 0) := fun x y h => by rcases h with rfl | rfl <;> simp
  by_cases e1 : i = j
  · subst e1; exact z _ _ (.inl (tu_aba _ _)) c1'
  by_cases e2 : i = (j + 1) % l.length
  · have : nx l j = gp l i := by unfold nx; rw [← e2]
    rw [this] at c1'
    exact z _ _ (.inl (tu_aab _ _)) c1'
  by_cases e3 : j = (i + 1) % l.length
  · have : nx l i = gp l j := by unfold nx; rw [← e3]
    rw [this] at c1'
    exact z _ _ (.inr (tu_aba _ _)) c1'
  rcases Nat.lt_or_gt_of_ne e1 with hlt | hlt
  · have hi1 : (i + 1) % l.length = i + 1 := Nat.mod_eq_of_lt (by omega)
    have hm := hs i hi j hj (by omega) (fun e => e2 e.symm)
    have hx : nx l i = gp l (i + 1) := by unfold nx; rw [hi1]
    have : meP (gp l i) (gp l (i + 1)) (gp l j) (nx l j) = true := by
      rw [← hx]
      unfold meP meetB
      rw [c1, c2]
      rfl
    rw [this] at hm
    cases hm
  · have hj1 : (j + 1) % l.length = j + 1 := Nat.mod_eq_of_lt (by omega)
    have hm := hs j hj i hi (by omega) (fun e => e3 e.symm)
    have hx : nx l j = gp l (j + 1) := by unfold nx; rw [hj1]
    have : meP (gp l j) (gp l (j + 1)) (gp l i) (nx l i) = true := by
      rw [← hx]
      unfold meP meetB
      rw [c1, c2]
      rfl
    rw [this] at hm
    cases hm
theorem leads_own {l : List Pt} (hv : vaL l = true) {j : Nat} (hj : j < l.length) : leadsL l (gp l j) (nx l j) = true := by
  have key : ∀ k, k ≤ l.length → leadsF l (gp l j) (nx l j) k = true := by
    intro k
    induction k with
    | zero => intro _; rfl
    | succ k ih =>
      intro hk
      have ih := ih (by omega)
      obtain ⟨i, hi⟩ : ∃ i, l.length - (k + 1) = i := ⟨_, rfl⟩
      have hil : i < l.length := by omega
      rw [leadsF, hi]
      split
      · rename_i hld
        unfold ldAt at hld
        rw [Bool.and_eq_true, Bool.not_eq_true', decide_eq_false_iff_not] at hld
        obtain ⟨h1, h2⟩ := hld
        rcases corner_edge hv hj hil h2 with rfl | h
        · unfold ldVal
          rw [if_pos rfl, inA_iff]
          have z : tu (gp l j) (nx l j) (nx l j) = 0 := tu_aab _ _
          rw [z]
          by_cases hs : tu (pv l j) (gp l j) (nx l j) < 0
          · exact .inl ⟨hs, .inr (by omega)⟩
          · exact .inr ⟨by omega, by omega, by omega⟩
        · exact absurd (show gp l j = nx l i by unfold nx; rw [← h]) h1
      · exact ih
  exact key _ (Nat.le_refl _)
theorem si_on' {q : Pt} {l : List Pt} {i : Nat} (hi : i < l.length) (h : onP q (gp l i) (nx l i) = true) : siL q l = 0 := by
  unfold siL
  rw [if_pos (List.any_eq_true.2 ⟨i, List.mem_range.2 hi, h⟩)]
theorem ho_self {l : List Pt} (hv : vaL l = true) : hoL l l = true := by
  unfold hoL lackL
  rw [Bool.and_eq_true, Bool.not_eq_true', List.any_eq_false, List.all_eq_true]
  refine ⟨fun j hj => ?_, fun j hj => ?_⟩
  · have hj := List.mem_range.1 hj
    rw [si_on' hj (on_fst _ _)]
    simp
  · have hj := List.mem_range.1 hj
    unfold hwL
    rw [Bool.and_eq_true, List.all_eq_true]
    refine ⟨fun i hi => ?_, leads_own hv hj⟩
    have hi := List.mem_range.1 hi
    unfold hwB
    rw [edge_cross hv hi hj]
    simp only [Bool.not_false, Bool.true_and, Bool.not_eq_true', Bool.and_eq_false_iff, Bool.not_eq_false', decide_eq_true_eq]
    by_cases h1 : gp l i = nx l j
    · exact .inl (.inl (by simpa using h1))
    · by_cases h2 : onP (gp l i) (gp l j) (nx l j) = true
      · rcases corner_edge hv hi hj h2 with rfl | h
        · exact .inr (by rw [leads_own hv hj])
        · exact absurd (show gp l i = nx l j by unfold nx; rw [← h]) h1
      · exact .inl (.inr (by simpa using h2))
end Go.Proofs.YtfgajejhjbfhjaaGreat.Po
end

section
namespace Go.Proofs.YtfgajejhjbfhjaaGreat.Fe
open Go.RowKit
set_option linter.unusedVariables false

/-- The shape of a valid feature. -/
def okS : Sh → Prop
  | .dis x y r => ok x y ∧ 0 ≤ r ∧ r ≤ 100000
  | .pol l => Po.vaL l = true
  | .lig x y s => Se.vaL s = true ∧ ok x y
theorem va_parts {f : Fe} (h : vaF f = true) : bt f.id 1 100000 = true ∧ bt f.sy 0 999 = true ∧ suF f = true := by
  unfold vaF at h
  simp only [Bool.and_eq_true] at h
  exact ⟨h.1.1, h.1.2, h.2⟩
theorem va_ok {f : Fe} (h : vaF f = true) (hx : i64 f.x) (hy : i64 f.y) : okS (shF f) := by
  have hs := (va_parts h).2.2
  unfold suF at hs
  unfold shF
  by_cases hp : f.ki = 3 ∨ f.ki = 6
  · rw [if_pos hp] at hs ⊢
    simp only [Bool.and_eq_true] at hs
    exact hs.1.1.1.1
  · rw [if_neg hp] at hs ⊢
    by_cases hl : f.ki = 4
    · rw [if_pos hl] at hs ⊢
      simp only [Bool.and_eq_true, okB_iff] at hs
      exact ⟨hs.1.1.1.2, hs.1.1.1.1⟩
    · rw [if_neg hl] at hs ⊢
      by_cases hd : f.ki = 1 ∨ f.ki = 2 ∨ f.ki = 5
      · rw [if_pos hd] at hs
        simp only [Bool.and_eq_true, bt_iff] at hs
        obtain ⟨h0, h1⟩ := hs.1.1.1.1
        have := lim_ok hx hy h0 h1 hs.1.1.1.2
        exact ⟨by unfold ok; omega, h0, h1⟩
      · rw [if_neg hd] at hs
        cases hs
theorem sq_self (a b : Int) : sq a b a b = 0 := by unfold sq dot; grind
theorem hoS_self {s : Sh} (h : okS s) : hoS s s = true := by
  cases s with
  | dis x y r =>
    show lieB x y r x y r = true
    unfold lieB
    rw [Bool.and_eq_true, decide_eq_true_eq, decide_eq_true_eq, sq_self]
    have : (r - r) * (r - r) = 0 := by rw [Int.sub_self]; rfl
    omega
  | pol l => exact Po.ho_self h
  | lig x y q => rfl
theorem stS_self {s : Sh} (h : okS s) (d : Int) : stS s s d d = true := by
  cases s with
  | dis x y r => show (hoS _ _ && decide (d ≤ d)) = true; rw [hoS_self h]; simp
  | pol l => show (hoS _ _ && decide (d ≤ d)) = true; rw [hoS_self h]; simp
  | lig x y q =>
    show (decide (x = x) && decide (y = y) && Se.hoL q q 1) = true
    rw [Se.ho_self (fun i hi => (Se.vaL_all h.1).2 i hi) (by omega)]
    simp
end Go.Proofs.YtfgajejhjbfhjaaGreat.Fe
end

/- SecZ: what a light shows between turns. -/
import Derived.Test.YtpadkmlckmopfaaSecL
import Derived.Test.YtpadkmlckmopfaaRows
import Derived.WalkKit
import Derived.WalkSpells
import Derived.WalkLawsBesides
import Derived.Lib.Hide
import Derived.Deep.QuietTactic
import Derived.BigQuiet
import Derived.RegionTactic
import Derived.ChangeAlike
import Derived.BigRegion
import Derived.Deep.RegionHeld3
import Derived.Deep.RegionWith
import Derived.Outline
import Derived.IntWalk
import Derived.Deep.DeepCutAuto
namespace Go.Proofs.Ytpadkmlckmopfaa.Se
open Go.RowKit
set_option linter.unusedSimpArgs false
set_option linter.unusedVariables false

/-- There is a greatest direction. -/
theorem max_ex : ∀ (S : List V), S ≠ [] → (∀ x ∈ S, x ≠ (0, 0)) → ∃ u ∈ S, ∀ x ∈ S, cmV x u ≤ 0
  | [], h, _ => absurd rfl h
  | [a], _, _ => ⟨a, by simp, fun x hx => by simp at hx; subst hx; rw [cmV_self]; exact Int.le_refl 0⟩
  | a :: b :: S, _, h0 => by
    obtain ⟨u, hu, hm⟩ := max_ex (b :: S) (by simp) (fun x hx => h0 x (List.mem_cons_of_mem _ hx))
    have ha := h0 a (by simp)
    have hu0 := h0 u (List.mem_cons_of_mem _ hu)
    by_cases h : cmV a u ≤ 0
    · exact ⟨u, List.mem_cons_of_mem _ hu, fun x hx => by
        rcases List.mem_cons.1 hx with rfl | hx
        · exact h
        · exact hm x hx⟩
    · refine ⟨a, by simp, fun x hx => ?_⟩
      rcases List.mem_cons.1 hx with rfl | hx
      · rw [cmV_self]; exact Int.le_refl 0
      · have := cmV_anti a u
        exact cmV_trans (h0 x (List.mem_cons_of_mem _ hx)) hu0 ha (hm x hx) (by omega)
/-- In each direction sectors show what they show at some turn. -/
theorem turn_ex {T : List V} (hT : T ≠ []) (h0 : ∀ x ∈ T, x ≠ (0, 0)) {v : V} (hv : v ≠ (0, 0)) : ∃ u ∈ T, ∀ f ∈ T, ∀ t ∈ T, hasV f t v = hasV f t u := by
  by_cases h : ∃ x ∈ T, cmV x v ≤ 0
  · have hS : (T.filter fun x => decide (cmV x v ≤ 0)) ≠ [] := by
      obtain ⟨x, hx, hc⟩ := h
      intro e
      have : x ∈ (T.filter fun x => decide (cmV x v ≤ 0)) := List.mem_filter.2 ⟨hx, by simpa using hc⟩
      rw [e] at this
      cases this
    obtain ⟨u, hu, hm⟩ := max_ex _ hS (fun x hx => h0 x (List.mem_filter.1 hx).1)
    obtain ⟨hu1, hu2⟩ := List.mem_filter.1 hu
    have huv : cmV u v ≤ 0 := by simpa using hu2
    have key : ∀ f ∈ T, decide (cmV f v ≤ 0) = decide (cmV f u ≤ 0) := fun f hf => by
      rw [decide_eq_decide]
      exact ⟨fun k => hm f (List.mem_filter.2 ⟨hf, by simpa using k⟩), fun k => cmV_trans (h0 f hf) (h0 u hu1) hv k huv⟩
    refine ⟨u, hu1, fun f hf t ht => ?_⟩
    unfold hasV
    rw [key f hf, key t ht]
  · obtain ⟨u, hu, hm⟩ := max_ex T hT h0
    refine ⟨u, hu, fun f hf t ht => ?_⟩
    have n1 : decide (cmV f v ≤ 0) = false := decide_eq_false fun k => h ⟨f, hf, k⟩
    have n2 : decide (cmV t v ≤ 0) = false := decide_eq_false fun k => h ⟨t, ht, k⟩
    have p1 : decide (cmV f u ≤ 0) = true := decide_eq_true (hm f hf)
    have p2 : decide (cmV t u ≤ 0) = true := decide_eq_true (hm t ht)
    unfold hasV
    rw [n1, n2, p1, p2]
    split <;> rfl
theorem tuL_mem {l : List Sec} {s : Sec} (h : s ∈ l) : s.fr ∈ tuL l ∧ s.to ∈ tuL l := by
  unfold tuL
  constructor
  · exact List.mem_flatMap.2 ⟨s, h, by simp⟩
  · exact List.mem_flatMap.2 ⟨s, h, by simp⟩
theorem tuL_ok {l : List Sec} (h : allS l) {x : V} (hx : x ∈ tuL l) : okD x = true := by
  rw [← tuD_val h, List.mem_map] at hx
  obtain ⟨y, _, e⟩ := hx
  have e' : y.1 = x := e
  rw [← e']; exact y.2
theorem find_congr {l : List Sec} {u v : V} (h : ∀ s ∈ l, hasS s v = hasS s u) : shL l v = shL l u := by
  unfold shL
  have : (l.find? fun s => hasS s v) = l.find? fun s => hasS s u := by
    induction l with
    | nil => rfl
    | cons a l ih =>
      rw [List.find?_cons, List.find?_cons, h a (by simp), ih (fun s hs => h s (List.mem_cons_of_mem _ hs))]
  rw [this]
theorem sh_turn {a b : List Sec} (h : allS (a ++ b)) (hne : a ++ b ≠ []) {v : V} (hv : v ≠ (0, 0)) : ∃ u ∈ tuL (a ++ b), shL a v = shL a u ∧ shL b v = shL b u := by
  have hT : tuL (a ++ b) ≠ [] := by
    obtain ⟨s, hs⟩ := List.exists_mem_of_ne_nil _ hne
    exact List.ne_nil_of_mem (tuL_mem hs).1
  obtain ⟨u, hu, hk⟩ := turn_ex hT (fun x hx => (okD_iff.1 (tuL_ok h hx)).1) hv
  refine ⟨u, hu, find_congr fun s hs => ?_, find_congr fun s hs => ?_⟩
  · exact hk _ (tuL_mem (List.mem_append_left b hs)).1 _ (tuL_mem (List.mem_append_left b hs)).2
  · exact hk _ (tuL_mem (List.mem_append_right a hs)).1 _ (tuL_mem (List.mem_append_right a hs)).2
/-- Holding, in each direction. -/
theorem ho_iff {a b : List Sec} {c : Int} (ha : allS a) (hb : allS b) (hc : 1 ≤ c) : hoL a b c = true ↔ ∀ v, okD v = true → (shL a v).1 = c → (shL b v).1 = c ∧ (shL a v).2 ≤ (shL b v).2 := by
  have bad : ∀ v, badV a b c v = true ↔ (shL a v).1 = c ∧ ¬ ((shL b v).1 = c ∧ (shL a v).2 ≤ (shL b v).2) := fun v => by
    unfold badV
    simp only [Bool.and_eq_true, Bool.or_eq_true, Bool.not_eq_true', decide_eq_true_eq, decide_eq_false_iff_not]
    omega
  unfold hoL
  rw [List.all_eq_true]
  constructor
  · intro h v hv hcol
    by_cases hne : a ++ b = []
    · have : a = [] := (List.append_eq_nil_iff.1 hne).1
      subst this
      have : (shL [] v).1 = 0 := rfl
      omega
    · obtain ⟨u, hu, e1, e2⟩ := sh_turn (allS_app ha hb) hne (okD_iff.1 hv).1
      have := h u hu
      have nb : ¬ (badV a b c u = true) := by simpa using this
      rw [bad] at nb
      rw [e1] at hcol ⊢
      rw [e2]
      omega
  · intro h u hu
    have hk := h u (tuL_ok (allS_app ha hb) hu)
    have nb : ¬ (badV a b c u = true) := by
      rw [bad]
      intro ⟨h1, h2⟩
      exact h2 (hk h1)
    simpa using nb
theorem ho_self {a : List Sec} {c : Int} (ha : allS a) (hc : 1 ≤ c) : hoL a a c = true := (ho_iff ha ha hc).2 fun v _ h => ⟨h, Int.le_refl _⟩
theorem ho_trans {a b d : List Sec} {c : Int} (ha : allS a) (hb : allS b) (hd : allS d) (hc : 1 ≤ c) (h1 : hoL a b c = true) (h2 : hoL b d c = true) : hoL a d c = true :=
  (ho_iff ha hd hc).2 fun v hv h => by
    have k1 := (ho_iff ha hb hc).1 h1 v hv h
    have k2 := (ho_iff hb hd hc).1 h2 v hv k1.1
    omega


end Go.Proofs.Ytpadkmlckmopfaa.Se

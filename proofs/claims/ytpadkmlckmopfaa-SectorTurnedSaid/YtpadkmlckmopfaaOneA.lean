/- OneA: one color. -/
import Derived.Test.YtpadkmlckmopfaaSecZ
import Derived.Test.YtpadkmlckmopfaaSecJ
import Derived.Test.YtpadkmlckmopfaaRows
import Derived.WalkKit
import Derived.WalkSpells
import Derived.WalkLawsBesides
import Derived.Lib.Hide
import Derived.Deep.QuietTactic
import Derived.BigQuiet
import Derived.RegionTactic
import Derived.ChangeAlike
import Derived.BigRegion
import Derived.Deep.RegionHeld3
import Derived.Deep.RegionWith
import Derived.Outline
import Derived.IntWalk
import Derived.Deep.DeepCutAuto
namespace Go.Proofs.Ytpadkmlckmopfaa.Se
open Go.RowKit
set_option linter.unusedSimpArgs false
set_option linter.unusedVariables false

/-- More of q than of p. -/
theorem countP_lt {S : List V} {p q : V → Bool} (h : ∀ y ∈ S, p y = true → q y = true) {z : V} (hz : z ∈ S) (hq : q z = true) (hp : p z = false) : S.countP p < S.countP q := by
  induction S with
  | nil => cases hz
  | cons a S ih =>
    rw [List.countP_cons, List.countP_cons]
    have ha := h a (by simp)
    have hS : ∀ y ∈ S, p y = true → q y = true := fun y hy => h y (List.mem_cons_of_mem _ hy)
    rcases List.mem_cons.1 hz with rfl | hz
    · have := List.countP_mono_left hS
      simp [hq, hp]
      omega
    · have := ih hS hz
      cases hpa : p a
      · simp; omega
      · simp [ha hpa]; omega
/-- The angles of some directions, as numbers in order. -/
theorem rank_ex (S : List V) (h0 : ∀ x ∈ S, x ≠ (0, 0)) : ∃ r : V → Int, ∀ x ∈ S, ∀ y ∈ S, (cmV x y ≤ 0 ↔ r x ≤ r y) := by
  refine ⟨fun x => (S.countP fun y => decide (cmV y x < 0) : Nat), fun x hx y hy => ⟨fun h => ?_, fun h => ?_⟩⟩
  · have := List.countP_mono_left (l := S) (p := fun z => decide (cmV z x < 0)) (q := fun z => decide (cmV z y < 0)) fun z hz hzx => by
      have hzx : cmV z x < 0 := by simpa using hzx
      have t1 := cmV_trans (h0 z hz) (h0 x hx) (h0 y hy) (by omega) h
      rcases Int.lt_or_le (cmV z y) 0 with g | g
      · simpa using g
      · have a1 := cmV_anti z y
        have := cmV_trans (h0 x hx) (h0 y hy) (h0 z hz) h (by omega)
        have := cmV_anti z x
        omega
    exact Int.ofNat_le.2 this
  · rcases Int.lt_or_le 0 (cmV x y) with g | g
    · have a1 := cmV_anti x y
      have := countP_lt (S := S) (p := fun z => decide (cmV z y < 0)) (q := fun z => decide (cmV z x < 0)) (z := y) (fun z hz hzy => by
        have hzy : cmV z y < 0 := by simpa using hzy
        rcases Int.lt_or_le (cmV z x) 0 with g2 | g2
        · simpa using g2
        · have a2 := cmV_anti z x
          have := cmV_trans (h0 y hy) (h0 x hx) (h0 z hz) (by omega) (by omega)
          have := cmV_anti z y
          omega) hy (by simp; omega) (by have := cmV_self y; simp; omega)
      have h2 := Int.ofNat_le.1 h
      omega
    · exact g
theorem has_rank {f t v : V} {r : V → Int} (h1 : cmV f t ≤ 0 ↔ r f ≤ r t) (h2 : cmV t f ≤ 0 ↔ r t ≤ r f) (h3 : cmV f v ≤ 0 ↔ r f ≤ r v) (h4 : cmV t v ≤ 0 ↔ r t ≤ r v) : hasV f t v = true ↔ ((r f < r t ∧ r f ≤ r v ∧ r v < r t) ∨ (r t ≤ r f ∧ (r f ≤ r v ∨ r v < r t))) := by
  have a := cmV_anti f t
  unfold hasV
  split
  · simp only [Bool.and_eq_true, Bool.not_eq_true', decide_eq_true_eq, decide_eq_false_iff_not]
    omega
  · simp only [Bool.or_eq_true, Bool.not_eq_true', decide_eq_true_eq, decide_eq_false_iff_not]
    omega
/-- Two sectors that have one direction meet. -/
theorem has_ov {f t g u v : V} (f0 : f ≠ (0, 0)) (t0 : t ≠ (0, 0)) (g0 : g ≠ (0, 0)) (u0 : u ≠ (0, 0)) (v0 : v ≠ (0, 0)) (h1 : hasV f t v = true) (h2 : hasV g u v = true) : hasV f t g = true ∨ hasV g u f = true := by
  obtain ⟨r, hr⟩ := rank_ex [f, t, g, u, v] (by intro x hx; simp at hx; rcases hx with rfl | rfl | rfl | rfl | rfl <;> assumption)
  have q : ∀ x, x ∈ [f, t, g, u, v] → ∀ y, y ∈ [f, t, g, u, v] → (cmV x y ≤ 0 ↔ r x ≤ r y) := hr
  rw [has_rank (r := r) (q _ (by simp) _ (by simp)) (q _ (by simp) _ (by simp)) (q _ (by simp) _ (by simp)) (q _ (by simp) _ (by simp))] at h1 h2 ⊢
  rw [has_rank (r := r) (q _ (by simp) _ (by simp)) (q _ (by simp) _ (by simp)) (q _ (by simp) _ (by simp)) (q _ (by simp) _ (by simp))]
  omega
theorem ovS_has {s t : Sec} (hs : vaS s = true) (ht : vaS t = true) {v : V} (hv : okD v = true) (h1 : hasS s v = true) (h2 : hasS t v = true) : ovS s t = true := by
  have a := vaS_iff.1 hs
  have b := vaS_iff.1 ht
  have := has_ov (okD_iff.1 a.1).1 (okD_iff.1 a.2.1).1 (okD_iff.1 b.1).1 (okD_iff.1 b.2.1).1 (okD_iff.1 hv).1 h1 h2
  unfold ovS
  rw [Bool.or_eq_true]
  exact this
theorem gs_at {l : List Sec} {i : Nat} (h : i < l.length) : gs l i = l[i] := by
  unfold gs
  rw [List.getD_eq_getElem?_getD, List.getElem?_eq_getElem h]
  rfl
theorem soK_iff (l : List Sec) (k : Nat) (hk : k ≤ l.length) : soK l k = true ↔ ∀ i, i < k → vaS (gs l i) = true ∧ ∀ j, j < i → ovS (gs l i) (gs l j) = false := by
  induction k with
  | zero => simp [soK]
  | succ k ih =>
    have ih := ih (by omega)
    have key : ((l.take k).any fun t => ovS (gs l k) t) = false ↔ ∀ j, j < k → ovS (gs l k) (gs l j) = false := by
      rw [List.any_eq_false]
      constructor
      · intro h j hj
        have hm : gs l j ∈ l.take k := by
          rw [gs_at (show j < l.length by omega), List.mem_take_iff_getElem]
          exact ⟨j, by omega, rfl⟩
        have := h _ hm
        simpa using this
      · intro h t ht
        rw [List.mem_take_iff_getElem] at ht
        obtain ⟨j, hj, rfl⟩ := ht
        have := h j (by omega)
        rw [gs_at (show j < l.length by omega)] at this
        simpa using this
    unfold soK
    rw [Bool.and_eq_true, Bool.and_eq_true, Bool.not_eq_true', key, ih]
    constructor
    · rintro ⟨h1, h2, h3⟩ i hi
      rcases Nat.lt_or_ge i k with g | g
      · exact h1 i g
      · obtain rfl : i = k := by omega
        exact ⟨h2, h3⟩
    · intro h
      exact ⟨fun i hi => h i (by omega), h k (by omega)⟩
theorem ovS_comm (s t : Sec) : ovS s t = ovS t s := by unfold ovS; rw [Bool.or_comm]
theorem vaL_pair (l : List Sec) : vaL l = true ↔ l.length ≤ 12 ∧ (∀ s ∈ l, vaS s = true) ∧ l.Pairwise fun s t => ovS s t = false := by
  unfold vaL
  rw [Bool.and_eq_true, decide_eq_true_eq, soK_iff l _ (Nat.le_refl _), List.pairwise_iff_getElem]
  refine and_congr_right fun _ => ⟨fun h => ⟨fun s hs => ?_, fun i j hi hj hij => ?_⟩, fun ⟨h1, h2⟩ i hi => ⟨?_, fun j hj => ?_⟩⟩
  · obtain ⟨i, hi, rfl⟩ := List.getElem_of_mem hs
    have := (h i hi).1
    rwa [gs_at hi] at this
  · have := (h j hj).2 i hij
    rw [gs_at hi, gs_at hj] at this
    rw [ovS_comm]; exact this
  · rw [gs_at hi]; exact h1 _ (List.getElem_mem hi)
  · have := h2 j i (by omega) hi hj
    rw [gs_at hi, gs_at (show j < l.length by omega), ovS_comm]; exact this
theorem vaL_perm {l m : List Sec} (h : l.Perm m) (hl : vaL l = true) : vaL m = true := by
  obtain ⟨h1, h2, h3⟩ := (vaL_pair l).1 hl
  refine (vaL_pair m).2 ⟨by rw [← h.length_eq]; exact h1, fun s hs => h2 s (h.mem_iff.2 hs), ?_⟩
  exact h.pairwise h3 fun {x y} hxy => by rw [ovS_comm]; exact hxy
theorem only_one {l : List Sec} (hl : vaL l = true) {v : V} (hv : okD v = true) {s t : Sec} (hs : s ∈ l) (ht : t ∈ l) (h1 : hasS s v = true) (h2 : hasS t v = true) : s = t := by
  obtain ⟨_, k2, k3⟩ := (vaL_pair l).1 hl
  obtain ⟨i, hi, rfl⟩ := List.getElem_of_mem hs
  obtain ⟨j, hj, rfl⟩ := List.getElem_of_mem ht
  have a1 := k2 _ hs
  have a2 := k2 _ ht
  have ov := ovS_has a1 a2 hv h1 h2
  rw [List.pairwise_iff_getElem] at k3
  rcases Nat.lt_trichotomy i j with g | g | g
  · have := k3 i j hi hj g
    rw [ov] at this
    cases this
  · subst g; rfl
  · have := k3 j i hj hi g
    rw [ovS_comm, ov] at this
    cases this
theorem sh_one {l : List Sec} (hl : vaL l = true) {v : V} (hv : okD v = true) {s : Sec} (hs : s ∈ l) (h1 : hasS s v = true) : shL l v = (s.co, s.ra) := by
  unfold shL
  cases hf : l.find? fun s => hasS s v with
  | none => exact absurd h1 (by have := List.find?_eq_none.1 hf s hs; simpa using this)
  | some t =>
    have ht := List.mem_of_find?_eq_some hf
    have h2 : hasS t v = true := by have := List.find?_some hf; simpa using this
    rw [only_one hl hv hs ht h1 h2]
theorem sh_none {l : List Sec} {v : V} (h : ∀ s ∈ l, hasS s v = false) : shL l v = (0, 0) := by
  unfold shL
  rw [List.find?_eq_none.2 fun s hs => by simp [h s hs]]
theorem sh_perm {l m : List Sec} (h : l.Perm m) (hl : vaL l = true) {v : V} (hv : okD v = true) : shL m v = shL l v := by
  by_cases hh : ∃ s ∈ l, hasS s v = true
  · obtain ⟨s, hs, h1⟩ := hh
    rw [sh_one hl hv hs h1, sh_one (vaL_perm h hl) hv (h.mem_iff.1 hs) h1]
  · rw [sh_none fun s hs => by cases e : hasS s v with | false => rfl | true => exact absurd ⟨s, h.mem_iff.2 hs, e⟩ hh, sh_none fun s hs => by cases e : hasS s v with | false => rfl | true => exact absurd ⟨s, hs, e⟩ hh]
/-- How many of the first k sectors have a direction. -/
def cnK (l : List Sec) (v : V) (k : Nat) : Nat := (l.take k).countP fun s => hasS s v
theorem cnK_succ {l : List Sec} {v : V} {k : Nat} (h : k < l.length) : cnK l v (k + 1) = cnK l v k + if hasS (gs l k) v = true then 1 else 0 := by
  unfold cnK
  rw [take_succ_gs h, List.countP_append]
  simp [List.countP_cons]
theorem cn_le {l : List Sec} (k2 : ∀ s ∈ l, vaS s = true) (k3 : l.Pairwise fun s t => ovS s t = false) {v : V} (hv : okD v = true) : l.countP (fun s => hasS s v) ≤ 1 := by
  induction l with
  | nil => simp
  | cons a l ih =>
    rw [List.countP_cons]
    rw [List.pairwise_cons] at k3
    have := ih (fun s hs => k2 s (List.mem_cons_of_mem _ hs)) k3.2
    cases ha : hasS a v
    · simp; omega
    · have : l.countP (fun s => hasS s v) = 0 := by
        rw [List.countP_eq_zero]
        intro s hs h
        have ov := ovS_has (k2 a (by simp)) (k2 s (List.mem_cons_of_mem _ hs)) hv ha h
        rw [k3.1 s hs] at ov
        cases ov
      rw [this]
      split <;> omega
theorem cn_end {l : List Sec} (hl : vaL l = true) {v : V} (hv : okD v = true) : cnK l v l.length ≤ 1 ∧ (cnK l v l.length = 1 ∨ shL l v = (0, 0)) := by
  obtain ⟨_, k2, k3⟩ := (vaL_pair l).1 hl
  unfold cnK
  rw [List.take_length]
  have h := cn_le k2 k3 hv
  refine ⟨h, ?_⟩
  rcases Nat.lt_or_ge 0 (l.countP fun s => hasS s v) with g | g
  · exact .inl (by omega)
  · right
    have : l.countP (fun s => hasS s v) = 0 := by omega
    rw [List.countP_eq_zero] at this
    exact sh_none fun s hs => by simpa using this s hs
/-- A list turned round. -/
def roL (l : List Sec) (k : Nat) : List Sec := l.drop k ++ l.take k
theorem roL_perm (l : List Sec) (k : Nat) : l.Perm (roL l k) := by
  unfold roL
  have h : (l.take k ++ l.drop k).Perm (l.drop k ++ l.take k) := List.perm_append_comm
  rwa [List.take_append_drop] at h
theorem ro_va {l : List Sec} (k : Nat) (hl : vaL l = true) : vaL (roL l k) = true := vaL_perm (roL_perm l k) hl
theorem ro_sh {l : List Sec} (k : Nat) (hl : vaL l = true) {v : V} (hv : okD v = true) : shL (roL l k) v = shL l v := sh_perm (roL_perm l k) hl hv

end Go.Proofs.Ytpadkmlckmopfaa.Se

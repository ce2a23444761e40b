/- GeoD: discs. -/
import Derived.Test.YtphcmdmfjhjidaaGeoK
import Derived.Test.YtphcmdmfjhjidaaRows
import Derived.WalkKit
import Derived.WalkSpells
import Derived.WalkLawsBesides
import Derived.Lib.Hide
import Derived.Deep.QuietTactic
import Derived.BigQuiet
import Derived.RegionTactic
import Derived.ChangeAlike
import Derived.BigRegion
import Derived.Deep.RegionHeld3
import Derived.Deep.RegionWith
import Derived.Outline
namespace Go.Proofs.Ytphcmdmfjhjidaa.Po
open Go.RowKit
set_option linter.unusedSimpArgs false
set_option linter.unusedVariables false

theorem cmp_lt0 {x y : Int} : cmp x y < 0 ↔ x < y := by
  unfold cmp
  split
  · omega
  · split <;> omega
theorem lt_iff (p1 p2 a1 a2 b1 b2 d : Int) : cmpDist p1 p2 a1 a2 b1 b2 d < 0 ↔
    (((a1 = b1 ∧ a2 = b2) ∨ dot a1 a2 b1 b2 p1 p2 < 0) → sq a1 a2 p1 p2 < d * d) ∧
    (¬ ((a1 = b1 ∧ a2 = b2) ∨ dot a1 a2 b1 b2 p1 p2 < 0) → sq a1 a2 b1 b2 < dot a1 a2 b1 b2 p1 p2 → sq b1 b2 p1 p2 < d * d) ∧
    (¬ ((a1 = b1 ∧ a2 = b2) ∨ dot a1 a2 b1 b2 p1 p2 < 0) → ¬ sq a1 a2 b1 b2 < dot a1 a2 b1 b2 p1 p2 → cross a1 a2 b1 b2 p1 p2 * cross a1 a2 b1 b2 p1 p2 < d * d * sq a1 a2 b1 b2) := by
  unfold cmpDist
  by_cases h1 : (a1 = b1 ∧ a2 = b2) ∨ dot a1 a2 b1 b2 p1 p2 < 0
  · rw [if_pos h1, cmp_lt0]
    exact ⟨fun h => ⟨fun _ => h, fun k => absurd h1 k, fun k => absurd h1 k⟩, fun h => h.1 h1⟩
  · rw [if_neg h1]
    by_cases h2 : sq a1 a2 b1 b2 < dot a1 a2 b1 b2 p1 p2
    · rw [if_pos h2, cmp_lt0]
      exact ⟨fun h => ⟨fun k => absurd k h1, fun _ _ => h, fun _ k => absurd h2 k⟩, fun h => h.2.1 h1 h2⟩
    · rw [if_neg h2, cmp_lt0]
      exact ⟨fun h => ⟨fun k => absurd k h1, fun _ k => absurd k h2, fun _ _ => h⟩, fun h => h.2.2 h1 h2⟩
theorem near_w_lt (p1 p2 a1 a2 b1 b2 d i j n : Int) (hi : 0 ≤ i) (hj : 0 ≤ j) (hn : n = i + j) (hp : 0 < n)
    (h : (n * p1 - (i * a1 + j * b1)) * (n * p1 - (i * a1 + j * b1)) + (n * p2 - (i * a2 + j * b2)) * (n * p2 - (i * a2 + j * b2)) < n * n * (d * d)) : cmpDist p1 p2 a1 a2 b1 b2 d < 0 := by
  have hnn : 0 < n * n := Int.mul_pos hp hp
  rw [lt_iff]
  refine ⟨fun k => Int.lt_of_mul_lt_mul_left (Int.lt_of_le_of_lt ?_ h) (Int.le_of_lt hnn), fun _ k => Int.lt_of_mul_lt_mul_left (Int.lt_of_le_of_lt ?_ h) (Int.le_of_lt hnn), fun k1 _ => Int.lt_of_mul_lt_mul_left ?_ (Int.le_of_lt hnn)⟩
  · have e : (n * p1 - (i * a1 + j * b1)) * (n * p1 - (i * a1 + j * b1)) + (n * p2 - (i * a2 + j * b2)) * (n * p2 - (i * a2 + j * b2)) = n * n * sq a1 a2 p1 p2 - 2 * (n * j * dot a1 a2 b1 b2 p1 p2) + j * j * sq a1 a2 b1 b2 := by
      subst hn; unfold sq dot; grind
    have g : 0 ≤ j * j * sq a1 a2 b1 b2 := Int.mul_nonneg (Int.mul_nonneg hj hj) (sq_nonneg a1 a2 b1 b2)
    have g2 : n * j * dot a1 a2 b1 b2 p1 p2 ≤ 0 := by
      rcases k with ⟨rfl, rfl⟩ | k
      · have : dot a1 a2 a1 a2 p1 p2 = 0 := by unfold dot; simp
        rw [this]; simp
      · exact Int.mul_nonpos_of_nonneg_of_nonpos (Int.mul_nonneg (by omega) hj) (by omega)
    omega
  · have e : (n * p1 - (i * a1 + j * b1)) * (n * p1 - (i * a1 + j * b1)) + (n * p2 - (i * a2 + j * b2)) * (n * p2 - (i * a2 + j * b2)) = n * n * sq b1 b2 p1 p2 + 2 * (n * i * (dot a1 a2 b1 b2 p1 p2 - sq a1 a2 b1 b2)) + i * i * sq a1 a2 b1 b2 := by
      subst hn; unfold sq dot; grind
    have g : 0 ≤ i * i * sq a1 a2 b1 b2 := Int.mul_nonneg (Int.mul_nonneg hi hi) (sq_nonneg a1 a2 b1 b2)
    have g2 : 0 ≤ n * i * (dot a1 a2 b1 b2 p1 p2 - sq a1 a2 b1 b2) := Int.mul_nonneg (Int.mul_nonneg (by omega) hi) (by omega)
    omega
  · have hN : 0 < sq a1 a2 b1 b2 := sq_pos a1 a2 b1 b2 (fun h => k1 (.inl h))
    have h' := Int.mul_lt_mul_of_pos_left h hN
    have e : sq a1 a2 b1 b2 * ((n * p1 - (i * a1 + j * b1)) * (n * p1 - (i * a1 + j * b1)) + (n * p2 - (i * a2 + j * b2)) * (n * p2 - (i * a2 + j * b2))) =
        n * n * (cross a1 a2 b1 b2 p1 p2 * cross a1 a2 b1 b2 p1 p2) + (n * dot a1 a2 b1 b2 p1 p2 - j * sq a1 a2 b1 b2) * (n * dot a1 a2 b1 b2 p1 p2 - j * sq a1 a2 b1 b2) := by
      subst hn; unfold sq dot cross; grind
    have g := sq_nn (n * dot a1 a2 b1 b2 p1 p2 - j * sq a1 a2 b1 b2)
    have e2 : n * n * (d * d * sq a1 a2 b1 b2) = sq a1 a2 b1 b2 * (n * n * (d * d)) := by grind
    omega
theorem ap_mono {p1 p2 a1 a2 b1 b2 r s : Int} (hs : 0 ≤ s) (hsr : s ≤ r) (h : 0 ≤ cmpDist p1 p2 a1 a2 b1 b2 r) : 0 ≤ cmpDist p1 p2 a1 a2 b1 b2 s := by
  by_cases hc : cmpDist p1 p2 a1 a2 b1 b2 s < 0
  · exfalso
    have hq : s * s ≤ r * r := Int.mul_le_mul hsr hsr hs (by omega)
    obtain ⟨h1, h2, h3⟩ := (lt_iff p1 p2 a1 a2 b1 b2 s).1 hc
    have := (lt_iff p1 p2 a1 a2 b1 b2 r).2 ⟨fun k => by have := h1 k; omega, fun k k' => by have := h2 k k'; omega, fun k k' => by
      have := h3 k k'
      have := Int.mul_le_mul_of_nonneg_right hq (sq_nonneg a1 a2 b1 b2)
      omega⟩
    omega
  · omega
/-- What the crossing of two segments is: weights on both. -/
theorem met_w {a1 a2 b1 b2 c1 c2 d1 d2 : Int} (h : meetB a1 a2 b1 b2 c1 c2 d1 d2 = true) :
    (on a1 a2 c1 c2 d1 d2 = true) ∨ (on b1 b2 c1 c2 d1 d2 = true) ∨ (on c1 c2 a1 a2 b1 b2 = true) ∨ (on d1 d2 a1 a2 b1 b2 = true) ∨
    ∃ i j n x y : Int, 0 ≤ i ∧ 0 ≤ j ∧ n = i + j ∧ 0 < n ∧ 0 ≤ x ∧ 0 < y ∧ n = x + y ∧ i * c1 + j * d1 = y * a1 + x * b1 ∧ i * c2 + j * d2 = y * a2 + x * b2 := by
  unfold meetB anyOn at h
  simp only [Bool.or_eq_true, Bool.and_eq_true] at h
  rcases h with ⟨h1, h2⟩ | ((h | h) | h) | h
  · right; right; right; right
    rw [crossB_iff] at h1 h2
    have e1 : (cross c1 c2 d1 d2 a1 a2 - cross c1 c2 d1 d2 b1 b2) = cross a1 a2 b1 b2 d1 d2 - cross a1 a2 b1 b2 c1 c2 := by unfold cross; grind
    have x1 : cross a1 a2 b1 b2 d1 d2 * c1 - cross a1 a2 b1 b2 c1 c2 * d1 = cross c1 c2 d1 d2 a1 a2 * b1 - cross c1 c2 d1 d2 b1 b2 * a1 := by unfold cross; grind
    have x2 : cross a1 a2 b1 b2 d1 d2 * c2 - cross a1 a2 b1 b2 c1 c2 * d2 = cross c1 c2 d1 d2 a1 a2 * b2 - cross c1 c2 d1 d2 b1 b2 * a2 := by unfold cross; grind
    generalize cross c1 c2 d1 d2 a1 a2 = A at *
    generalize cross c1 c2 d1 d2 b1 b2 = B at *
    generalize cross a1 a2 b1 b2 c1 c2 = U at *
    generalize cross a1 a2 b1 b2 d1 d2 = V at *
    by_cases hA : 0 < A
    · have hB : B < 0 := by
        by_cases k : B < 0
        · exact k
        · have := Int.mul_nonneg (a := A) (b := B) (by omega) (by omega); omega
      have hV : 0 ≤ V := by
        by_cases k : 0 ≤ V
        · exact k
        · have := Int.mul_nonneg_of_nonpos_of_nonpos (a := U) (b := V) (by omega) (by omega); omega
      have hU : U ≤ 0 := by
        by_cases k : U ≤ 0
        · exact k
        · have := Int.mul_nonneg (a := U) (b := V) (by omega) (by omega); omega
      exact ⟨V, -U, A - B, A, -B, hV, by omega, by omega, by omega, by omega, by omega, by omega, by grind, by grind⟩
    · have hA' : A < 0 := by
        by_cases k : A = 0
        · subst k; simp at h2
        · omega
      have hB : 0 < B := by
        by_cases k : 0 < B
        · exact k
        · have := Int.mul_nonneg_of_nonpos_of_nonpos (a := A) (b := B) (by omega) (by omega); omega
      have hV : V ≤ 0 := by
        by_cases k : V ≤ 0
        · exact k
        · have := Int.mul_nonneg (a := U) (b := V) (by omega) (by omega); omega
      have hU : 0 ≤ U := by
        by_cases k : 0 ≤ U
        · exact k
        · have := Int.mul_nonneg_of_nonpos_of_nonpos (a := U) (b := V) (by omega) (by omega); omega
      exact ⟨-V, U, B - A, -A, B, by omega, hU, by omega, by omega, by omega, by omega, by omega, by grind, by grind⟩
  · exact .inl h
  · exact .inr (.inr (.inl h))
  · exact .inr (.inl h)
  · exact .inr (.inr (.inr (.inl h)))
theorem sqw {a1 a2 b1 b2 x r : Int} (h : sq a1 a2 b1 b2 ≤ r * r) : x * x * sq a1 a2 b1 b2 ≤ x * x * (r * r) := Int.mul_le_mul_of_nonneg_left h (by have := sq_nn x; omega)
theorem sq_lt {x y n r : Int} (hx : 0 ≤ x) (hy : 0 < y) (hn : n = x + y) (hr : 0 < r * r) : x * x * (r * r) < n * n * (r * r) := by
  refine Int.mul_lt_mul_of_pos_right ?_ hr
  subst hn
  have h1 : 0 ≤ x * y := Int.mul_nonneg hx (by omega)
  have h2 : 0 < y * y := Int.mul_pos hy hy
  have : (x + y) * (x + y) = x * x + 2 * (x * y) + y * y := by grind
  omega
/-- A segment from a meets an edge: the edge is as near to a as the segment is long; and if it is no nearer, only its end meets it. -/
theorem met_near {a1 a2 b1 b2 c1 c2 d1 d2 r : Int} (h : meetB a1 a2 b1 b2 c1 c2 d1 d2 = true) (hr : sq a1 a2 b1 b2 ≤ r * r) : nearB a1 a2 c1 c2 d1 d2 r = true ∧ (0 ≤ cmpDist a1 a2 c1 c2 d1 d2 r → on b1 b2 c1 c2 d1 d2 = true) := by
  have hrr := sq_nn r
  by_cases hz : r * r = 0
  · obtain ⟨rfl, rfl⟩ := sq_eq a1 a2 b1 b2 (by omega)
    have hon : on a1 a2 c1 c2 d1 d2 = true := by
      rcases met_w h with h | h | h | h | ⟨i, j, n, x, y, hi, hj, hn, hp, hx, hy, hn2, e1, e2⟩
      · exact h
      · exact h
      · obtain ⟨i, j, n, hi, hj, hn, hp, e1, e2⟩ := on_w h
        have k1 : n * c1 = n * a1 := by rw [e1, hn]; grind
        have k2 : n * c2 = n * a2 := by rw [e2, hn]; grind
        have k3 := Int.eq_of_mul_eq_mul_left (by omega) k1
        have k4 := Int.eq_of_mul_eq_mul_left (by omega) k2
        subst k3 k4
        exact w_on 1 0 1 (by omega) (by omega) (by omega) (by omega) (by omega) (by omega)
      · obtain ⟨i, j, n, hi, hj, hn, hp, e1, e2⟩ := on_w h
        have k1 : n * d1 = n * a1 := by rw [e1, hn]; grind
        have k2 : n * d2 = n * a2 := by rw [e2, hn]; grind
        have k3 := Int.eq_of_mul_eq_mul_left (by omega) k1
        have k4 := Int.eq_of_mul_eq_mul_left (by omega) k2
        subst k3 k4
        exact w_on 0 1 1 (by omega) (by omega) (by omega) (by omega) (by omega) (by omega)
      · exact w_on i j n hi hj hn hp (by rw [e1, hn2]; grind) (by rw [e2, hn2]; grind)
    exact ⟨near_on hon (by rw [sq_self]; omega), fun _ => hon⟩
  · have hpos : 0 < r * r := by omega
    rcases met_w h with h | h | h | h | ⟨i, j, n, x, y, hi, hj, hn, hp, hx, hy, hn2, e1, e2⟩
    · refine ⟨near_on h (by rw [sq_self]; omega), fun hc => ?_⟩
      exfalso
      obtain ⟨i, j, n, hi, hj, hn, hp, e1, e2⟩ := on_w h
      have := near_w_lt a1 a2 c1 c2 d1 d2 r i j n hi hj hn hp (by
        rw [e1, e2]
        have := Int.mul_pos (Int.mul_pos hp hp) hpos
        simpa using this)
      omega
    · exact ⟨near_on h hr, fun _ => h⟩
    · obtain ⟨i, j, n, hi, hj, hn, hp, e1, e2⟩ := on_w h
      have e : (n * a1 - (n * c1 + 0 * d1)) * (n * a1 - (n * c1 + 0 * d1)) + (n * a2 - (n * c2 + 0 * d2)) * (n * a2 - (n * c2 + 0 * d2)) = j * j * sq a1 a2 b1 b2 := by
        rw [e1, e2, hn]; unfold sq dot; grind
      have g := sqw (x := j) hr
      have hle : j * j * (r * r) ≤ n * n * (r * r) := Int.mul_le_mul_of_nonneg_right (Int.mul_le_mul (by omega) (by omega) hj (by omega)) hrr
      refine ⟨near_w a1 a2 c1 c2 d1 d2 r n 0 n (by omega) (by omega) (by omega) hp (by rw [e]; omega), fun hc => ?_⟩
      by_cases hi0 : i = 0
      · subst hi0
        have k1 : n * c1 = n * b1 := by rw [e1, hn]; grind
        have k2 : n * c2 = n * b2 := by rw [e2, hn]; grind
        have k3 := Int.eq_of_mul_eq_mul_left (by omega) k1
        have k4 := Int.eq_of_mul_eq_mul_left (by omega) k2
        subst k3 k4
        exact w_on 1 0 1 (by omega) (by omega) (by omega) (by omega) (by omega) (by omega)
      · exfalso
        have hl := sq_lt (x := j) (y := i) (n := n) (r := r) hj (by omega) (by omega) hpos
        have := near_w_lt a1 a2 c1 c2 d1 d2 r n 0 n (by omega) (by omega) (by omega) hp (by rw [e]; omega)
        omega
    · obtain ⟨i, j, n, hi, hj, hn, hp, e1, e2⟩ := on_w h
      have e : (n * a1 - (0 * c1 + n * d1)) * (n * a1 - (0 * c1 + n * d1)) + (n * a2 - (0 * c2 + n * d2)) * (n * a2 - (0 * c2 + n * d2)) = j * j * sq a1 a2 b1 b2 := by
        rw [e1, e2, hn]; unfold sq dot; grind
      have g := sqw (x := j) hr
      have hle : j * j * (r * r) ≤ n * n * (r * r) := Int.mul_le_mul_of_nonneg_right (Int.mul_le_mul (by omega) (by omega) hj (by omega)) hrr
      refine ⟨near_w a1 a2 c1 c2 d1 d2 r 0 n n (by omega) (by omega) (by omega) hp (by rw [e]; omega), fun hc => ?_⟩
      by_cases hi0 : i = 0
      · subst hi0
        have k1 : n * d1 = n * b1 := by rw [e1, hn]; grind
        have k2 : n * d2 = n * b2 := by rw [e2, hn]; grind
        have k3 := Int.eq_of_mul_eq_mul_left (by omega) k1
        have k4 := Int.eq_of_mul_eq_mul_left (by omega) k2
        subst k3 k4
        exact w_on 0 1 1 (by omega) (by omega) (by omega) (by omega) (by omega) (by omega)
      · exfalso
        have hl := sq_lt (x := j) (y := i) (n := n) (r := r) hj (by omega) (by omega) hpos
        have := near_w_lt a1 a2 c1 c2 d1 d2 r 0 n n (by omega) (by omega) (by omega) hp (by rw [e]; omega)
        omega
    · have e : (n * a1 - (i * c1 + j * d1)) * (n * a1 - (i * c1 + j * d1)) + (n * a2 - (i * c2 + j * d2)) * (n * a2 - (i * c2 + j * d2)) = x * x * sq a1 a2 b1 b2 := by
        rw [e1, e2, hn2]; unfold sq dot; grind
      have g := sqw (x := x) hr
      have hl := sq_lt (x := x) (y := y) (n := n) (r := r) hx hy hn2 hpos
      refine ⟨near_w a1 a2 c1 c2 d1 d2 r i j n hi hj hn hp (by rw [e]; omega), fun hc => ?_⟩
      exfalso
      have := near_w_lt a1 a2 c1 c2 d1 d2 r i j n hi hj hn hp (by rw [e]; omega)
      omega
theorem di_one {l : List Pt} {q : Pt} {r : Int} (h : diL l q r = 1) : ¬ siL q l < 0 ∧ ∀ i, i < l.length → 0 ≤ cmpDist q.1 q.2 (gp l i).1 (gp l i).2 (nx l i).1 (nx l i).2 r := by
  unfold diL diV at h
  by_cases ho : siL q l < 0
  · exfalso
    simp only [ho, decide_true, if_true] at h
    split at h <;> omega
  · refine ⟨ho, fun i hi => ?_⟩
    simp only [ho, decide_false] at h
    split at h
    · rename_i hall
      have := List.all_eq_true.1 hall i (List.mem_range.2 hi)
      unfold diB apP at this
      simpa using this
    · omega
theorem di_neg {l : List Pt} {q : Pt} {r : Int} (h : diL l q r = -1) : siL q l < 0 ∧ ∀ i, i < l.length → 0 ≤ cmpDist q.1 q.2 (gp l i).1 (gp l i).2 (nx l i).1 (nx l i).2 r ∧ neP q (gp l i) (nx l i) r = false := by
  unfold diL diV at h
  by_cases ho : siL q l < 0
  · refine ⟨ho, fun i hi => ?_⟩
    simp only [ho, decide_true] at h
    split at h
    · rename_i hall
      have := List.all_eq_true.1 hall i (List.mem_range.2 hi)
      unfold diB apP at this
      simpa using this
    · omega
  · exfalso
    simp only [ho, decide_false] at h
    split at h <;> simp at h
theorem disc_one {l : List Pt} {q : Pt} {r s : Int} (hs : 0 ≤ s) (hsr : s ≤ r) (h : diL l q r = 1) : diL l q s = 1 := by
  obtain ⟨h1, h2⟩ := di_one h
  unfold diL diV
  have hall : ((List.range l.length).all fun i => diB q s (decide (siL q l < 0)) (gp l i) (nx l i)) = true := by
    rw [List.all_eq_true]
    intro i hi
    have := ap_mono hs hsr (h2 i (List.mem_range.1 hi))
    simp [diB, apP, this, h1]
  rw [if_pos hall]
  simp [h1]
theorem disc_neg {l : List Pt} {q : Pt} {r s : Int} (hs : 0 ≤ s) (hsr : s ≤ r) (h : diL l q r = -1) : diL l q s = -1 := by
  obtain ⟨h1, h2⟩ := di_neg h
  unfold diL diV
  have hall : ((List.range l.length).all fun i => diB q s (decide (siL q l < 0)) (gp l i) (nx l i)) = true := by
    rw [List.all_eq_true]
    intro i hi
    obtain ⟨k1, k2⟩ := h2 i (List.mem_range.1 hi)
    have k3 := ap_mono hs hsr k1
    have k4 : neP q (gp l i) (nx l i) s = false := by
      rw [Bool.eq_false_iff] at k2 ⊢
      exact fun hh => k2 (near_mono hs hsr hh)
    simp [diB, apP, k3, k4]
  rw [if_pos hall]
  simp [h1]
theorem si_on {q : Pt} {l : List Pt} {i : Nat} (hi : i < l.length) (h : onP q (gp l i) (nx l i) = true) : siL q l = 0 := by
  unfold siL
  rw [if_pos]
  rw [List.any_eq_true]
  exact ⟨i, List.mem_range.2 hi, h⟩
theorem si_zero {q : Pt} {l : List Pt} (h : siL q l = 0) : ∃ i, i < l.length ∧ onP q (gp l i) (nx l i) = true := by
  unfold siL at h
  split at h
  · rename_i k
    obtain ⟨i, hi, k⟩ := List.any_eq_true.1 k
    exact ⟨i, List.mem_range.1 hi, k⟩
  · split at h <;> omega
theorem met_some {a b : Pt} {l : List Pt} (h : siL a l * siL b l = -1) : ∃ i, i < l.length ∧ meP a b (gp l i) (nx l i) = true := by
  obtain ⟨i, hi, k⟩ := List.any_eq_true.1 (geo_inside h)
  exact ⟨i, List.mem_range.1 hi, k⟩
theorem si_three (q : Pt) (l : List Pt) : siL q l = 1 ∨ siL q l = 0 ∨ siL q l = -1 := by
  unfold siL
  split
  · exact .inr (.inl rfl)
  · split
    · exact .inl rfl
    · exact .inr (.inr rfl)
/-- A place of a disc that is in the polygon. -/
theorem disc_has {l : List Pt} {q o : Pt} {r : Int} (hr : sq q.1 q.2 o.1 o.2 ≤ r * r) (h : diL l q r = 1) : 0 ≤ siL o l := by
  obtain ⟨h1, h2⟩ := di_one h
  rcases si_three o l with k | k | k
  · omega
  · omega
  · exfalso
    rcases si_three q l with g | g | g
    · obtain ⟨i, hi, hm⟩ := met_some (a := q) (b := o) (l := l) (by rw [g, k]; rfl)
      have := (met_near hm hr).2 (h2 i hi)
      have := si_on hi this
      omega
    · obtain ⟨i, hi, hon⟩ := si_zero g
      have hm : meetB q.1 q.2 o.1 o.2 (gp l i).1 (gp l i).2 (nx l i).1 (nx l i).2 = true := by
        have hon' : on q.1 q.2 (gp l i).1 (gp l i).2 (nx l i).1 (nx l i).2 = true := hon
        unfold meetB anyOn
        rw [hon']
        simp
      have := (met_near hm hr).2 (h2 i hi)
      have := si_on hi this
      omega
    · omega
/-- No place of a disc that has nothing in common with the polygon. -/
theorem disc_lacks {l : List Pt} {q o : Pt} {r : Int} (hr : sq q.1 q.2 o.1 o.2 ≤ r * r) (h : diL l q r = -1) : siL o l < 0 := by
  obtain ⟨h1, h2⟩ := di_neg h
  have g : siL q l = -1 := by rcases si_three q l with g | g | g <;> omega
  rcases si_three o l with k | k | k
  · exfalso
    obtain ⟨i, hi, hm⟩ := met_some (a := q) (b := o) (l := l) (by rw [g, k]; rfl)
    have e := (met_near hm hr).1
    have e2 := (h2 i hi).2
    unfold neP at e2
    rw [e] at e2
    cases e2
  · exfalso
    obtain ⟨i, hi, hon⟩ := si_zero k
    have e : nearB q.1 q.2 (gp l i).1 (gp l i).2 (nx l i).1 (nx l i).2 r = true := near_on hon hr
    have e2 := (h2 i hi).2
    unfold neP at e2
    rw [e] at e2
    cases e2
  · omega
theorem near_self {o1 o2 q1 q2 r : Int} (h : nearB o1 o2 q1 q2 q1 q2 r = true) : sq q1 q2 o1 o2 ≤ r * r := ((near_iff o1 o2 q1 q2 q1 q2 r).1 h).1 (.inl ⟨rfl, rfl⟩)

end Go.Proofs.Ytphcmdmfjhjidaa.Po

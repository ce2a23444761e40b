/- GeoT: touching. -/
import Derived.Test.YtphcmdmfjhjidaaGeoD
import Derived.Test.YtphcmdmfjhjidaaRows
import Derived.WalkKit
import Derived.WalkSpells
import Derived.WalkLawsBesides
import Derived.Lib.Hide
import Derived.Deep.QuietTactic
import Derived.BigQuiet
import Derived.RegionTactic
import Derived.ChangeAlike
import Derived.BigRegion
import Derived.Deep.RegionHeld3
import Derived.Deep.RegionWith
import Derived.Outline
namespace Go.Proofs.Ytphcmdmfjhjidaa.Po
open Go.RowKit
set_option linter.unusedSimpArgs false
set_option linter.unusedVariables false

def sc (n : Int) (p : Pt) : Pt := (n * p.1, n * p.2)
theorem mle {n a b : Int} (hn : 0 < n) : n * a ≤ n * b ↔ a ≤ b := ⟨fun h => Int.le_of_mul_le_mul_left h hn, fun h => Int.mul_le_mul_of_nonneg_left h (by omega)⟩
theorem mlt {n a b : Int} (hn : 0 < n) : n * a < n * b ↔ a < b := ⟨fun h => Int.lt_of_mul_lt_mul_left h (by omega), fun h => Int.mul_lt_mul_of_pos_left h hn⟩
theorem mpos {n a : Int} (hn : 0 < n) : 0 < n * a ↔ 0 < a := ⟨fun h => gt_of (by omega) h, fun h => Int.mul_pos hn h⟩
theorem cross_sc (n a1 a2 b1 b2 c1 c2 : Int) : cross (n * a1) (n * a2) (n * b1) (n * b2) (n * c1) (n * c2) = n * n * cross a1 a2 b1 b2 c1 c2 := by unfold cross; grind
theorem btw_iff {p a b : Int} : between p a b = true ↔ (a ≤ p ∧ p ≤ b) ∨ (b ≤ p ∧ p ≤ a) := by
  unfold between
  simp only [Bool.and_eq_true, decide_eq_true_eq]
  omega
theorem on_iff' {p1 p2 a1 a2 b1 b2 : Int} : on p1 p2 a1 a2 b1 b2 = true ↔ cross a1 a2 b1 b2 p1 p2 = 0 ∧ between p1 a1 b1 = true ∧ between p2 a2 b2 = true := by
  unfold on
  simp only [Bool.and_eq_true, decide_eq_true_eq, turn_eq, and_assoc]
theorem on_sc {n p1 p2 a1 a2 b1 b2 : Int} (hn : 0 < n) : on (n * p1) (n * p2) (n * a1) (n * a2) (n * b1) (n * b2) = on p1 p2 a1 a2 b1 b2 := by
  rw [Bool.eq_iff_iff, on_iff', on_iff', cross_sc, btw_iff, btw_iff, btw_iff, btw_iff]
  simp only [mle hn]
  have h : n * n * cross a1 a2 b1 b2 p1 p2 = 0 ↔ cross a1 a2 b1 b2 p1 p2 = 0 := by
    have := Int.mul_pos hn hn
    rw [Int.mul_eq_zero]
    omega
  rw [h]
theorem crossB_sc {n a1 a2 b1 b2 c1 c2 d1 d2 : Int} (hn : 0 < n) : crossB (n * a1) (n * a2) (n * b1) (n * b2) (n * c1) (n * c2) (n * d1) (n * d2) = crossB a1 a2 b1 b2 c1 c2 d1 d2 := by
  rw [Bool.eq_iff_iff, crossB_iff, crossB_iff, cross_sc, cross_sc]
  have hK : 0 < n * n * (n * n) := Int.mul_pos (Int.mul_pos hn hn) (Int.mul_pos hn hn)
  have e : n * n * cross a1 a2 b1 b2 c1 c2 * (n * n * cross a1 a2 b1 b2 d1 d2) = n * n * (n * n) * (cross a1 a2 b1 b2 c1 c2 * cross a1 a2 b1 b2 d1 d2) := by grind
  rw [e]
  exact ⟨fun h => lt_of (Int.le_of_lt hK) h, fun h => Int.mul_neg_of_pos_of_neg hK h⟩
theorem meet_sc {n a1 a2 b1 b2 c1 c2 d1 d2 : Int} (hn : 0 < n) : meetB (n * a1) (n * a2) (n * b1) (n * b2) (n * c1) (n * c2) (n * d1) (n * d2) = meetB a1 a2 b1 b2 c1 c2 d1 d2 := by
  unfold meetB anyOn
  rw [crossB_sc hn, crossB_sc hn, on_sc hn, on_sc hn, on_sc hn, on_sc hn]
theorem meP_sc {n : Int} (hn : 0 < n) (a b c d : Pt) : meP (sc n a) (sc n b) (sc n c) (sc n d) = meP a b c d := meet_sc hn
theorem paE_sc {n : Int} (hn : 0 < n) (q a b : Pt) : paE (sc n q) (sc n a) (sc n b) = paE q a b := by
  have hK := Int.mul_pos hn hn
  rw [Bool.eq_iff_iff, paE_iff, paE_iff, tu_pos, tu_pos, tu_pos, tu_pos]
  unfold sc
  dsimp only
  rw [cross_sc, cross_sc]
  simp only [mle hn, mlt hn, mpos hK]
theorem common_w {a1 a2 b1 b2 c1 c2 d1 d2 : Int} (i j s t n : Int) (hi : 0 ≤ i) (hj : 0 ≤ j) (hs : 0 ≤ s) (ht : 0 ≤ t) (h1 : n = i + j) (h2 : n = s + t) (hn : 0 < n)
    (e1 : i * c1 + j * d1 = s * a1 + t * b1) (e2 : i * c2 + j * d2 = s * a2 + t * b2) : meetB a1 a2 b1 b2 c1 c2 d1 d2 = true := by
  rw [← meet_sc hn]
  refine meet_of (p1 := i * c1 + j * d1) (p2 := i * c2 + j * d2) (w_on s t n hs ht h2 hn ?_ ?_) (w_on i j n hi hj h1 hn ?_ ?_)
  · rw [e1]; grind
  · rw [e2]; grind
  · grind
  · grind
/-- What meets a part of a segment meets the segment. -/
theorem meet_sub {a1 a2 b1 b2 z1 z2 c1 c2 d1 d2 : Int} (hz : on z1 z2 a1 a2 b1 b2 = true) (h : meetB a1 a2 z1 z2 c1 c2 d1 d2 = true) : meetB a1 a2 b1 b2 c1 c2 d1 d2 = true := by
  rcases met_w h with k | k | k | k | ⟨i, j, n, x, y, hi, hj, hn, hp, hx, hy, hn2, e1, e2⟩
  · unfold meetB anyOn; rw [k]; simp
  · exact meet_of hz k
  · obtain ⟨s, t, q, hs, ht, hq, hq0, f1, f2⟩ := on_w hz
    obtain ⟨i, j, n, hi, hj, hn, hp, e1, e2⟩ := on_w k
    have : on c1 c2 a1 a2 b1 b2 = true := w_on (q * i + j * s) (j * t) (q * n) (Int.add_nonneg (Int.mul_nonneg (by omega) hi) (Int.mul_nonneg hj hs)) (Int.mul_nonneg hj ht) (by rw [hn, hq]; grind) (Int.mul_pos hq0 hp) (by grind) (by grind)
    unfold meetB anyOn; rw [this]; simp
  · obtain ⟨s, t, q, hs, ht, hq, hq0, f1, f2⟩ := on_w hz
    obtain ⟨i, j, n, hi, hj, hn, hp, e1, e2⟩ := on_w k
    have : on d1 d2 a1 a2 b1 b2 = true := w_on (q * i + j * s) (j * t) (q * n) (Int.add_nonneg (Int.mul_nonneg (by omega) hi) (Int.mul_nonneg hj hs)) (Int.mul_nonneg hj ht) (by rw [hn, hq]; grind) (Int.mul_pos hq0 hp) (by grind) (by grind)
    unfold meetB anyOn; rw [this]; simp
  · obtain ⟨s, t, q, hs, ht, hq, hq0, f1, f2⟩ := on_w hz
    exact common_w (q * i) (q * j) (q * y + x * s) (x * t) (q * n) (Int.mul_nonneg (by omega) hi) (Int.mul_nonneg (by omega) hj) (Int.add_nonneg (Int.mul_nonneg (by omega) (by omega)) (Int.mul_nonneg hx hs)) (Int.mul_nonneg hx ht)
      (by rw [hn]; grind) (by rw [hn2, hq]; grind) (Int.mul_pos hq0 hp) (by grind) (by grind)
theorem par_sub {u v z : Pt} {m : List Pt} (hz : onP z u v = true) (n : ∀ j, j < m.length → meP u v (gp m j) (nx m j) = false) : parK z m m.length = parK u m m.length := by
  refine (par_eq (a := u) (b := z) fun j hj => ?_).symm
  rw [Bool.eq_false_iff]
  intro h
  have := n j hj
  rw [show meP u v (gp m j) (nx m j) = true from meet_sub hz h] at this
  cases this
def scL (n : Int) (m : List Pt) : List Pt := m.map (sc n)
theorem gp_scL (n : Int) (m : List Pt) (i : Nat) : gp (scL n m) i = sc n (gp m i) := by
  unfold gp scL
  rw [List.getD_eq_getElem?_getD, List.getD_eq_getElem?_getD, List.getElem?_map]
  cases m[i]? <;> simp [sc]
theorem scL_len (n : Int) (m : List Pt) : (scL n m).length = m.length := by simp [scL]
theorem nx_scL (n : Int) (m : List Pt) (i : Nat) : nx (scL n m) i = sc n (nx m i) := by
  unfold nx
  rw [gp_scL, scL_len]
theorem parK_sc {n : Int} (hn : 0 < n) (q : Pt) (m : List Pt) (k : Nat) : parK (sc n q) (scL n m) k = parK q m k := by
  induction k with
  | zero => rfl
  | succ k ih => rw [parK_succ, parK_succ, ih, gp_scL, nx_scL, paE_sc hn]
def keyC (q u v : Pt) : Int := if u.2 ≤ v.2 then cross u.1 u.2 v.1 v.2 q.1 q.2 else cross v.1 v.2 u.1 u.2 q.1 q.2
def keyD (u v : Pt) : Int := if u.2 ≤ v.2 then v.2 - u.2 else u.2 - v.2
/-- How an edge passes a place that lies on another one, east of q. -/
theorem pass_at {q p r : Pt} {C D : Int} (hpr : p.2 ≤ r.2) (hC : 0 < C) (hD : 0 < D) (hmin : paE q p r = true → C * (r.2 - p.2) ≤ cross p.1 p.2 r.1 r.2 q.1 q.2 * D)
    (hne : onP (D * q.1 + C, D * q.2) (sc D p) (sc D r) = false) : paE (D * q.1 + C, D * q.2) (sc D p) (sc D r) = paE q p r := by
  rw [paE_up hpr] at hmin ⊢
  rw [paE_up (show (sc D p).2 ≤ (sc D r).2 from (mle hD).2 hpr)]
  unfold sc at hne ⊢
  dsimp only at hne ⊢
  have e : cross (D * p.1) (D * p.2) (D * r.1) (D * r.2) (D * q.1 + C) (D * q.2) = D * (D * cross p.1 p.2 r.1 r.2 q.1 q.2 - (r.2 - p.2) * C) := by unfold cross; grind
  rw [e]
  simp only [mle hD, mlt hD]
  by_cases h1 : p.2 ≤ q.2
  · by_cases h2 : q.2 < r.2
    · have hne' : D * cross p.1 p.2 r.1 r.2 q.1 q.2 ≠ (r.2 - p.2) * C := by
        intro k
        have : onP (D * q.1 + C, D * q.2) (D * p.1, D * p.2) (D * r.1, D * r.2) = true := by
          refine w_on (r.2 - q.2) (q.2 - p.2) (r.2 - p.2) (by omega) (by omega) (by omega) (by omega) ?_ ?_
          · dsimp only
            unfold cross at k
            grind
          · dsimp only
            grind
        rw [this] at hne
        cases hne
      have g : (0 < D * (D * cross p.1 p.2 r.1 r.2 q.1 q.2 - (r.2 - p.2) * C)) ↔ 0 < cross p.1 p.2 r.1 r.2 q.1 q.2 := by
        rw [mpos hD]
        constructor
        · intro k
          have : 0 < (r.2 - p.2) * C := Int.mul_pos (by omega) hC
          exact gt_of (n := D) (by omega) (by omega)
        · intro k
          have := hmin (by simp [h1, h2, k])
          have e2 : cross p.1 p.2 r.1 r.2 q.1 q.2 * D = D * cross p.1 p.2 r.1 r.2 q.1 q.2 := Int.mul_comm _ _
          have e3 : C * (r.2 - p.2) = (r.2 - p.2) * C := Int.mul_comm _ _
          omega
      simp [h1, h2, g]
    · simp [h2]
  · simp [h1]
theorem ray0 {q u v : Pt} {m : List Pt} (huv : u.2 ≤ v.2) (hp : paE q u v = true)
    (hmin : ∀ j, j < m.length → paE q (gp m j) (nx m j) = true → cross u.1 u.2 v.1 v.2 q.1 q.2 * keyD (gp m j) (nx m j) ≤ keyC q (gp m j) (nx m j) * (v.2 - u.2))
    (hsep : ∀ j, j < m.length → meP u v (gp m j) (nx m j) = false) (hu : parK u m m.length = false) : parK q m m.length = false := by
  rw [paE_up huv] at hp
  simp only [Bool.and_eq_true, decide_eq_true_eq] at hp
  obtain ⟨⟨h1, h2⟩, hC⟩ := hp
  have hD : 0 < v.2 - u.2 := by omega
  generalize hCe : cross u.1 u.2 v.1 v.2 q.1 q.2 = C at *
  generalize hDe : v.2 - u.2 = D at *
  have hz : onP (D * q.1 + C, D * q.2) (sc D u) (sc D v) = true := by
    refine w_on (v.2 - q.2) (q.2 - u.2) D (by omega) (by omega) (by omega) hD ?_ ?_
    · unfold cross at hCe
      simp only [sc]
      subst hCe hDe
      grind
    · simp only [sc]
      subst hDe
      grind
  have hs : ∀ j, j < (scL D m).length → meP (sc D u) (sc D v) (gp (scL D m) j) (nx (scL D m) j) = false := fun j hj => by
    rw [gp_scL, nx_scL, meP_sc hD]
    exact hsep j (by rw [scL_len] at hj; exact hj)
  have e1 := par_sub hz hs
  rw [scL_len, parK_sc hD, hu] at e1
  rw [← e1]
  have key : ∀ k, k ≤ m.length → parK (D * q.1 + C, D * q.2) (scL D m) k = parK q m k := by
    intro k
    induction k with
    | zero => intro _; rfl
    | succ k ih =>
      intro hk
      rw [parK_succ, parK_succ, ih (by omega), gp_scL, nx_scL]
      congr 1
      have hmk := hmin k (by omega)
      have hno : onP (D * q.1 + C, D * q.2) (sc D (gp m k)) (sc D (nx m k)) = false := by
        rw [Bool.eq_false_iff]
        intro h
        have h3 := hs k (by rw [scL_len]; omega)
        rw [gp_scL, nx_scL] at h3
        rw [show meP (sc D u) (sc D v) (sc D (gp m k)) (sc D (nx m k)) = true from meet_of hz h] at h3
        cases h3
      by_cases hpr : (gp m k).2 ≤ (nx m k).2
      · refine pass_at hpr hC hD (fun h => ?_) hno
        have := hmk h
        unfold keyC keyD at this
        rw [if_pos hpr, if_pos hpr] at this
        exact this
      · rw [paE_sym q, paE_sym (D * q.1 + C, D * q.2)]
        refine pass_at (by omega) hC hD (fun h => ?_) (by
          unfold onP at hno ⊢
          rw [on_flip]
          exact hno)
        rw [paE_sym] at h
        have := hmk h
        unfold keyC keyD at this
        rw [if_neg hpr, if_neg hpr] at this
        exact this
  exact (key m.length (Nat.le_refl _)).symm
theorem exmin (n : Nat) (P : Nat → Bool) (C D : Nat → Int) (hD : ∀ i, P i = true → 0 < D i) (h : ∃ i, i < n ∧ P i = true) : ∃ i, i < n ∧ P i = true ∧ ∀ j, j < n → P j = true → C i * D j ≤ C j * D i := by
  induction n with
  | zero => obtain ⟨i, hi, _⟩ := h; omega
  | succ n ih =>
    by_cases hn : ∃ i, i < n ∧ P i = true
    · obtain ⟨i, hi, hPi, hm⟩ := ih hn
      cases hPn : P n
      · refine ⟨i, by omega, hPi, fun j hj hPj => ?_⟩
        by_cases hjn : j = n
        · subst hjn; rw [hPn] at hPj; cases hPj
        · exact hm j (by omega) hPj
      · by_cases hc : C i * D n ≤ C n * D i
        · refine ⟨i, by omega, hPi, fun j hj hPj => ?_⟩
          by_cases hjn : j = n
          · subst hjn; exact hc
          · exact hm j (by omega) hPj
        · refine ⟨n, by omega, hPn, fun j hj hPj => ?_⟩
          by_cases hjn : j = n
          · subst hjn; exact Int.le_refl _
          · have h1 := hm j (by omega) hPj
            have d1 := hD i hPi
            have d2 := hD n hPn
            have d3 := hD j hPj
            have k1 := Int.mul_le_mul_of_nonneg_right h1 (Int.le_of_lt d2)
            have k2 := Int.mul_le_mul_of_nonneg_right (Int.le_of_lt (Int.not_le.1 hc)) (Int.le_of_lt d3)
            refine Int.le_of_mul_le_mul_left (a := D i) ?_ d1
            have e1 : D i * (C n * D j) = C n * D i * D j := by grind
            have e2 : D i * (C j * D n) = C j * D i * D n := by grind
            have e3 : C i * D n * D j = C i * D j * D n := by grind
            omega
    · obtain ⟨i, hi, hPi⟩ := h
      obtain rfl : i = n := by
        by_cases k : i = n
        · exact k
        · exact absurd ⟨i, by omega, hPi⟩ hn
      refine ⟨i, by omega, hPi, fun j hj hPj => ?_⟩
      by_cases k : j = i
      · subst k; exact Int.le_refl _
      · exact absurd ⟨j, by omega, hPj⟩ hn
theorem parK_some {q : Pt} {l : List Pt} {k : Nat} (h : parK q l k = true) : ∃ i, i < k ∧ paE q (gp l i) (nx l i) = true := by
  induction k with
  | zero => simp [parK] at h
  | succ k ih =>
    rw [parK_succ] at h
    cases hk : paE q (gp l k) (nx l k)
    · rw [hk] at h
      simp at h
      obtain ⟨i, hi, g⟩ := ih h
      exact ⟨i, by omega, g⟩
    · exact ⟨k, by omega, hk⟩
theorem paE_key {q u v : Pt} (h : paE q u v = true) : 0 < keyC q u v ∧ 0 < keyD u v := by
  unfold keyC keyD
  by_cases huv : u.2 ≤ v.2
  · rw [if_pos huv, if_pos huv]
    rw [paE_up huv] at h
    simp only [Bool.and_eq_true, decide_eq_true_eq] at h
    omega
  · rw [if_neg huv, if_neg huv]
    rw [paE_sym, paE_up (by omega)] at h
    simp only [Bool.and_eq_true, decide_eq_true_eq] at h
    omega
theorem ray {q u v : Pt} {m : List Pt} (hp : paE q u v = true) (hmin : ∀ j, j < m.length → paE q (gp m j) (nx m j) = true → keyC q u v * keyD (gp m j) (nx m j) ≤ keyC q (gp m j) (nx m j) * keyD u v)
    (hsep : ∀ j, j < m.length → meP u v (gp m j) (nx m j) = false) (hu : parK u m m.length = false) (hv : parK v m m.length = false) : parK q m m.length = false := by
  by_cases huv : u.2 ≤ v.2
  · refine ray0 huv hp (fun j hj h => ?_) hsep hu
    have := hmin j hj h
    rw [show keyC q u v = _ from if_pos huv, show keyD u v = _ from if_pos huv] at this
    exact this
  · refine ray0 (u := v) (v := u) (by omega) (by rw [paE_sym]; exact hp) (fun j hj h => ?_) (fun j hj => ?_) hv
    · have := hmin j hj h
      rw [show keyC q u v = _ from if_neg huv, show keyD u v = _ from if_neg huv] at this
      exact this
    · have := hsep j hj
      unfold meP at this ⊢
      rw [meet_flip]
      exact this
theorem si_one {q : Pt} {l : List Pt} (h : siL q l = 1) : parK q l l.length = true := by
  rw [siL_par] at h
  split at h
  · omega
  · split at h
    · assumption
    · omega
theorem si_neg {q : Pt} {l : List Pt} (h : siL q l < 0) : parK q l l.length = false := by
  rw [siL_par] at h
  split at h
  · omega
  · split at h
    · omega
    · rename_i k
      simpa using k
theorem ap_sep {l m : List Pt} (h : apL l m = true) {i j : Nat} (hi : i < l.length) (hj : j < m.length) : meP (gp l i) (nx l i) (gp m j) (nx m j) = false := by
  unfold apL at h
  have h1 := List.all_eq_true.1 h i (List.mem_range.2 hi)
  have h2 := List.all_eq_true.1 h1 j (List.mem_range.2 hj)
  simpa using h2
theorem meP_swap (a b c d : Pt) : meP c d a b = meP a b c d := meet_swap _ _ _ _ _ _ _ _
theorem par_all {l m : List Pt} (hsep : ∀ i j, i < l.length → j < m.length → meP (gp l i) (nx l i) (gp m j) (nx m j) = false) (h0 : parK (gp l 0) m m.length = false) (i : Nat) (hi : i < l.length) : parK (gp l i) m m.length = false := by
  induction i with
  | zero => exact h0
  | succ i ih =>
    have h := par_eq (a := gp l i) (b := nx l i) (l := m) fun j hj => hsep i j (by omega) hj
    rw [ih (by omega)] at h
    rw [show nx l i = gp l (i + 1) from by unfold nx; rw [Nat.mod_eq_of_lt hi]] at h
    exact h.symm
/-- A place of the border of the one polygon is not in the other one, if they do not touch. -/
theorem border_out {l m : List Pt} {q : Pt} (hsep : ∀ i j, i < l.length → j < m.length → meP (gp l i) (nx l i) (gp m j) (nx m j) = false) (h0 : parK (gp l 0) m m.length = false) (hq : siL q l = 0) : siL q m < 0 := by
  obtain ⟨i, hi, hon⟩ := si_zero hq
  rcases si_three q m with h | h | h
  · exfalso
    have h1 := par_sub hon fun j hj => hsep i j hi hj
    rw [si_one h, par_all hsep h0 i hi] at h1
    cases h1
  · exfalso
    obtain ⟨j, hj, hon2⟩ := si_zero h
    have := hsep i j hi hj
    rw [show meP (gp l i) (nx l i) (gp m j) (nx m j) = true from meet_of hon hon2] at this
    cases this
  · omega
theorem tou_of {l m : List Pt} {q : Pt} (h0l : 0 < l.length) (h0m : 0 < m.length) (hl : 0 ≤ siL q l) (hm : 0 ≤ siL q m) : touL l m = true := by
  cases ht : touL l m
  · exfalso
    unfold touL at ht
    simp only [Bool.or_eq_false_iff, Bool.not_eq_false', decide_eq_true_eq] at ht
    obtain ⟨hap, hml, hlm⟩ := ht
    have s1 : ∀ i j, i < l.length → j < m.length → meP (gp l i) (nx l i) (gp m j) (nx m j) = false := fun i j hi hj => ap_sep hap hi hj
    have s2 : ∀ j i, j < m.length → i < l.length → meP (gp m j) (nx m j) (gp l i) (nx l i) = false := fun j i hj hi => by rw [meP_swap]; exact s1 i j hi hj
    have p1 := si_neg hlm
    have p2 := si_neg hml
    have a1 := par_all s1 p1
    have a2 := par_all s2 p2
    have n1 : ∀ i, i < l.length → parK (nx l i) m m.length = false := fun i _ => a1 _ (Nat.mod_lt _ h0l)
    have n2 : ∀ i, i < m.length → parK (nx m i) l l.length = false := fun i _ => a2 _ (Nat.mod_lt _ h0m)
    rcases si_three q l with g | g | g
    · rcases si_three q m with k | k | k
      · have i1 := si_one g
        have i2 := si_one k
        obtain ⟨i, hi, hPi, mi⟩ := exmin l.length (fun i => paE q (gp l i) (nx l i)) (fun i => keyC q (gp l i) (nx l i)) (fun i => keyD (gp l i) (nx l i)) (fun i h => (paE_key h).2) (parK_some i1)
        obtain ⟨j, hj, hPj, mj⟩ := exmin m.length (fun i => paE q (gp m i) (nx m i)) (fun i => keyC q (gp m i) (nx m i)) (fun i => keyD (gp m i) (nx m i)) (fun i h => (paE_key h).2) (parK_some i2)
        obtain ⟨ci, di⟩ := paE_key hPi
        obtain ⟨cj, dj⟩ := paE_key hPj
        by_cases hc : keyC q (gp l i) (nx l i) * keyD (gp m j) (nx m j) ≤ keyC q (gp m j) (nx m j) * keyD (gp l i) (nx l i)
        · have := ray hPi (m := m) (fun j' hj' hp' => ?_) (fun j' hj' => s1 i j' hi hj') (a1 i hi) (n1 i hi)
          · rw [i2] at this; cases this
          · have h1 := mj j' hj' hp'
            obtain ⟨c', d'⟩ := paE_key hp'
            have k1 := Int.mul_le_mul_of_nonneg_right hc (Int.le_of_lt d')
            have k2 := Int.mul_le_mul_of_nonneg_right h1 (Int.le_of_lt di)
            refine Int.le_of_mul_le_mul_left (a := keyD (gp m j) (nx m j)) ?_ dj
            generalize keyC q (gp l i) (nx l i) = Ci at *
            generalize keyC q (gp m j) (nx m j) = Cj at *
            generalize keyC q (gp m j') (nx m j') = Ck at *
            generalize keyD (gp l i) (nx l i) = Di at *
            generalize keyD (gp m j) (nx m j) = Dj at *
            generalize keyD (gp m j') (nx m j') = Dk at *
            have e1 : Dj * (Ci * Dk) = Ci * Dj * Dk := by grind
            have e2 : Dj * (Ck * Di) = Ck * Dj * Di := by grind
            have e3 : Cj * Di * Dk = Cj * Dk * Di := by grind
            omega
        · have hc' := Int.le_of_lt (Int.not_le.1 hc)
          have := ray hPj (m := l) (fun j' hj' hp' => ?_) (fun j' hj' => s2 j j' hj hj') (a2 j hj) (n2 j hj)
          · rw [i1] at this; cases this
          · have h1 := mi j' hj' hp'
            obtain ⟨c', d'⟩ := paE_key hp'
            have k1 := Int.mul_le_mul_of_nonneg_right hc' (Int.le_of_lt d')
            have k2 := Int.mul_le_mul_of_nonneg_right h1 (Int.le_of_lt dj)
            refine Int.le_of_mul_le_mul_left (a := keyD (gp l i) (nx l i)) ?_ di
            generalize keyC q (gp l i) (nx l i) = Ci at *
            generalize keyC q (gp m j) (nx m j) = Cj at *
            generalize keyC q (gp l j') (nx l j') = Ck at *
            generalize keyD (gp l i) (nx l i) = Di at *
            generalize keyD (gp m j) (nx m j) = Dj at *
            generalize keyD (gp l j') (nx l j') = Dk at *
            have e1 : Di * (Cj * Dk) = Cj * Di * Dk := by grind
            have e2 : Di * (Ck * Dj) = Ck * Di * Dj := by grind
            have e3 : Ci * Dj * Dk = Ci * Dk * Dj := by grind
            omega
      · have := border_out s2 p2 k
        omega
      · omega
    · have := border_out s1 p1 g
      omega
    · omega
  · rfl
theorem apL_comm (l m : List Pt) : apL l m = apL m l := by
  rw [Bool.eq_iff_iff]
  constructor
  · intro h
    unfold apL
    rw [List.all_eq_true]
    intro j hj
    rw [List.all_eq_true]
    intro i hi
    rw [meP_swap, ap_sep h (List.mem_range.1 hi) (List.mem_range.1 hj)]
    rfl
  · intro h
    unfold apL
    rw [List.all_eq_true]
    intro j hj
    rw [List.all_eq_true]
    intro i hi
    rw [meP_swap, ap_sep h (List.mem_range.1 hi) (List.mem_range.1 hj)]
    rfl
theorem tou_comm (l m : List Pt) : touL l m = touL m l := by
  unfold touL
  rw [apL_comm, Bool.or_comm (!decide (siL (gp m 0) l < 0))]
theorem tou_self (l : List Pt) (h0 : 0 < l.length) : touL l l = true := by
  unfold touL
  have : apL l l = false := by
    rw [Bool.eq_false_iff]
    intro h
    have k := ap_sep h h0 h0
    have : meP (gp l 0) (nx l 0) (gp l 0) (nx l 0) = true := by
      rw [meP, meet_flip]
      exact meet_end _ _ _ _ _ _
    rw [this] at k
    cases k
  rw [this]
  rfl

end Go.Proofs.Ytphcmdmfjhjidaa.Po

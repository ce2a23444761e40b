/- FeaGc: what touches what. -/
import Derived.Test.YtfgajejhjbfhjaaGreatGn
import Derived.Test.YtfgajejhjbfhjaaGreatGc
namespace Go.Proofs.YtfgajejhjbfhjaaGreat.Fe
open Go.RowKit
set_option linter.unusedVariables false

theorem near_sq {o1 o2 q1 q2 r : Int} (hr : 0 ≤ r) : nearB o1 o2 q1 q2 q1 q2 r = true ↔ sq q1 q2 o1 o2 ≤ r * r := by
  refine ⟨fun h => ((near_iff o1 o2 q1 q2 q1 q2 r).1 h).1 (.inl ⟨rfl, rfl⟩), fun h => (near_iff o1 o2 q1 q2 q1 q2 r).2 ⟨fun _ => h, fun hn => absurd (.inl ⟨rfl, rfl⟩) hn, fun hn => absurd (.inl ⟨rfl, rfl⟩) hn⟩⟩
theorem sq_sym (a1 a2 b1 b2 : Int) : sq a1 a2 b1 b2 = sq b1 b2 a1 a2 := by unfold sq dot; grind
theorem sqnn (x : Int) : 0 ≤ x * x := by
  rcases Int.le_total 0 x with h | h
  · exact Int.mul_nonneg h h
  · exact Int.mul_nonneg_of_nonpos_of_nonpos h h
theorem dot_le {x y u v r s : Int} (hr : 0 ≤ r) (hs : 0 ≤ s) (h1 : x * x + y * y ≤ r * r) (h2 : u * u + v * v ≤ s * s) : x * u + y * v ≤ r * s := by
  by_cases hc : x * u + y * v ≤ r * s
  · exact hc
  exfalso
  have hp := Int.mul_nonneg hr hs
  have hlt : r * s < x * u + y * v := by omega
  have a1 : (r * s) * (r * s) < (x * u + y * v) * (x * u + y * v) := by
    have b1 : (r * s) * (r * s) ≤ (r * s) * (x * u + y * v) := Int.mul_le_mul_of_nonneg_left (by omega) hp
    have b2 : (r * s) * (x * u + y * v) < (x * u + y * v) * (x * u + y * v) := Int.mul_lt_mul_of_pos_right hlt (by omega)
    omega
  have a2 : (x * u + y * v) * (x * u + y * v) + (x * v - y * u) * (x * v - y * u) = (x * x + y * y) * (u * u + v * v) := by grind
  have a3 := sqnn (x * v - y * u)
  have a4 : (x * x + y * y) * (u * u + v * v) ≤ (r * r) * (s * s) := by
    have n1 := sqnn u
    have n2 := sqnn v
    have n3 := sqnn r
    have c1 : (x * x + y * y) * (u * u + v * v) ≤ (r * r) * (u * u + v * v) := Int.mul_le_mul_of_nonneg_right h1 (by omega)
    have c2 : (r * r) * (u * u + v * v) ≤ (r * r) * (s * s) := Int.mul_le_mul_of_nonneg_left h2 n3
    omega
  have a5 : (r * r) * (s * s) = (r * s) * (r * s) := by grind
  omega
theorem tri {a1 a2 b1 b2 p1 p2 r s : Int} (hr : 0 ≤ r) (hs : 0 ≤ s) (h1 : sq a1 a2 p1 p2 ≤ r * r) (h2 : sq p1 p2 b1 b2 ≤ s * s) : sq a1 a2 b1 b2 ≤ (r + s) * (r + s) := by
  have e1 : sq a1 a2 p1 p2 = (p1 - a1) * (p1 - a1) + (p2 - a2) * (p2 - a2) := by unfold sq dot; rfl
  have e2 : sq p1 p2 b1 b2 = (b1 - p1) * (b1 - p1) + (b2 - p2) * (b2 - p2) := by unfold sq dot; rfl
  have e3 : sq a1 a2 b1 b2 = sq a1 a2 p1 p2 + sq p1 p2 b1 b2 + 2 * ((p1 - a1) * (b1 - p1) + (p2 - a2) * (b2 - p2)) := by unfold sq dot; grind
  rw [e1] at h1
  rw [e2] at h2
  have := dot_le hr hs h1 h2
  have e4 : (r + s) * (r + s) = r * r + s * s + 2 * (r * s) := by grind
  omega
theorem toS_comm (s t : Sh) (hs : okS s) (ht : okS t) : toS s t = toS t s := by
  cases s with
  | dis d1 d2 d3 =>
    cases t with
    | dis e1 e2 e3 =>
      show nearB e1 e2 d1 d2 d1 d2 (d3 + e3) = nearB d1 d2 e1 e2 e1 e2 (e3 + d3)
      have := hs.2
      have := ht.2
      rw [Bool.eq_iff_iff, near_sq (by omega), near_sq (by omega), sq_sym, Int.add_comm]
    | pol m => rfl
    | lig x y q => rfl
  | pol l =>
    cases t with
    | dis e1 e2 e3 => rfl
    | pol m => exact Po.tou_comm l m
    | lig x y q => rfl
  | lig x y q => cases t <;> rfl
theorem di_of {l : List Po.Pt} {q o : Po.Pt} {r : Int} (hr : sq q.1 q.2 o.1 o.2 ≤ r * r) (ho : 0 ≤ Po.siL o l) : 0 ≤ Po.diL l q r := by
  have hc : Po.diL l q r = 1 ∨ Po.diL l q r = 0 ∨ Po.diL l q r = -1 := by
    unfold Po.diL Po.diV
    split
    · split <;> simp
    · simp
  rcases hc with h | h | h
  · omega
  · omega
  · have := Po.disc_lacks hr h
    omega
theorem to_co {s t : Sh} {p q : Int} (hs : okS s) (ht : okS t) (h1 : coS s p q = true) (h2 : coS t p q = true) : toS s t = true := by
  cases s with
  | dis d1 d2 d3 =>
    have hd := hs.2
    have k1 : sq d1 d2 p q ≤ d3 * d3 := (near_sq (by omega)).1 h1
    cases t with
    | dis e1 e2 e3 =>
      have he := ht.2
      have k2 : sq e1 e2 p q ≤ e3 * e3 := (near_sq (by omega)).1 h2
      exact (near_sq (by omega)).2 (tri (by omega) (by omega) k1 (by rw [sq_sym]; exact k2))
    | pol m => exact decide_eq_true (di_of (q := (d1, d2)) (o := (p, q)) k1 (of_decide_eq_true h2))
    | lig x y q => cases h2
  | pol l =>
    have k1 := of_decide_eq_true h1
    cases t with
    | dis e1 e2 e3 =>
      have he := ht.2
      have k2 : sq e1 e2 p q ≤ e3 * e3 := (near_sq (by omega)).1 h2
      exact decide_eq_true (di_of (q := (e1, e2)) (o := (p, q)) k2 k1)
    | pol m => exact Po.tou_of (Po.vaL_len hs) (Po.vaL_len ht) k1 (of_decide_eq_true h2)
    | lig x y q => cases h2
  | lig x y q => cases h1
theorem corner0 {l : List Po.Pt} (h : Po.vaL l = true) : Po.siL (Po.gp l 0) l = 0 := Po.si_on (Po.vaL_len h) (Po.on_fst _ _)
theorem ho_to {s t : Sh} {p q : Int} (hs : okS s) (ht : okS t) (h1 : hoS s t = true) (h2 : coS t p q = true) : toS s t = true := by
  cases t with
  | dis e1 e2 e3 =>
    have he := ht.2
    cases s with
    | dis d1 d2 d3 =>
      have hd := hs.2
      have h1 : lieB e1 e2 e3 d1 d2 d3 = true := h1
      unfold lieB at h1
      rw [Bool.and_eq_true, decide_eq_true_eq, decide_eq_true_eq] at h1
      refine (near_sq (by omega)).2 ?_
      rw [sq_sym]
      have e : (d3 + e3) * (d3 + e3) = (d3 - e3) * (d3 - e3) + 4 * (d3 * e3) := by grind
      have := Int.mul_nonneg hd.1 he.1
      omega
    | pol l =>
      have h1 : decide (0 < Po.diL l (e1, e2) e3) = true := h1
      have := of_decide_eq_true h1
      exact decide_eq_true (by omega)
    | lig x y q => cases h1
  | pol m =>
    cases s with
    | dis d1 d2 d3 =>
      have hd := hs.2
      have h1 : (!lackD m d1 d2 d3) = true := h1
      rw [Bool.not_eq_true'] at h1
      unfold lackD at h1
      rw [List.any_eq_false] at h1
      have := h1 0 (List.mem_range.2 (Po.vaL_len ht))
      have k : nearB (Po.gp m 0).1 (Po.gp m 0).2 d1 d2 d1 d2 d3 = true := by simpa using this
      have := corner0 ht
      exact decide_eq_true (di_of (q := (d1, d2)) (o := Po.gp m 0) ((near_sq (by omega)).1 k) (by omega))
    | pol l =>
      have h1 : Po.hoL l m = true := h1
      unfold Po.hoL at h1
      rw [Bool.and_eq_true, Bool.not_eq_true'] at h1
      have h3 := h1.1
      unfold Po.lackL at h3
      rw [List.any_eq_false] at h3
      have := h3 0 (List.mem_range.2 (Po.vaL_len ht))
      have k : 0 ≤ Po.siL (Po.gp m 0) l := by simpa using this
      have := corner0 ht
      exact Po.tou_of (Po.vaL_len hs) (Po.vaL_len ht) k (by omega)
    | lig x y q => cases h1
  | lig x y q => cases h2
end Go.Proofs.YtfgajejhjbfhjaaGreat.Fe

/- What package span computes, in plain words. -/
import Derived.Test.YtfgajejhjbfhjaaGreatBase
section
namespace Go.Proofs.YtfgajejhjbfhjaaGreat.Sp
open Go.RowKit

/-- The ends are in order, and from -m to m. -/
def vE (m a b : Int) : Bool := decide (-m ≤ a) && decide (a ≤ b) && decide (b ≤ m)
theorem vE_iff {m a b : Int} : vE m a b = true ↔ -m ≤ a ∧ a ≤ b ∧ b ≤ m := by simp [vE, and_assoc]
def vB (b1 b2 b3 b4 : Int) : Bool := vE 1000000 b1 b2 && vE 1000000 b3 b4
theorem vB_iff {b1 b2 b3 b4 : Int} : vB b1 b2 b3 b4 = true ↔ (-1000000 ≤ b1 ∧ b1 ≤ b2 ∧ b2 ≤ 1000000) ∧ (-1000000 ≤ b3 ∧ b3 ≤ b4 ∧ b4 ≤ 1000000) := by simp [vB, vE_iff]
def selI (b : Bool) (x : Int) : Int := bif b then x else 0
def selB (b : Bool) (x : Bool) : Bool := bif b then x else false
/-- The error of a call: 1 (ErrArg), or e, or none. -/
def erv (v r : Bool) (e : Int) : Int := bif v then (bif r then 0 else e) else 1
def ov (m a b : Int) (c d : Int) : Bool := vE m a b && vE m c d
/-- t has all of s. -/
def wI (s1 s2 t1 t2 : Int) : Bool := decide (t1 ≤ s1) && decide (s2 ≤ t2)
/-- There is a number in both. -/
def rM (s1 s2 t1 t2 : Int) : Bool := decide (max s1 t1 ≤ min s2 t2)
theorem wI_iff {s1 s2 t1 t2 : Int} : wI s1 s2 t1 t2 = true ↔ t1 ≤ s1 ∧ s2 ≤ t2 := by simp [wI]
theorem rM_iff {s1 s2 t1 t2 : Int} : rM s1 s2 t1 t2 = true ↔ max s1 t1 ≤ min s2 t2 := by simp [rM]
def kS (n d : Int) : Bool := decide (-1000000 ≤ n) && decide (n ≤ 1000000) && decide (1 ≤ d) && decide (d ≤ 1000000)
theorem kS_iff {n d : Int} : kS n d = true ↔ -1000000 ≤ n ∧ n ≤ 1000000 ∧ 1 ≤ d ∧ d ≤ 1000000 := by simp [kS, and_assoc]
def dn (n d : Int) : Int := n / d
def upd (n d : Int) : Int := -(-n / d)
theorem dn_spec {n d : Int} (hd : 0 < d) : dn n d * d ≤ n ∧ n < (dn n d + 1) * d := by
  unfold dn
  exact ⟨Int.ediv_mul_le n (by omega), Int.lt_ediv_add_one_mul_self n hd⟩
theorem upd_spec {n d : Int} (hd : 0 < d) : n ≤ upd n d * d ∧ (upd n d - 1) * d < n := by
  unfold upd
  have h1 := Int.ediv_mul_le (-n) (b := d) (by omega)
  have h2 := Int.lt_ediv_add_one_mul_self (-n) hd
  have e1 : -(-n / d) * d = -(-n / d * d) := by rw [Int.neg_mul]
  have e2 : (-(-n / d) - 1) * d = -((-n / d + 1) * d) := by rw [← Int.neg_mul]; congr 1; omega
  omega
theorem dn_tdiv {n d : Int} (hd : 0 < d) : dn n d = if Int.tmod n d < 0 then Int.tdiv n d - 1 else Int.tdiv n d := by
  have h1 := dn_spec (n := n) hd
  have h2 := Int.tmod_add_mul_tdiv n d
  have h3 := Int.tmod_lt_of_pos n hd
  have h4 : -d < Int.tmod n d := by
    have := Int.tmod_lt_of_pos (-n) hd
    rw [Int.neg_tmod] at this
    omega
  generalize dn n d = q at *
  generalize Int.tdiv n d = t at *
  generalize Int.tmod n d = r at *
  split
  · have a1 : q * d < t * d := by rw [Int.mul_comm t]; omega
    have a2 : (t - 1) * d < (q + 1) * d := by rw [Int.sub_mul, Int.mul_comm t]; omega
    have b1 := Int.lt_of_mul_lt_mul_right a1 (by omega)
    have b2 := Int.lt_of_mul_lt_mul_right a2 (by omega)
    omega
  · have a1 : q * d < (t + 1) * d := by rw [Int.add_mul, Int.mul_comm t]; omega
    have a2 : t * d < (q + 1) * d := by rw [Int.mul_comm t]; omega
    have b1 := Int.lt_of_mul_lt_mul_right a1 (by omega)
    have b2 := Int.lt_of_mul_lt_mul_right a2 (by omega)
    omega
theorem upd_tdiv {n d : Int} (hd : 0 < d) : upd n d = if 0 < Int.tmod n d then Int.tdiv n d + 1 else Int.tdiv n d := by
  have h : upd n d = - dn (-n) d := rfl
  rw [h, dn_tdiv hd, Int.neg_tmod, Int.neg_tdiv]
  split <;> split <;> omega
theorem upd_neg (n d : Int) : upd n d = - dn (-n) d := rfl
theorem div_bd {n d M : Int} (hd : 0 < d) (h1 : -M ≤ n) (h2 : n ≤ M) : -M ≤ dn n d ∧ dn n d ≤ M := by
  obtain ⟨a, b⟩ := dn_spec (n := n) hd
  generalize dn n d = q at *
  have hM : 0 ≤ M := by omega
  constructor
  · by_cases k : q < -M
    · have e : (q + 1) * d ≤ (-M) * d := Int.mul_le_mul_of_nonneg_right (by omega) (by omega)
      have f : (-M) * d ≤ (-M) * 1 := Int.mul_le_mul_of_nonpos_left (by omega) (by omega)
      omega
    · omega
  · by_cases k : M < q
    · have e : (M + 1) * d ≤ q * d := Int.mul_le_mul_of_nonneg_right (by omega) (by omega)
      have f : (M + 1) * 1 ≤ (M + 1) * d := Int.mul_le_mul_of_nonneg_left (by omega) (by omega)
      omega
    · omega
end Go.Proofs.YtfgajejhjbfhjaaGreat.Sp
end

section
namespace Go.Proofs.YtfgajejhjbfhjaaGreat.Sp
open Go.RowKit
set_option linter.unusedSimpArgs false
set_option linter.unusedVariables false

def vAdd (s1 s2 t1 t2 : Int) : Bool := vE 1000000000000 s1 s2 && vE 1000000000000 t1 t2
def rAdd (s1 s2 t1 t2 : Int) : Bool := vE 1000000000000 (s1 + t1) (s2 + t2)
def vSub (s1 s2 t1 t2 : Int) : Bool := vE 1000000000000 s1 s2 && vE 1000000000000 t1 t2
def rSub (s1 s2 t1 t2 : Int) : Bool := vE 1000000000000 (s1 - t2) (s2 - t1)
def vScale (s1 s2 n d : Int) : Bool := vE 1000000000000 s1 s2 && kS n d
def rScale (s1 s2 n d : Int) : Bool := vE 1000000000000 (dn (min (s1 * n) (s2 * n)) d) (upd (max (s1 * n) (s2 * n)) d)
def vMeet (s1 s2 t1 t2 : Int) : Bool := vE 1000000000000 s1 s2 && vE 1000000000000 t1 t2
def rMeet (s1 s2 t1 t2 : Int) : Bool := rM s1 s2 t1 t2
def vJoin (s1 s2 t1 t2 : Int) : Bool := vE 1000000000000 s1 s2 && vE 1000000000000 t1 t2
def vWithin (s1 s2 t1 t2 : Int) : Bool := vE 1000000000000 s1 s2 && vE 1000000000000 t1 t2
def vMeetBox (a1 a2 a3 a4 b1 b2 b3 b4 : Int) : Bool := vB a1 a2 a3 a4 && vB b1 b2 b3 b4
def rMeetBox (a1 a2 a3 a4 b1 b2 b3 b4 : Int) : Bool := rM a1 a2 b1 b2 && rM a3 a4 b3 b4
def vJoinBox (a1 a2 a3 a4 b1 b2 b3 b4 : Int) : Bool := vB a1 a2 a3 a4 && vB b1 b2 b3 b4
def vWithinBox (a1 a2 a3 a4 b1 b2 b3 b4 : Int) : Bool := vB a1 a2 a3 a4 && vB b1 b2 b3 b4
def vInBox (p1 p2 b1 b2 b3 b4 : Int) : Bool := vB p1 p1 p2 p2 && vB b1 b2 b3 b4
def vGrowBox (b1 b2 b3 b4 n : Int) : Bool := vB b1 b2 b3 b4 && decide (0 ≤ n) && decide (n ≤ 3000000)
def rGrowBox (b1 b2 b3 b4 n : Int) : Bool := vB (b1 - n) (b2 + n) (b3 - n) (b4 + n)

end Go.Proofs.YtfgajejhjbfhjaaGreat.Sp
end

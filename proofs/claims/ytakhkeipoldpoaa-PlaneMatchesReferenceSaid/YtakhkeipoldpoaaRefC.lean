/- Wide products of the reference implementation: the walks. -/
import Derived.Test.YtakhkeipoldpoaaRefA
namespace Go.Proofs.Ytakhkeipoldpoaa
open Go.RowKit

set_option maxRecDepth 100000 in
set_option maxHeartbeats 1600000 in
theorem times_c (x y : Int) (w : World) (hx : sm x) (hy : sm y) : Calls Try.prog 63 #[(.int .i64 x), (.int .i64 y)] w (Ret w (.agg #[(.int .i64 (hiW (x * y))), (.int .i64 (loW (x * y)))])) := by
  obtain ⟨x1, x2⟩ := hx
  obtain ⟨y1, y2⟩ := hy
  unfold full at x2 y2
  have a1 : 0 ≤ x / 4194304 ∧ x / 4194304 ≤ 4194304 := by omega
  have a2 : 0 ≤ y / 4194304 ∧ y / 4194304 ≤ 4194304 := by omega
  have a3 : 0 ≤ x % 4194304 ∧ x % 4194304 < 4194304 := by omega
  have a4 : 0 ≤ y % 4194304 ∧ y % 4194304 < 4194304 := by omega
  have b1 : 0 ≤ x / 4194304 * (y % 4194304) ∧ x / 4194304 * (y % 4194304) ≤ 17592186044416 := by
    have := Int.mul_nonneg a1.1 a4.1
    have := mul_bd (a := x / 4194304) (b := y % 4194304) (A := 4194304) (B := 4194304) (by omega) (by omega) (by omega) (by omega)
    omega
  have b2 : 0 ≤ x % 4194304 * (y / 4194304) ∧ x % 4194304 * (y / 4194304) ≤ 17592186044416 := by
    have := Int.mul_nonneg a3.1 a2.1
    have := mul_bd (a := x % 4194304) (b := y / 4194304) (A := 4194304) (B := 4194304) (by omega) (by omega) (by omega) (by omega)
    omega
  have b3 : 0 ≤ x % 4194304 * (y % 4194304) ∧ x % 4194304 * (y % 4194304) ≤ 17592186044416 := by
    have := Int.mul_nonneg a3.1 a4.1
    have := mul_bd (a := x % 4194304) (b := y % 4194304) (A := 4194304) (B := 4194304) (by omega) (by omega) (by omega) (by omega)
    omega
  have b4 : 0 ≤ x / 4194304 * (y / 4194304) ∧ x / 4194304 * (y / 4194304) ≤ 17592186044416 := by
    have := Int.mul_nonneg a1.1 a2.1
    have := mul_bd (a := x / 4194304) (b := y / 4194304) (A := 4194304) (B := 4194304) (by omega) (by omega) (by omega) (by omega)
    omega
  obtain ⟨a5, a6⟩ := a1
  obtain ⟨a7, a8⟩ := a2
  obtain ⟨a9, a10⟩ := a3
  obtain ⟨a11, a12⟩ := a4
  obtain ⟨b5, b6⟩ := b1
  obtain ⟨b7, b8⟩ := b2
  obtain ⟨b9, b10⟩ := b3
  obtain ⟨b11, b12⟩ := b4
  go_enter Try.func63, Try.ntmps63
  have T := times_eq (x / 4194304) (x % 4194304) (y / 4194304) (y % 4194304)
  have ex : 4194304 * (x / 4194304) + x % 4194304 = x := by omega
  have ey : 4194304 * (y / 4194304) + y % 4194304 = y := by omega
  rw [ex, ey] at T
  clear ex ey
  have T' := Lib.hid T
  clear T
  go_wp2_with fail
  go_region
  all_goals
    go_wp2_with fail
    go_region
  all_goals
    go_wp2_with fail
    go_region
  all_goals go_wp2
  all_goals
    refine bodyPost_ret (v := .agg #[(.int .i64 (hiW (x * y))), (.int .i64 (loW (x * y)))]) ?_ rfl ⟨rfl, (by repeat (first | exact Below.refl _ _ | assumption | refine bstep ?_ (by assumption) | refine Below.drew ?_ | refine balloc ?_ _ | refine Below.setCell ?_ (by first | omega | (simp <;> omega)) _))⟩
    rw [← T'.out.1, ← T'.out.2]
    simp [results, Try.results63, go_sem]

/-- Is the first of two wide numbers at most the second one? -/
def mostB (x y : Int) : Bool := decide (x ≤ y)
theorem most_eq {x y : Int} : mostB x y = true ↔ hiW x < hiW y ∨ (hiW x = hiW y ∧ loW x ≤ loW y) := by
  unfold mostB hiW loW full
  rw [decide_eq_true_eq]
  omega

set_option maxHeartbeats 800000 in
theorem most_c (x y : Int) (w : World) : Calls Try.prog 62 #[(.agg #[(.int .i64 (hiW x)), (.int .i64 (loW x))]), (.agg #[(.int .i64 (hiW y)), (.int .i64 (loW y))])] w (Ret w (.bool (mostB x y))) := by
  have T' := Lib.hid (most_eq (x := x) (y := y))
  generalize mostB x y = m at *
  generalize hiW x = a at *
  generalize hiW y = b at *
  generalize loW x = c at *
  generalize loW y = d at *
  go_enter Try.func62, Try.ntmps62
  go_wp2
  all_goals
    go_ret
    refine ret_bool ?_ (by repeat (first | exact Below.refl _ _ | assumption | refine bstep ?_ (by assumption) | refine Below.drew ?_ | refine balloc ?_ _ | refine Below.setCell ?_ (by first | omega | (simp <;> omega)) _))
    rw [T'.out]
    simp <;> omega

end Go.Proofs.Ytakhkeipoldpoaa

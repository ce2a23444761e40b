/- RefH: the law's walk. -/
import Derived.Test.YtakhkeipoldpoaaRefA
namespace Go.Proofs.Ytakhkeipoldpoaa
open Go.RowKit

set_option maxRecDepth 100000 in
set_option maxHeartbeats 3200000 in
theorem rroot_c (n : Int) (w : World) (h0 : 0 ≤ n) (h1 : n ≤ 9000000000000) : Calls Try.prog 53 #[(.int .i64 n)] w (Same w (.int .i64 (rt n))) := by
  go_enter Try.func53, Try.ntmps53
  go_wp2_with fail
  go_loop [3, 4] (fun s3 s4 => ∃ lo hi : Int, s3 = (.int .i64 lo) ∧ s4 = (.int .i64 hi) ∧ 0 ≤ lo ∧ lo < hi ∧ hi ≤ 4000000 ∧ lo * lo ≤ n ∧ n < hi * hi) (fun s3 s4 => (intOf s4 - intOf s3).toNat)
  case atStart => exact ⟨0, 4000000, rfl, rfl, by omega, by omega, by omega, by omega, by omega⟩
  case round =>
    obtain ⟨lo, hi, rfl, rfl, b1, b2, b3, b4, b5⟩ := hrel
    by_cases hlt : 1 < hi - lo
    · have m1 := sq_nn ((lo + hi) / 2)
      have m2 : (lo + hi) / 2 * ((lo + hi) / 2) ≤ 16000000000000 := by
        have := mul_bd (a := (lo + hi) / 2) (b := (lo + hi) / 2) (A := 4000000) (B := 4000000) (by omega) (by omega) (by omega) (by omega)
        omega
      by_cases hp : (lo + hi) / 2 * ((lo + hi) / 2) ≤ n
      · go_wp2
        go_round
        case rel => exact ⟨(lo + hi) / 2, hi, rfl, rfl, by omega, by omega, by omega, hp, b5⟩
        case measure => simp [intOf]; omega
      · have hp' : n < (lo + hi) / 2 * ((lo + hi) / 2) := by omega
        go_wp2
        go_round
        case rel => exact ⟨lo, (lo + hi) / 2, rfl, rfl, by omega, by omega, by omega, b4, hp'⟩
        case measure => simp [intOf]; omega
    · go_wp2
      go_ret
      obtain rfl : hi = lo + 1 := by omega
      exact same_int (rt_eq b1 b4 b5).symm

end Go.Proofs.Ytakhkeipoldpoaa

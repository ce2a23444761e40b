/- The root, and the distance of two places: plain facts and the walks. -/
import Derived.Test.YtakhkeipoldpoaaPlaneD
import Derived.LoopTactic
import Derived.Outline
namespace Go.Proofs.Ytakhkeipoldpoaa
open Go.RowKit

theorem rt_ex (n : Nat) : ∃ r : Nat, r * r ≤ n ∧ n < (r + 1) * (r + 1) := by
  induction n with
  | zero => exact ⟨0, by omega, by omega⟩
  | succ n ih =>
    obtain ⟨r, h1, h2⟩ := ih
    by_cases h : n + 1 < (r + 1) * (r + 1)
    · exact ⟨r, by omega, h⟩
    · refine ⟨r + 1, by omega, ?_⟩
      have e : (r + 1 + 1) * (r + 1 + 1) = (r + 1) * (r + 1) + (r + 1) + (r + 1) + 1 := by
        rw [Nat.add_mul, Nat.mul_add, Nat.one_mul, Nat.mul_one]; omega
      omega
theorem rt_exZ (n : Int) (h : 0 ≤ n) : ∃ r : Int, 0 ≤ r ∧ r * r ≤ n ∧ n < (r + 1) * (r + 1) := by
  obtain ⟨m, rfl⟩ := Int.eq_ofNat_of_zero_le h
  obtain ⟨r, h1, h2⟩ := rt_ex m
  exact ⟨r, by omega, by exact_mod_cast h1, by exact_mod_cast h2⟩
open Classical in
/-- The root, rounded down. -/
noncomputable def rt (n : Int) : Int := if h : 0 ≤ n then Classical.choose (rt_exZ n h) else 0
theorem rt_spec {n : Int} (h : 0 ≤ n) : 0 ≤ rt n ∧ rt n * rt n ≤ n ∧ n < (rt n + 1) * (rt n + 1) := by
  unfold rt
  rw [dif_pos h]
  exact Classical.choose_spec (rt_exZ n h)
theorem sq_le {a b : Int} (ha : 0 ≤ a) (h : a * a < (b + 1) * (b + 1)) (hb : 0 ≤ b) : a ≤ b := by
  rcases Int.lt_or_le b a with hba | hba
  · have : (b + 1) * (b + 1) ≤ a * a := Int.mul_le_mul (by omega) (by omega) (by omega) ha
    omega
  · exact hba
theorem rt_eq {n r : Int} (h0 : 0 ≤ r) (h1 : r * r ≤ n) (h2 : n < (r + 1) * (r + 1)) : rt n = r := by
  have hn : 0 ≤ n := Int.le_trans (by have := Int.mul_nonneg h0 h0; omega) h1
  obtain ⟨g0, g1, g2⟩ := rt_spec hn
  have a1 : rt n ≤ r := sq_le g0 (by omega) h0
  have a2 : r ≤ rt n := sq_le h0 (by omega) g0
  omega

set_option maxHeartbeats 400000 in
theorem rootfn_c (r n : Int) (g : Nat) (w : World) (h0 : 0 ≤ r) (h1 : r ≤ 3000000) (hg : w.cell? ⟨g, 0, none⟩ = some (.int .i64 n)) :
    Calls Try.prog 65 #[(.int .i64 r), .pointer (some ⟨g, 0, none⟩)] w (Same w (.bool (decide (n < (r + 1) * (r + 1))))) := by
  have m := mul_bd (a := r + 1) (b := r + 1) (A := 3000001) (B := 3000001) (by omega) (by omega) (by omega) (by omega)
  obtain ⟨m1, m2⟩ := m
  go_enter Try.func65, Try.ntmps65
  go_wp2
  go_ret
  exact same_bool (by simp)

set_option maxHeartbeats 800000 in
theorem search_c (n : Int) (g : Nat) (w : World) (h0 : 0 ≤ n) (h1 : n ≤ 9000000000000) (hg : w.cell? ⟨g, 0, none⟩ = some (.int .i64 n)) :
    Calls Try.prog 64 #[(.int .i64 3000000), .func (.func 65) #[] #[.pointer (some ⟨g, 0, none⟩)]] w (Same w (.int .i64 (rt n))) := by
  go_enter Try.func64, Try.ntmps64
  go_wp2_with fail
  go_loop [5, 6] (fun s5 s6 => ∃ lo hi : Int, s5 = (.int .i64 lo) ∧ s6 = (.int .i64 hi) ∧ 0 ≤ lo ∧ lo ≤ hi ∧ hi ≤ 3000000 ∧ lo * lo ≤ n ∧ n < (hi + 1) * (hi + 1)) (fun s5 s6 => (intOf s6 - intOf s5).toNat)
  case atStart => exact ⟨0, 3000000, rfl, rfl, by omega, by omega, by omega, by omega, by omega⟩
  case round =>
    obtain ⟨lo, hi, rfl, rfl, b1, b2, b3, b4, b5⟩ := hrel
    by_cases hlt : lo < hi
    · have hc := rootfn_c ((lo + hi) / 2) n g w (by omega) (by omega) hg
      by_cases hp : n < ((lo + hi) / 2 + 1) * ((lo + hi) / 2 + 1)
      · go_wp2_with fail
        refine hc.mono ?_
        rintro e w' ⟨rfl, rfl⟩
        clear hc
        go_wp2
        go_round
        case rel => exact ⟨lo, (lo + hi) / 2, rfl, rfl, by omega, by omega, by omega, b4, hp⟩
        case measure => simp [intOf]; omega
      · have hp' : ((lo + hi) / 2 + 1) * ((lo + hi) / 2 + 1) ≤ n := by omega
        have hpb : decide (n < ((lo + hi) / 2 + 1) * ((lo + hi) / 2 + 1)) = false := by simp; omega
        go_wp2_with fail
        refine hc.mono ?_
        rintro e w' ⟨rfl, rfl⟩
        clear hc
        go_wp2
        go_round
        case rel => exact ⟨(lo + hi) / 2 + 1, hi, rfl, rfl, by omega, by omega, by omega, hp', b5⟩
        case measure => simp [intOf]; omega
    · go_wp2
      go_ret
      obtain rfl : lo = hi := by omega
      exact same_int (rt_eq b1 b4 b5).symm

set_option maxHeartbeats 400000 in
theorem root_c (n : Int) (w : World) (h0 : 0 ≤ n) (h1 : n ≤ 9000000000000) : Calls Try.prog 51 #[(.int .i64 n)] w (Ret w (.int .i64 (rt n))) := by
  go_enter Try.func51, Try.ntmps51
  go_wp2_with fail
  refine (search_c n _ _ h0 h1 (by go_simp)).mono ?_
  rintro e w1 ⟨rfl, rfl⟩
  go_wp2
  go_ret
  exact ret_int rfl (by repeat (first | exact Below.refl _ _ | assumption | refine bstep ?_ (by assumption) | refine Below.drew ?_ | refine balloc ?_ _ | refine Below.setCell ?_ (by first | omega | (simp <;> omega)) _))

end Go.Proofs.Ytakhkeipoldpoaa

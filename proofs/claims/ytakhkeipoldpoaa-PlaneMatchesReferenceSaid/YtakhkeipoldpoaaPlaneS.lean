/- The exported function Dist of package plane: the walk. -/
import Derived.Test.YtakhkeipoldpoaaPlaneH
import Derived.Test.YtakhkeipoldpoaaPlaneR
namespace Go.Proofs.Ytakhkeipoldpoaa
open Go.RowKit

/-- The distance, rounded up. -/
noncomputable def up (n : Int) : Int := if rt n * rt n = n then rt n else rt n + 1

theorem rt_bd {n : Int} (h0 : 0 ≤ n) (h1 : n ≤ 8000000000000) : 0 ≤ rt n ∧ rt n ≤ 2900000 := by
  obtain ⟨a, b, c⟩ := rt_spec h0
  refine ⟨a, ?_⟩
  exact sq_le a (by omega) (by omega)

set_option maxHeartbeats 800000 in
theorem Dist_ok (a1 a2 b1 b2 : Int) (w : World) (ha : ok a1 a2) (hb : ok b1 b2) : Calls Try.prog 28 #[(.agg #[.int .i64 a1, .int .i64 a2]), (.agg #[.int .i64 b1, .int .i64 b2])] w (Ret w (.tuple #[.agg #[(.int .i64 (rt (sq a1 a2 b1 b2))), (.int .i64 (up (sq a1 a2 b1 b2)))], (.int .i64 0)])) := by
  have hv : ok2 a1 a2 b1 b2 = true := ok2_iff.2 ⟨ha, hb⟩
  obtain ⟨n1, n2⟩ := sq_bd a1 a2 b1 b2 ha hb
  go_enter Try.func28, Try.ntmps28
  go_wp2_with fail
  refine (allValid2_c a1 a2 b1 b2 _ _ (by go_simp) (by go_simp) (by go_simp) (by go_simp) (by first | omega | (simp <;> omega))).mono ?_
  rintro e w1 ⟨rfl, hb1⟩
  obtain ⟨hc1, hf1⟩ := bcell hb1
  have hs : _ ≤ w1.heap.size := hb1.size
  (try simp at hs)
  go_wp2_with fail
  refine (sq_c a1 a2 b1 b2 _ ha hb).mono ?_
  rintro e w2 ⟨rfl, hb2⟩
  have hb2' := hb2
  have z0 : w.heap.size + 1 + 1 < w1.heap.size := by omega
  generalize sq a1 a2 b1 b2 = n at *
  obtain ⟨r1, r2⟩ := rt_bd n1 n2
  obtain ⟨_, s1, s2⟩ := rt_spec n1
  have s0 := sq_nn (rt n)
  go_wp2_with fail
  refine (root_c n _ n1 (by omega)).mono ?_
  rintro e w3 ⟨rfl, hb3⟩
  have hb' := bstep (bstep hb1 hb2) hb3
  clear hc1 hf1
  obtain ⟨hc', hf'⟩ := bcell hb'
  have hbw : Below w.heap.size w w3 := (by repeat (first | exact Below.refl _ _ | assumption | refine bstep ?_ (by assumption) | refine Below.drew ?_ | refine balloc ?_ _ | refine Below.setCell ?_ (by first | omega | (simp <;> omega)) _))
  by_cases hn : rt n * rt n = n
  · have hu : up n = rt n := by unfold up; rw [if_pos hn]
    have hn' : (rt n * rt n == n) = true := by simpa using hn
    have hu' := Lib.hid hu
    clear hu s1 s2
    go_wp2
    exact bodyPost_ret (v := .tuple #[.agg #[(.int .i64 (rt n)), (.int .i64 (rt n))], (.int .i64 0)]) (by simp [results, Try.results28, go_sem, hc']) rfl ⟨by rw [hu'.out], (by repeat (first | exact Below.refl _ _ | assumption | refine bstep ?_ (by assumption) | refine Below.drew ?_ | refine balloc ?_ _ | refine Below.setCell ?_ (by first | omega | (simp <;> omega)) _))⟩
  · have hu : up n = rt n + 1 := by unfold up; rw [if_neg hn]
    have hn' : (rt n * rt n == n) = false := by simpa using hn
    have hu' := Lib.hid hu
    clear hu
    go_wp2
    exact bodyPost_ret (v := .tuple #[.agg #[(.int .i64 (rt n)), (.int .i64 (rt n + 1))], (.int .i64 0)]) (by simp [results, Try.results28, go_sem, hc']) rfl ⟨by rw [hu'.out], (by repeat (first | exact Below.refl _ _ | assumption | refine bstep ?_ (by assumption) | refine Below.drew ?_ | refine balloc ?_ _ | refine Below.setCell ?_ (by first | omega | (simp <;> omega)) _))⟩

set_option maxHeartbeats 400000 in
theorem Dist_no (a1 a2 b1 b2 : Int) (w : World) (hn : ¬ (ok a1 a2 ∧ ok b1 b2)) : Calls Try.prog 28 #[(.agg #[.int .i64 a1, .int .i64 a2]), (.agg #[.int .i64 b1, .int .i64 b2])] w (Ret w (.tuple #[.agg #[(.int .i64 0), (.int .i64 0)], (.int .i64 1)])) := by
  have hv : ok2 a1 a2 b1 b2 = false := by
    rw [Bool.eq_false_iff]
    exact fun h => hn (ok2_iff.1 h)
  go_enter Try.func28, Try.ntmps28
  go_wp2_with fail
  refine (allValid2_c a1 a2 b1 b2 _ _ (by go_simp) (by go_simp) (by go_simp) (by go_simp) (by first | omega | (simp <;> omega))).mono ?_
  rintro e w1 ⟨rfl, hb1⟩
  obtain ⟨hc', hf1⟩ := bcell hb1
  have hbw : Below w.heap.size w w1 := (by repeat (first | exact Below.refl _ _ | assumption | refine bstep ?_ (by assumption) | refine Below.drew ?_ | refine balloc ?_ _ | refine Below.setCell ?_ (by first | omega | (simp <;> omega)) _))
  go_wp2
  exact bodyPost_ret (v := .tuple #[.agg #[(.int .i64 0), (.int .i64 0)], (.int .i64 1)]) (by simp [results, Try.results28, go_sem, hc']) rfl ⟨rfl, (by repeat (first | exact Below.refl _ _ | assumption | refine bstep ?_ (by assumption) | refine Below.drew ?_ | refine balloc ?_ _ | refine Below.setCell ?_ (by first | omega | (simp <;> omega)) _))⟩

end Go.Proofs.Ytakhkeipoldpoaa

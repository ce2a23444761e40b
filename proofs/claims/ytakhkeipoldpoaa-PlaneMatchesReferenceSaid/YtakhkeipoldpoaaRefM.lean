/- RefM: the law's walk. -/
import Derived.Test.YtakhkeipoldpoaaRefA
import Derived.Test.YtakhkeipoldpoaaRefH
namespace Go.Proofs.Ytakhkeipoldpoaa
open Go.RowKit

set_option maxRecDepth 100000 in
set_option maxHeartbeats 3200000 in
theorem rDist_ok (a1 a2 b1 b2 : Int) (w : World) (ha : ok a1 a2) (hb : ok b1 b2) : Calls Try.prog 29 #[(.agg #[.int .i64 a1, .int .i64 a2]), (.agg #[.int .i64 b1, .int .i64 b2])] w (Ret w (.tuple #[.agg #[(.int .i64 (rt (sq a1 a2 b1 b2))), (.int .i64 (up (sq a1 a2 b1 b2)))], (.int .i64 0)])) := by
  have va : okB a1 a2 = true := okB_of ha
  have vb : okB b1 b2 = true := okB_of hb
  go_enter Try.func29, Try.ntmps29
  go_wp2_with fail
  refine Calls.mono (rvalid_c _ _ _) ?_
  rintro e w1 ⟨rfl, hbW⟩
  have hc := (bcell hbW).1
  go_wp2_with (first | (go_at_call 13; refine Calls.mono (rvalid_c _ _ _) ?_; rintro e w1 ⟨rfl, hb1⟩; replace hbW := bstep hbW hb1; clear hc; have hc := (bcell hbW).1; clear hb1))
  refine (rsq_c a1 a2 b1 b2 _ ha hb).mono ?_
  rintro e w3 ⟨rfl, hb3⟩
  replace hbW := bstep hbW hb3
  clear hc hb3
  have hs0 : _ ≤ w3.heap.size := hbW.size
  (try simp at hs0)
  have z0 : w.heap.size + 1 + 1 < w3.heap.size := by omega
  obtain ⟨n1, n2⟩ := sq_bd a1 a2 b1 b2 ha hb
  obtain ⟨hc, hf⟩ := bcell hbW
  have hb0 : Below w.heap.size w w3 := (by repeat (first | exact Below.refl _ _ | assumption | refine bstep ?_ (by assumption) | refine Below.drew ?_ | refine balloc ?_ _ | refine Below.setCell ?_ (by first | omega | (simp <;> omega)) _))
  generalize sq a1 a2 b1 b2 = n at *
  obtain ⟨r1, r2⟩ := rt_bd n1 n2
  obtain ⟨_, s1, s2⟩ := rt_spec n1
  have s0 := sq_nn (rt n)
  by_cases hn : rt n * rt n = n
  · have hu : up n = rt n := by unfold up; rw [if_pos hn]
    have hu' := Lib.hid hu
    clear hu s1 s2
    go_wp2_with (go_at_call 53; refine (rroot_c n _ n1 (by omega)).mono ?_; rintro e w4 ⟨rfl, rfl⟩)
    exact bodyPost_ret (v := .tuple #[.agg #[(.int .i64 (rt n)), (.int .i64 (rt n))], (.int .i64 0)]) (by simp [results, Try.results29, go_sem, hc, z0]) rfl ⟨by rw [hu'.out], (by repeat (first | exact Below.refl _ _ | assumption | refine bstep ?_ (by assumption) | refine Below.drew ?_ | refine balloc ?_ _ | refine Below.setCell ?_ (by first | omega | (simp <;> omega)) _))⟩
  · have hu : up n = rt n + 1 := by unfold up; rw [if_neg hn]
    have hu' := Lib.hid hu
    have hl : rt n * rt n < n := by omega
    clear hu hn
    go_wp2_with (go_at_call 53; refine (rroot_c n _ n1 (by omega)).mono ?_; rintro e w4 ⟨rfl, rfl⟩)
    exact bodyPost_ret (v := .tuple #[.agg #[(.int .i64 (rt n)), (.int .i64 (rt n + 1))], (.int .i64 0)]) (by simp [results, Try.results29, go_sem, hc, z0]) rfl ⟨by rw [hu'.out], (by repeat (first | exact Below.refl _ _ | assumption | refine bstep ?_ (by assumption) | refine Below.drew ?_ | refine balloc ?_ _ | refine Below.setCell ?_ (by first | omega | (simp <;> omega)) _))⟩

set_option maxRecDepth 100000 in
set_option maxHeartbeats 3200000 in
theorem rDist_no (a1 a2 b1 b2 : Int) (w : World) (hn : ¬ (ok a1 a2 ∧ ok b1 b2)) : Calls Try.prog 29 #[(.agg #[.int .i64 a1, .int .i64 a2]), (.agg #[.int .i64 b1, .int .i64 b2])] w (Ret w (.tuple #[.agg #[(.int .i64 0), (.int .i64 0)], (.int .i64 1)])) := by
  cases va : okB a1 a2
  ·
    clear hn
    go_enter Try.func29, Try.ntmps29
    go_wp2_with fail
    refine Calls.mono (rvalid_c _ _ _) ?_
    rintro e w1 ⟨rfl, hbW⟩
    have hc := (bcell hbW).1
    have hf := (bcell hbW).2
    go_wp2_with (first | (go_at_call 13; refine Calls.mono (rvalid_c _ _ _) ?_; rintro e w1 ⟨rfl, hb1⟩; replace hbW := bstep hbW hb1; clear hc; have hc := (bcell hbW).1; clear hb1; clear hf; have hf := (bcell hbW).2) | (go_at_call 43; refine Calls.mono (rrange_c _ _) ?_; rintro e w1 ⟨rfl, rfl⟩))
    exact bodyPost_ret (v := .tuple #[.agg #[(.int .i64 0), (.int .i64 0)], (.int .i64 1)]) (by simp [results, Try.results29, go_sem, hc]) rfl ⟨rfl, (by repeat (first | exact Below.refl _ _ | assumption | refine bstep ?_ (by assumption) | refine Below.drew ?_ | refine balloc ?_ _ | refine Below.setCell ?_ (by first | omega | (simp <;> omega)) _))⟩
  ·
    cases vb : okB b1 b2
    ·
      clear hn
      go_enter Try.func29, Try.ntmps29
      go_wp2_with fail
      refine Calls.mono (rvalid_c _ _ _) ?_
      rintro e w1 ⟨rfl, hbW⟩
      have hc := (bcell hbW).1
      have hf := (bcell hbW).2
      go_wp2_with (first | (go_at_call 13; refine Calls.mono (rvalid_c _ _ _) ?_; rintro e w1 ⟨rfl, hb1⟩; replace hbW := bstep hbW hb1; clear hc; have hc := (bcell hbW).1; clear hb1; clear hf; have hf := (bcell hbW).2) | (go_at_call 43; refine Calls.mono (rrange_c _ _) ?_; rintro e w1 ⟨rfl, rfl⟩))
      exact bodyPost_ret (v := .tuple #[.agg #[(.int .i64 0), (.int .i64 0)], (.int .i64 1)]) (by simp [results, Try.results29, go_sem, hc]) rfl ⟨rfl, (by repeat (first | exact Below.refl _ _ | assumption | refine bstep ?_ (by assumption) | refine Below.drew ?_ | refine balloc ?_ _ | refine Below.setCell ?_ (by first | omega | (simp <;> omega)) _))⟩
    ·
      exact absurd ⟨okB_iff.1 va, okB_iff.1 vb⟩ hn


end Go.Proofs.Ytakhkeipoldpoaa

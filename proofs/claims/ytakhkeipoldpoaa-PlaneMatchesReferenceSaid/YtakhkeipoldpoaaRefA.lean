/- The small functions of the reference implementation of layer 1: the walks. -/
import Derived.Test.YtakhkeipoldpoaaPlaneP
import Derived.Test.YtakhkeipoldpoaaPlaneS
import Derived.Test.YtakhkeipoldpoaaHeadA
namespace Go.Proofs.Ytakhkeipoldpoaa
open Go.RowKit

set_option maxHeartbeats 400000 in
theorem rvalid_c (a1 a2 : Int) (w : World) : Calls Try.prog 13 #[(.agg #[.int .i64 a1, .int .i64 a2])] w (Ret w (.bool (okB a1 a2))) := by
  go_enter Try.func13, Try.ntmps13
  go_wp2
  all_goals
    go_ret
    refine ret_bool ?_ ((Below.refl _ _).alloc (Nat.le_refl _) _)
    rw [okB_iff, ok]
    simp <;> omega

set_option maxHeartbeats 400000 in
theorem rrange_c (d : Int) (w : World) : Calls Try.prog 43 #[(.int .i64 d)] w (Same w (.bool (okdB d))) := by
  go_enter Try.func43, Try.ntmps43
  go_wp2
  all_goals
    go_ret
    refine same_bool ?_
    rw [okdB_iff, okd]
    simp <;> omega

set_option maxHeartbeats 400000 in
theorem minus_c (b1 b2 a1 a2 : Int) (w : World) (hb : ok b1 b2) (ha : ok a1 a2) : Calls Try.prog 36 #[(.agg #[.int .i64 b1, .int .i64 b2]), (.agg #[.int .i64 a1, .int .i64 a2])] w (Ret w (.agg #[(.int .i64 (b1 - a1)), (.int .i64 (b2 - a2))])) := by
  obtain ⟨ha1, ha2, ha3, ha4⟩ := ha
  obtain ⟨hb1, hb2, hb3, hb4⟩ := hb
  go_enter Try.func36, Try.ntmps36
  go_wp2
  exact bodyPost_ret (v := (.agg #[(.int .i64 (b1 - a1)), (.int .i64 (b2 - a2))])) (by simp [results, Try.results36, go_sem]) rfl ⟨rfl, (by repeat (first | exact Below.refl _ _ | assumption | refine bstep ?_ (by assumption) | refine Below.drew ?_ | refine balloc ?_ _ | refine Below.setCell ?_ (by first | omega | (simp <;> omega)) _))⟩

set_option maxHeartbeats 400000 in
theorem rcross_c (a1 a2 b1 b2 c1 c2 : Int) (w : World) (ha : ok a1 a2) (hb : ok b1 b2) (hc : ok c1 c2) : Calls Try.prog 35 #[(.agg #[(.int .i64 (b1 - a1)), (.int .i64 (b2 - a2))]), (.agg #[(.int .i64 (c1 - a1)), (.int .i64 (c2 - a2))])] w (Ret w (.int .i64 (cross a1 a2 b1 b2 c1 c2))) := by
  obtain ⟨ha1, ha2, ha3, ha4⟩ := ha
  obtain ⟨hb1, hb2, hb3, hb4⟩ := hb
  obtain ⟨hc1, hc2, hc3, hc4⟩ := hc
  have m1 := dd_bd (a := b1) (b := a1) (c := c2) (d := a2) (by omega) (by omega) (by omega) (by omega)
  have m2 := dd_bd (a := b2) (b := a2) (c := c1) (d := a1) (by omega) (by omega) (by omega) (by omega)
  obtain ⟨m3, m4⟩ := m1
  obtain ⟨m5, m6⟩ := m2
  go_enter Try.func35, Try.ntmps35
  go_wp2
  go_ret
  exact ret_int rfl (by repeat (first | exact Below.refl _ _ | assumption | refine bstep ?_ (by assumption) | refine Below.drew ?_ | refine balloc ?_ _ | refine Below.setCell ?_ (by first | omega | (simp <;> omega)) _))

set_option maxHeartbeats 400000 in
theorem rdot_c (a1 a2 b1 b2 c1 c2 : Int) (w : World) (ha : ok a1 a2) (hb : ok b1 b2) (hc : ok c1 c2) : Calls Try.prog 61 #[(.agg #[(.int .i64 (b1 - a1)), (.int .i64 (b2 - a2))]), (.agg #[(.int .i64 (c1 - a1)), (.int .i64 (c2 - a2))])] w (Ret w (.int .i64 (dot a1 a2 b1 b2 c1 c2))) := by
  obtain ⟨ha1, ha2, ha3, ha4⟩ := ha
  obtain ⟨hb1, hb2, hb3, hb4⟩ := hb
  obtain ⟨hc1, hc2, hc3, hc4⟩ := hc
  have m1 := dd_bd (a := b1) (b := a1) (c := c1) (d := a1) (by omega) (by omega) (by omega) (by omega)
  have m2 := dd_bd (a := b2) (b := a2) (c := c2) (d := a2) (by omega) (by omega) (by omega) (by omega)
  obtain ⟨m3, m4⟩ := m1
  obtain ⟨m5, m6⟩ := m2
  go_enter Try.func61, Try.ntmps61
  go_wp2
  go_ret
  exact ret_int rfl (by repeat (first | exact Below.refl _ _ | assumption | refine bstep ?_ (by assumption) | refine Below.drew ?_ | refine balloc ?_ _ | refine Below.setCell ?_ (by first | omega | (simp <;> omega)) _))

theorem rdot_sq (a1 a2 b1 b2 : Int) (w : World) (ha : ok a1 a2) (hb : ok b1 b2) : Calls Try.prog 61 #[(.agg #[(.int .i64 (b1 - a1)), (.int .i64 (b2 - a2))]), (.agg #[(.int .i64 (b1 - a1)), (.int .i64 (b2 - a2))])] w (Ret w (.int .i64 (sq a1 a2 b1 b2))) := rdot_c a1 a2 b1 b2 b1 b2 w ha hb hb

set_option maxHeartbeats 400000 in
theorem rsign_c (n : Int) (w : World) : Calls Try.prog 34 #[(.int .i64 n)] w (Same w (.int .i64 (cmp n 0))) := by
  go_enter Try.func34, Try.ntmps34
  go_wp2
  all_goals
    go_ret
    refine same_int ?_
    unfold cmp
    repeat' split
    all_goals omega

set_option maxHeartbeats 400000 in
theorem rsq_c (a1 a2 b1 b2 : Int) (w : World) (ha : ok a1 a2) (hb : ok b1 b2) : Calls Try.prog 52 #[(.agg #[.int .i64 a1, .int .i64 a2]), (.agg #[.int .i64 b1, .int .i64 b2])] w (Ret w (.int .i64 (sq a1 a2 b1 b2))) := by
  go_enter Try.func52, Try.ntmps52
  go_wp2_with fail
  go_region_held3 (fun w' => w'.cell? ⟨w.heap.size, 0, none⟩ = some (.int .i64 a1) ∧ w'.cell? ⟨w.heap.size, 1, none⟩ = some (.int .i64 a2) ∧ w'.cell? ⟨w.heap.size + 1, 0, none⟩ = some (.int .i64 b1) ∧ w'.cell? ⟨w.heap.size + 1, 1, none⟩ = some (.int .i64 b2)) (go_keep)
    (first | (go_at_call 36; refine (minus_c _ _ _ _ _ (by assumption) (by assumption)).mono ?_; rintro e w1 ⟨rfl, hb1⟩; obtain ⟨hc1, hf1⟩ := bcell hb1; have hs : w.heap.size + 1 < w1.heap.size := (by have hq := hb1.size; ((try simp at hq) <;> omega)); have g1 := fun o => hc1 w.heap.size o (by first | omega | (simp <;> omega)); have g2 := fun o => hc1 (w.heap.size + 1) o (by first | omega | (simp <;> omega)); clear hc1 hf1)
           | (go_at_call 61; refine (rdot_sq _ _ _ _ _ (by assumption) (by assumption)).mono ?_; rintro e w1 ⟨rfl, hb1⟩; obtain ⟨hc1, hf1⟩ := bcell hb1; have hs : w.heap.size + 1 < w1.heap.size := (by have hq := hb1.size; ((try simp at hq) <;> omega)); have g1 := fun o => hc1 w.heap.size o (by first | omega | (simp <;> omega)); have g2 := fun o => hc1 (w.heap.size + 1) o (by first | omega | (simp <;> omega)); clear hc1 hf1))
  go_wp2
  go_ret
  exact ret_int rfl (by repeat (first | exact Below.refl _ _ | assumption | refine bstep ?_ (by assumption) | refine Below.drew ?_ | refine balloc ?_ _ | refine Below.setCell ?_ (by first | omega | (simp <;> omega)) _))

def full : Int := 17592186044416
def hiW (z : Int) : Int := z / full
def loW (z : Int) : Int := z % full
def sm (x : Int) : Prop := 0 ≤ x ∧ x < full

theorem times_eq (X x0 Y y0 : Int) :
    (X * Y + (X * y0 + x0 * Y) / 4194304 + (x0 * y0 + (X * y0 + x0 * Y) % 4194304 * 4194304) / 17592186044416 = hiW ((4194304 * X + x0) * (4194304 * Y + y0))) ∧
    ((x0 * y0 + (X * y0 + x0 * Y) % 4194304 * 4194304) % 17592186044416 = loW ((4194304 * X + x0) * (4194304 * Y + y0))) := by
  have e : (4194304 * X + x0) * (4194304 * Y + y0) = 17592186044416 * (X * Y) + 4194304 * (X * y0 + x0 * Y) + x0 * y0 := by grind
  unfold hiW loW full
  rw [e]
  generalize X * Y = A
  generalize X * y0 + x0 * Y = B
  generalize x0 * y0 = C
  omega

end Go.Proofs.Ytakhkeipoldpoaa

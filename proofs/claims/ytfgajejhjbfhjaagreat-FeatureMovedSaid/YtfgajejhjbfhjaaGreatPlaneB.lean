/- What package plane does with segments: the walks. -/
import Derived.Test.YtfgajejhjbfhjaaGreatPlaneA
import Derived.RegionTactic
import Derived.ChangeAlike
import Derived.BigRegion
import Derived.Deep.RegionHeld3
import Derived.Deep.RegionWith
import Derived.Outline
namespace Go.Proofs.YtfgajejhjbfhjaaGreat
open Go.RowKit

def on (p1 p2 a1 a2 b1 b2 : Int) : Bool := decide (turn a1 a2 b1 b2 p1 p2 = 0) && between p1 a1 b1 && between p2 a2 b2

set_option maxHeartbeats 400000 in
theorem on_c (p1 p2 a1 a2 b1 b2 : Int) (w : World) (hp : ok p1 p2) (ha : ok a1 a2) (hb : ok b1 b2) : Calls Tryz.prog 192 #[(.agg #[.int .i64 p1, .int .i64 p2]), (.agg #[.int .i64 a1, .int .i64 a2, .int .i64 b1, .int .i64 b2])] w (Ret w (.bool (on p1 p2 a1 a2 b1 b2))) := by
  go_enter Tryz.func192, Tryz.ntmps192
  go_wp2_with fail
  go_region
  all_goals
    go_wp2_with fail
    refine (turn_c _ _ _ _ _ _ _ (by assumption) (by assumption) (by assumption)).mono ?_
    rintro e w1 ⟨rfl, hb1⟩
    obtain ⟨hc1, hf1⟩ := bcell hb1
    go_wp2_with (go_at_call 193; refine (between_c _ _ _ _).mono ?_; rintro e w2 ⟨rfl, rfl⟩)
    all_goals
      go_ret
      refine ret_bool ?_ (by repeat (first | with_reducible exact Below.refl _ _ | with_reducible assumption | with_reducible refine Below.setCell ?_ (by first | omega | (simp <;> omega)) _ | with_reducible refine balloc ?_ _ | with_reducible refine Below.drew ?_ | with_reducible refine bstep ?_ (by with_reducible assumption)))
      simp [on, *]

set_option maxHeartbeats 400000 in
theorem crosses_c (a1 a2 b1 b2 c1 c2 d1 d2 : Int) (w : World) (ha : ok a1 a2) (hb : ok b1 b2) (hc : ok c1 c2) (hd : ok d1 d2) : Calls Tryz.prog 190 #[(.agg #[.int .i64 a1, .int .i64 a2, .int .i64 b1, .int .i64 b2]), (.agg #[.int .i64 c1, .int .i64 c2, .int .i64 d1, .int .i64 d2])] w (Ret w (.bool (decide (turn a1 a2 b1 b2 c1 c2 * turn a1 a2 b1 b2 d1 d2 < 0)))) := by
  go_enter Tryz.func190, Tryz.ntmps190
  go_wp2_with fail
  go_region_held3 (fun w' => w'.cell? ⟨w.heap.size, 0, none⟩ = some (.int .i64 a1) ∧ w'.cell? ⟨w.heap.size, 1, none⟩ = some (.int .i64 a2) ∧ w'.cell? ⟨w.heap.size, 2, none⟩ = some (.int .i64 b1) ∧ w'.cell? ⟨w.heap.size, 3, none⟩ = some (.int .i64 b2) ∧
      w'.cell? ⟨w.heap.size + 1, 0, none⟩ = some (.int .i64 c1) ∧ w'.cell? ⟨w.heap.size + 1, 1, none⟩ = some (.int .i64 c2) ∧ w'.cell? ⟨w.heap.size + 1, 2, none⟩ = some (.int .i64 d1) ∧ w'.cell? ⟨w.heap.size + 1, 3, none⟩ = some (.int .i64 d2)) (go_keep)
    (first | (go_at_call 187; refine (turn_c _ _ _ _ _ _ _ (by assumption) (by assumption) (by assumption)).mono ?_; rintro e w1 ⟨rfl, hb1⟩; obtain ⟨hc1, hf1⟩ := bcell hb1; have hs : w.heap.size + 1 < w1.heap.size := (by have hq := hb1.size; ((try simp at hq) <;> omega)); have g1 := fun o => hc1 w.heap.size o (by first | omega | (simp <;> omega)); have g2 := fun o => hc1 (w.heap.size + 1) o (by first | omega | (simp <;> omega)); clear hc1 hf1))
  go_wp2
  go_ret
  have m1 := mul_bd (cmp_bd (cross a1 a2 b1 b2 c1 c2) 0).1 (cmp_bd (cross a1 a2 b1 b2 c1 c2) 0).2 (cmp_bd (cross a1 a2 b1 b2 d1 d2) 0).1 (cmp_bd (cross a1 a2 b1 b2 d1 d2) 0).2
  refine ret_bool ?_ (by repeat (first | with_reducible exact Below.refl _ _ | with_reducible assumption | with_reducible refine Below.setCell ?_ (by first | omega | (simp <;> omega)) _ | with_reducible refine balloc ?_ _ | with_reducible refine Below.drew ?_ | with_reducible refine bstep ?_ (by with_reducible assumption)))
  rw [IntWalk.i64_in _ (by unfold turn; omega)]
end Go.Proofs.YtfgajejhjbfhjaaGreat

/- Segments that meet, that are close: the walks; the exported functions of package plane. -/
import Derived.Test.YtphcmdmfjhjidaaPlaneE
import Derived.Test.YtphcmdmfjhjidaaPlaneF
namespace Go.Proofs.Ytphcmdmfjhjidaa
open Go.RowKit

def crossB (a1 a2 b1 b2 c1 c2 d1 d2 : Int) : Bool := decide (turn a1 a2 b1 b2 c1 c2 * turn a1 a2 b1 b2 d1 d2 < 0)
def meetB (a1 a2 b1 b2 c1 c2 d1 d2 : Int) : Bool := (crossB a1 a2 b1 b2 c1 c2 d1 d2 && crossB c1 c2 d1 d2 a1 a2 b1 b2) || anyOn a1 a2 b1 b2 c1 c2 d1 d2

theorem crossB_c (a1 a2 b1 b2 c1 c2 d1 d2 : Int) (w : World) (ha : ok a1 a2) (hb : ok b1 b2) (hc : ok c1 c2) (hd : ok d1 d2) : Calls Try.prog 47 #[(.agg #[.int .i64 a1, .int .i64 a2, .int .i64 b1, .int .i64 b2]), (.agg #[.int .i64 c1, .int .i64 c2, .int .i64 d1, .int .i64 d2])] w (Ret w (.bool (crossB a1 a2 b1 b2 c1 c2 d1 d2))) := crosses_c a1 a2 b1 b2 c1 c2 d1 d2 w ha hb hc hd

set_option maxHeartbeats 800000 in
theorem meet_c (a1 a2 b1 b2 c1 c2 d1 d2 : Int) (w : World) (ha : ok a1 a2) (hb : ok b1 b2) (hc : ok c1 c2) (hd : ok d1 d2) : Calls Try.prog 28 #[(.agg #[.int .i64 a1, .int .i64 a2, .int .i64 b1, .int .i64 b2]), (.agg #[.int .i64 c1, .int .i64 c2, .int .i64 d1, .int .i64 d2])] w (Ret w (.bool (meetB a1 a2 b1 b2 c1 c2 d1 d2))) := by
  go_enter Try.func28, Try.ntmps28
  go_wp2_with fail
  refine (crossB_c a1 a2 b1 b2 c1 c2 d1 d2 _ ha hb hc hd).mono ?_
  rintro e w1 ⟨rfl, hb1⟩
  obtain ⟨hc1, hf1⟩ := bcell hb1
  have hs : w.heap.size + 1 < w1.heap.size := by (have hq := hb1.size; ((try simp at hq) <;> omega))
  have g1 := fun o => hc1 w.heap.size o (by first | omega | (simp <;> omega))
  have g2 := fun o => hc1 (w.heap.size + 1) o (by first | omega | (simp <;> omega))
  clear hc1 hf1
  cases q1 : crossB a1 a2 b1 b2 c1 c2 d1 d2
  · go_wp2_with fail
    refine (anyOn_c a1 a2 b1 b2 c1 c2 d1 d2 _ ha hb hc hd).mono ?_
    rintro e w2 ⟨rfl, hb2⟩
    go_wp2
    go_ret
    exact ret_bool (by simp [meetB, *]) (by repeat (first | exact Below.refl _ _ | assumption | refine bstep ?_ (by assumption) | refine Below.drew ?_ | refine balloc ?_ _ | refine Below.setCell ?_ (by first | omega | (simp <;> omega)) _))
  · go_wp2_with fail
    refine (crossB_c c1 c2 d1 d2 a1 a2 b1 b2 _ hc hd ha hb).mono ?_
    rintro e w2 ⟨rfl, hb2⟩
    obtain ⟨hc1, hf1⟩ := bcell hb2
    have g3 := fun o => hc1 w.heap.size o (by omega)
    have g4 := fun o => hc1 (w.heap.size + 1) o (by omega)
    clear hc1 hf1
    cases q2 : crossB c1 c2 d1 d2 a1 a2 b1 b2
    · go_wp2_with fail
      refine (anyOn_c a1 a2 b1 b2 c1 c2 d1 d2 _ ha hb hc hd).mono ?_
      rintro e w3 ⟨rfl, hb3⟩
      go_wp2
      go_ret
      exact ret_bool (by simp [meetB, *]) (by repeat (first | exact Below.refl _ _ | assumption | refine bstep ?_ (by assumption) | refine Below.drew ?_ | refine balloc ?_ _ | refine Below.setCell ?_ (by first | omega | (simp <;> omega)) _))
    · go_wp2
      go_ret
      exact ret_bool (by simp [meetB, *]) (by repeat (first | exact Below.refl _ _ | assumption | refine bstep ?_ (by assumption) | refine Below.drew ?_ | refine balloc ?_ _ | refine Below.setCell ?_ (by first | omega | (simp <;> omega)) _))

end Go.Proofs.Ytphcmdmfjhjidaa

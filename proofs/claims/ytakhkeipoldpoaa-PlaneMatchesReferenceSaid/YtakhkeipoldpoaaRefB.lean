/- A place on a segment, and wide products, of the reference implementation: the walks. -/
import Derived.Test.YtakhkeipoldpoaaRefA
namespace Go.Proofs.Ytakhkeipoldpoaa
open Go.RowKit

set_option maxRecDepth 100000 in
set_option maxHeartbeats 1600000 in
theorem lie_c (p1 p2 a1 a2 b1 b2 : Int) (w : World) (hp : ok p1 p2) (ha : ok a1 a2) (hb : ok b1 b2) : Calls Try.prog 38 #[(.agg #[.int .i64 p1, .int .i64 p2]), (.agg #[.int .i64 a1, .int .i64 a2]), (.agg #[.int .i64 b1, .int .i64 b2])] w (Ret w (.bool (on p1 p2 a1 a2 b1 b2))) := by
  by_cases hx : cross a1 a2 b1 b2 p1 p2 = 0
  · have hx' : (cross a1 a2 b1 b2 p1 p2 != 0) = false := by simpa using hx
    have ht : turn a1 a2 b1 b2 p1 p2 = 0 := (turn_eq a1 a2 b1 b2 p1 p2).2 hx
    have H := Lib.hid ht
    clear hx ht
    go_enter Try.func38, Try.ntmps38
    go_wp2_with fail
    go_region_held3 (fun w' => w'.cell? ⟨w.heap.size, 0, none⟩ = some (.int .i64 p1) ∧ w'.cell? ⟨w.heap.size, 1, none⟩ = some (.int .i64 p2) ∧ w'.cell? ⟨w.heap.size + 1, 0, none⟩ = some (.int .i64 a1) ∧ w'.cell? ⟨w.heap.size + 1, 1, none⟩ = some (.int .i64 a2) ∧ w'.cell? ⟨w.heap.size + 1 + 1, 0, none⟩ = some (.int .i64 b1) ∧ w'.cell? ⟨w.heap.size + 1 + 1, 1, none⟩ = some (.int .i64 b2)) (first | (go_keep; done) | ((repeat' apply And.intro) <;> go_simp))
      (first | (go_at_call 36; refine (minus_c _ _ _ _ _ (by assumption) (by assumption)).mono ?_; rintro e w1 ⟨rfl, hb1⟩; obtain ⟨hc1, hf1⟩ := bcell hb1; have hs : w.heap.size + 1 + 1 < w1.heap.size := (by have hq := hb1.size; ((try simp at hq) <;> omega)); have g1 := fun o => hc1 w.heap.size o (by first | omega | (simp <;> omega)); have g2 := fun o => hc1 (w.heap.size + 1) o (by first | omega | (simp <;> omega)); have g3 := fun o => hc1 (w.heap.size + 1 + 1) o (by first | omega | (simp <;> omega)); clear hc1 hf1)
             | (go_at_call 35; refine (rcross_c _ _ _ _ _ _ _ (by assumption) (by assumption) (by assumption)).mono ?_; rintro e w1 ⟨rfl, hb1⟩; obtain ⟨hc1, hf1⟩ := bcell hb1; have hs : w.heap.size + 1 + 1 < w1.heap.size := (by have hq := hb1.size; ((try simp at hq) <;> omega)); have g1 := fun o => hc1 w.heap.size o (by first | omega | (simp <;> omega)); have g2 := fun o => hc1 (w.heap.size + 1) o (by first | omega | (simp <;> omega)); have g3 := fun o => hc1 (w.heap.size + 1 + 1) o (by first | omega | (simp <;> omega)); clear hc1 hf1))
    go_wp2
    all_goals
      go_ret
      refine ret_bool ?_ (by repeat (first | exact Below.refl _ _ | assumption | refine bstep ?_ (by assumption) | refine Below.drew ?_ | refine balloc ?_ _ | refine Below.setCell ?_ (by first | omega | (simp <;> omega)) _))
      unfold on between
      rw [H.out]
      simp <;> omega
  · have hx' : (cross a1 a2 b1 b2 p1 p2 != 0) = true := by simpa using hx
    have ht : ¬ turn a1 a2 b1 b2 p1 p2 = 0 := fun k => hx ((turn_eq a1 a2 b1 b2 p1 p2).1 k)
    have H := Lib.hid ht
    clear hx ht
    go_enter Try.func38, Try.ntmps38
    go_wp2_with fail
    go_region_held3 (fun w' => w'.cell? ⟨w.heap.size, 0, none⟩ = some (.int .i64 p1) ∧ w'.cell? ⟨w.heap.size, 1, none⟩ = some (.int .i64 p2) ∧ w'.cell? ⟨w.heap.size + 1, 0, none⟩ = some (.int .i64 a1) ∧ w'.cell? ⟨w.heap.size + 1, 1, none⟩ = some (.int .i64 a2) ∧ w'.cell? ⟨w.heap.size + 1 + 1, 0, none⟩ = some (.int .i64 b1) ∧ w'.cell? ⟨w.heap.size + 1 + 1, 1, none⟩ = some (.int .i64 b2)) (first | (go_keep; done) | ((repeat' apply And.intro) <;> go_simp))
      (first | (go_at_call 36; refine (minus_c _ _ _ _ _ (by assumption) (by assumption)).mono ?_; rintro e w1 ⟨rfl, hb1⟩; obtain ⟨hc1, hf1⟩ := bcell hb1; have hs : w.heap.size + 1 + 1 < w1.heap.size := (by have hq := hb1.size; ((try simp at hq) <;> omega)); have g1 := fun o => hc1 w.heap.size o (by first | omega | (simp <;> omega)); have g2 := fun o => hc1 (w.heap.size + 1) o (by first | omega | (simp <;> omega)); have g3 := fun o => hc1 (w.heap.size + 1 + 1) o (by first | omega | (simp <;> omega)); clear hc1 hf1)
             | (go_at_call 35; refine (rcross_c _ _ _ _ _ _ _ (by assumption) (by assumption) (by assumption)).mono ?_; rintro e w1 ⟨rfl, hb1⟩; obtain ⟨hc1, hf1⟩ := bcell hb1; have hs : w.heap.size + 1 + 1 < w1.heap.size := (by have hq := hb1.size; ((try simp at hq) <;> omega)); have g1 := fun o => hc1 w.heap.size o (by first | omega | (simp <;> omega)); have g2 := fun o => hc1 (w.heap.size + 1) o (by first | omega | (simp <;> omega)); have g3 := fun o => hc1 (w.heap.size + 1 + 1) o (by first | omega | (simp <;> omega)); clear hc1 hf1))
    go_wp2
    go_ret
    refine ret_bool ?_ (by repeat (first | exact Below.refl _ _ | assumption | refine bstep ?_ (by assumption) | refine Below.drew ?_ | refine balloc ?_ _ | refine Below.setCell ?_ (by first | omega | (simp <;> omega)) _))
    have := H.out
    unfold on
    simp [this]

end Go.Proofs.Ytakhkeipoldpoaa

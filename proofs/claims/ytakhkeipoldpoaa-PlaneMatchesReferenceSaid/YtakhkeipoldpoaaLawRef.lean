/- LawRef: the law's walk. -/
import Derived.Test.YtakhkeipoldpoaaRefN
import Derived.Test.YtakhkeipoldpoaaHeadA
import Derived.Test.YtakhkeipoldpoaaLawMovedA
namespace Go.Proofs.Ytakhkeipoldpoaa
open Go.RowKit

set_option maxRecDepth 100000 in
set_option maxHeartbeats 3200000 in
theorem ref_law (a1 a2 b1 b2 c1 c2 d1 d2 : Int) (r s : Int) (w : World) : Calls Try.prog 3 #[(.agg #[.int .i64 a1, .int .i64 a2]), (.agg #[.int .i64 b1, .int .i64 b2]), (.agg #[.int .i64 c1, .int .i64 c2]), (.agg #[.int .i64 d1, .int .i64 d2]), (.int .i64 r), (.int .i64 s)] w (Ret w (.bool true)) := by
  go_enter Try.func3, Try.ntmps3
  go_wp2_with fail
  go_region_held3 (fun w' => w'.cell? ⟨w.heap.size, 0, none⟩ = some (.int .i64 a1) ∧ w'.cell? ⟨w.heap.size, 1, none⟩ = some (.int .i64 a2) ∧ w'.cell? ⟨w.heap.size + 1, 0, none⟩ = some (.int .i64 b1) ∧ w'.cell? ⟨w.heap.size + 1, 1, none⟩ = some (.int .i64 b2) ∧ w'.cell? ⟨w.heap.size + 1 + 1, 0, none⟩ = some (.int .i64 c1) ∧ w'.cell? ⟨w.heap.size + 1 + 1, 1, none⟩ = some (.int .i64 c2) ∧ w'.cell? ⟨w.heap.size + 1 + 1 + 1, 0, none⟩ = some (.int .i64 d1) ∧ w'.cell? ⟨w.heap.size + 1 + 1 + 1, 1, none⟩ = some (.int .i64 d2)) (first | (go_keep; done) | ((repeat' apply And.intro) <;> go_simp)) (first | (go_at_call 11; refine (head_c _).mono ?_; rintro e w1 ⟨rfl, hb1⟩; obtain ⟨hc1, hf1⟩ := bcell hb1; have hs : w.heap.size + 1 + 1 + 1 < w1.heap.size := (by have hq := hb1.size; ((try simp at hq) <;> omega)); have ga := fun o => hc1 (w.heap.size) o (by first | omega | (simp <;> omega)); have gb := fun o => hc1 (w.heap.size + 1) o (by first | omega | (simp <;> omega)); have gc := fun o => hc1 (w.heap.size + 1 + 1) o (by first | omega | (simp <;> omega)); have gd := fun o => hc1 (w.heap.size + 1 + 1 + 1) o (by first | omega | (simp <;> omega)); have hbw : Below w.heap.size w w1 := (by repeat (first | exact Below.refl _ _ | assumption | refine bstep ?_ (by assumption) | refine Below.drew ?_ | refine balloc ?_ _ | refine Below.setCell ?_ (by first | omega | (simp <;> omega)) _)); clear hc1 hf1) | (go_at_call 12; refine (valid_c _ _ _).mono ?_; rintro e w1 ⟨rfl, hb1⟩; obtain ⟨hc1, hf1⟩ := bcell hb1; have hs : w.heap.size + 1 + 1 + 1 < w1.heap.size := (by have hq := hb1.size; ((try simp at hq) <;> omega)); have ga := fun o => hc1 (w.heap.size) o (by first | omega | (simp <;> omega)); have gb := fun o => hc1 (w.heap.size + 1) o (by first | omega | (simp <;> omega)); have gc := fun o => hc1 (w.heap.size + 1 + 1) o (by first | omega | (simp <;> omega)); have gd := fun o => hc1 (w.heap.size + 1 + 1 + 1) o (by first | omega | (simp <;> omega)); have hbw : Below w.heap.size w w1 := (by repeat (first | exact Below.refl _ _ | assumption | refine bstep ?_ (by assumption) | refine Below.drew ?_ | refine balloc ?_ _ | refine Below.setCell ?_ (by first | omega | (simp <;> omega)) _)); clear hc1 hf1) | (go_at_call 13; refine (rvalid_c _ _ _).mono ?_; rintro e w1 ⟨rfl, hb1⟩; obtain ⟨hc1, hf1⟩ := bcell hb1; have hs : w.heap.size + 1 + 1 + 1 < w1.heap.size := (by have hq := hb1.size; ((try simp at hq) <;> omega)); have ga := fun o => hc1 (w.heap.size) o (by first | omega | (simp <;> omega)); have gb := fun o => hc1 (w.heap.size + 1) o (by first | omega | (simp <;> omega)); have gc := fun o => hc1 (w.heap.size + 1 + 1) o (by first | omega | (simp <;> omega)); have gd := fun o => hc1 (w.heap.size + 1 + 1 + 1) o (by first | omega | (simp <;> omega)); have hbw : Below w.heap.size w w1 := (by repeat (first | exact Below.refl _ _ | assumption | refine bstep ?_ (by assumption) | refine Below.drew ?_ | refine balloc ?_ _ | refine Below.setCell ?_ (by first | omega | (simp <;> omega)) _)); clear hc1 hf1))
  have hS : w1.cell? ⟨w.heap.size, 0, none⟩ = some (.int .i64 a1) ∧ w1.cell? ⟨w.heap.size, 1, none⟩ = some (.int .i64 a2) ∧ w1.cell? ⟨w.heap.size + 1, 0, none⟩ = some (.int .i64 b1) ∧ w1.cell? ⟨w.heap.size + 1, 1, none⟩ = some (.int .i64 b2) ∧ w1.cell? ⟨w.heap.size + 1 + 1, 0, none⟩ = some (.int .i64 c1) ∧ w1.cell? ⟨w.heap.size + 1 + 1, 1, none⟩ = some (.int .i64 c2) ∧ w1.cell? ⟨w.heap.size + 1 + 1 + 1, 0, none⟩ = some (.int .i64 d1) ∧ w1.cell? ⟨w.heap.size + 1 + 1 + 1, 1, none⟩ = some (.int .i64 d2) := by assumption
  obtain ⟨ka0, ka1, kb0, kb1, kc0, kc1, kd0, kd1⟩ := hS
  have hb0 : Below w.heap.size w w1 := by assumption
  clear hs ga gb gc gd hbw hb1
  (try clear zka0 zkb0 zkc0 zkd0)
  have zka0 : w.heap.size < w1.heap.size := World.block_lt_of_cell? _ _ ka0
  have zkb0 : w.heap.size + 1 < w1.heap.size := World.block_lt_of_cell? _ _ kb0
  have zkc0 : w.heap.size + 1 + 1 < w1.heap.size := World.block_lt_of_cell? _ _ kc0
  have zkd0 : w.heap.size + 1 + 1 + 1 < w1.heap.size := World.block_lt_of_cell? _ _ kd0
  have hbW : Below w1.heap.size w1 w1 := Below.refl _ _
  have hc := (bcell hbW).1
  go_wp2_with (first | (go_at_call 12; refine Calls.mono (valid_c _ _ _) ?_; rintro e w1 ⟨rfl, hb1⟩; replace hbW := bstep hbW hb1; clear hc; have hc := (bcell hbW).1; clear hb1) | (go_at_call 13; refine Calls.mono (rvalid_c _ _ _) ?_; rintro e w1 ⟨rfl, hb1⟩; replace hbW := bstep hbW hb1; clear hc; have hc := (bcell hbW).1; clear hb1) | (go_at_call 14; refine Calls.mono (PTurn_c _ _ _ _ _ _ _) ?_; rintro e w1 ⟨rfl, hb1⟩; replace hbW := bstep hbW hb1; clear hc; have hc := (bcell hbW).1; clear hb1) | (go_at_call 15; refine Calls.mono (RTurn_c _ _ _ _ _ _ _) ?_; rintro e w1 ⟨rfl, hb1⟩; replace hbW := bstep hbW hb1; clear hc; have hc := (bcell hbW).1; clear hb1) | (go_at_call 16; refine Calls.mono (POn_c _ _ _ _ _ _ _) ?_; rintro e w1 ⟨rfl, hb1⟩; replace hbW := bstep hbW hb1; clear hc; have hc := (bcell hbW).1; clear hb1) | (go_at_call 17; refine Calls.mono (ROn_c _ _ _ _ _ _ _) ?_; rintro e w1 ⟨rfl, hb1⟩; replace hbW := bstep hbW hb1; clear hc; have hc := (bcell hbW).1; clear hb1) | (go_at_call 18; refine Calls.mono (PMeet_c _ _ _ _ _ _ _ _ _) ?_; rintro e w1 ⟨rfl, hb1⟩; replace hbW := bstep hbW hb1; clear hc; have hc := (bcell hbW).1; clear hb1) | (go_at_call 19; refine Calls.mono (RMeet_c _ _ _ _ _ _ _ _ _) ?_; rintro e w1 ⟨rfl, hb1⟩; replace hbW := bstep hbW hb1; clear hc; have hc := (bcell hbW).1; clear hb1) | (go_at_call 20; refine Calls.mono (PNear_c _ _ _ _ _ _ _ _) ?_; rintro e w1 ⟨rfl, hb1⟩; replace hbW := bstep hbW hb1; clear hc; have hc := (bcell hbW).1; clear hb1) | (go_at_call 21; refine Calls.mono (RNear_c _ _ _ _ _ _ _ _) ?_; rintro e w1 ⟨rfl, hb1⟩; replace hbW := bstep hbW hb1; clear hc; have hc := (bcell hbW).1; clear hb1) | (go_at_call 24; refine Calls.mono (PApart_c _ _ _ _ _ _ _ _) ?_; rintro e w1 ⟨rfl, hb1⟩; replace hbW := bstep hbW hb1; clear hc; have hc := (bcell hbW).1; clear hb1) | (go_at_call 25; refine Calls.mono (RApart_c _ _ _ _ _ _ _ _) ?_; rintro e w1 ⟨rfl, hb1⟩; replace hbW := bstep hbW hb1; clear hc; have hc := (bcell hbW).1; clear hb1) | (go_at_call 22; refine Calls.mono (PClose_c _ _ _ _ _ _ _ _ _ _) ?_; rintro e w1 ⟨rfl, hb1⟩; replace hbW := bstep hbW hb1; clear hc; have hc := (bcell hbW).1; clear hb1) | (go_at_call 23; refine Calls.mono (RClose_c _ _ _ _ _ _ _ _ _ _) ?_; rintro e w1 ⟨rfl, hb1⟩; replace hbW := bstep hbW hb1; clear hc; have hc := (bcell hbW).1; clear hb1) | (go_at_call 26; refine Calls.mono (PLies_c _ _ _ _ _ _ _) ?_; rintro e w1 ⟨rfl, hb1⟩; replace hbW := bstep hbW hb1; clear hc; have hc := (bcell hbW).1; clear hb1) | (go_at_call 27; refine Calls.mono (RLies_c _ _ _ _ _ _ _) ?_; rintro e w1 ⟨rfl, hb1⟩; replace hbW := bstep hbW hb1; clear hc; have hc := (bcell hbW).1; clear hb1))
  refine Calls.mono (PDist_c a1 a2 b1 b2 _) ?_
  rintro e w2 ⟨rfl, hb2⟩
  replace hbW := bstep hbW hb2
  clear hb2 hc
  have hc := (bcell hbW).1
  have hsz := hbW.size
  have yka0 : w.heap.size < w2.heap.size := by omega
  have ykb0 : w.heap.size + 1 < w2.heap.size := by omega
  have ykc0 : w.heap.size + 1 + 1 < w2.heap.size := by omega
  have ykd0 : w.heap.size + 1 + 1 + 1 < w2.heap.size := by omega
  go_wp2_with fail
  clear hsz yka0 ykb0 ykc0 ykd0
  obtain ⟨gm, hgm⟩ : ∃ g, g = w2.heap.size := ⟨_, rfl⟩
  obtain ⟨Wm, hWm⟩ : ∃ W, W = w2.alloc (Obj.cells #[(.int .i64 (selI (vDist a1 a2 b1 b2) (rt (sq a1 a2 b1 b2)))), (.int .i64 (selI (vDist a1 a2 b1 b2) (up (sq a1 a2 b1 b2))))] 36) := ⟨_, rfl⟩
  replace ka0 : Wm.cell? ⟨w.heap.size, 0, none⟩ = some (.int .i64 a1) := by rw [hWm]; exact cell_al _ (cell_later hbW ka0)
  replace ka1 : Wm.cell? ⟨w.heap.size, 1, none⟩ = some (.int .i64 a2) := by rw [hWm]; exact cell_al _ (cell_later hbW ka1)
  replace kb0 : Wm.cell? ⟨w.heap.size + 1, 0, none⟩ = some (.int .i64 b1) := by rw [hWm]; exact cell_al _ (cell_later hbW kb0)
  replace kb1 : Wm.cell? ⟨w.heap.size + 1, 1, none⟩ = some (.int .i64 b2) := by rw [hWm]; exact cell_al _ (cell_later hbW kb1)
  replace kc0 : Wm.cell? ⟨w.heap.size + 1 + 1, 0, none⟩ = some (.int .i64 c1) := by rw [hWm]; exact cell_al _ (cell_later hbW kc0)
  replace kc1 : Wm.cell? ⟨w.heap.size + 1 + 1, 1, none⟩ = some (.int .i64 c2) := by rw [hWm]; exact cell_al _ (cell_later hbW kc1)
  replace kd0 : Wm.cell? ⟨w.heap.size + 1 + 1 + 1, 0, none⟩ = some (.int .i64 d1) := by rw [hWm]; exact cell_al _ (cell_later hbW kd0)
  replace kd1 : Wm.cell? ⟨w.heap.size + 1 + 1 + 1, 1, none⟩ = some (.int .i64 d2) := by rw [hWm]; exact cell_al _ (cell_later hbW kd1)
  have km0 : Wm.cell? ⟨gm, 0, none⟩ = some (.int .i64 (selI (vDist a1 a2 b1 b2) (rt (sq a1 a2 b1 b2)))) := by rw [hWm, hgm]; go_simp
  have km1 : Wm.cell? ⟨gm, 1, none⟩ = some (.int .i64 (selI (vDist a1 a2 b1 b2) (up (sq a1 a2 b1 b2)))) := by rw [hWm, hgm]; go_simp
  replace hb0 : Below w.heap.size w Wm := by rw [hWm]; exact balloc (bstep hb0 hbW) _
  rw [← hWm, ← hgm]
  clear hWm hgm hbW hc
  (try clear zka0 zkb0 zkc0 zkd0 zkm0)
  have zka0 : w.heap.size < Wm.heap.size := World.block_lt_of_cell? _ _ ka0
  have zkb0 : w.heap.size + 1 < Wm.heap.size := World.block_lt_of_cell? _ _ kb0
  have zkc0 : w.heap.size + 1 + 1 < Wm.heap.size := World.block_lt_of_cell? _ _ kc0
  have zkd0 : w.heap.size + 1 + 1 + 1 < Wm.heap.size := World.block_lt_of_cell? _ _ kd0
  have zkm0 : gm < Wm.heap.size := World.block_lt_of_cell? _ _ km0
  have hbW : Below Wm.heap.size Wm Wm := Below.refl _ _
  have hc := (bcell hbW).1
  refine Calls.mono (RDist_c a1 a2 b1 b2 _) ?_
  rintro e w2 ⟨rfl, hb2⟩
  replace hbW := bstep hbW hb2
  clear hb2 hc
  have hc := (bcell hbW).1
  have hsz := hbW.size
  have yka0 : w.heap.size < w2.heap.size := by omega
  have ykb0 : w.heap.size + 1 < w2.heap.size := by omega
  have ykc0 : w.heap.size + 1 + 1 < w2.heap.size := by omega
  have ykd0 : w.heap.size + 1 + 1 + 1 < w2.heap.size := by omega
  have ykm0 : gm < w2.heap.size := by omega
  go_wp2
  all_goals
    go_ret
    exact ret_bool (by simp) (by repeat (first | exact Below.refl _ _ | assumption | refine bstep ?_ (by assumption) | refine Below.drew ?_ | refine balloc ?_ _ | refine Below.setCell ?_ (by first | omega | (simp <;> omega)) _))

end Go.Proofs.Ytakhkeipoldpoaa

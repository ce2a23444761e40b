/- LawMovedD: the law's walk. -/
import Derived.Test.YtakhkeipoldpoaaLawMovedA
namespace Go.Proofs.Ytakhkeipoldpoaa
open Go.RowKit

set_option maxRecDepth 100000 in
set_option maxHeartbeats 6400000 in
theorem moved_qr (a1 a2 b1 b2 c1 c2 d1 d2 v1 v2 : Int) (r : Int) (p1 p2 q1 q2 s1 s2 t1 t2 : Int) (w : World) (ha : ok a1 a2) (hb : ok b1 b2) (hc : ok c1 c2) (hd : ok d1 d2) (hv : ok v1 v2) (hta : ∀ w, Calls Try.prog 30 #[(.agg #[.int .i64 a1, .int .i64 a2]), (.agg #[.int .i64 v1, .int .i64 v2]), (.bool false)] w (Ret w (.agg #[.int .i64 p1, .int .i64 p2]))) (htb : ∀ w, Calls Try.prog 30 #[(.agg #[.int .i64 b1, .int .i64 b2]), (.agg #[.int .i64 v1, .int .i64 v2]), (.bool false)] w (Ret w (.agg #[.int .i64 q1, .int .i64 q2]))) (htc : ∀ w, Calls Try.prog 30 #[(.agg #[.int .i64 c1, .int .i64 c2]), (.agg #[.int .i64 v1, .int .i64 v2]), (.bool false)] w (Ret w (.agg #[.int .i64 s1, .int .i64 s2]))) (htd : ∀ w, Calls Try.prog 30 #[(.agg #[.int .i64 d1, .int .i64 d2]), (.agg #[.int .i64 v1, .int .i64 v2]), (.bool false)] w (Ret w (.agg #[.int .i64 t1, .int .i64 t2]))) (hp : ok p1 p2) (hq : ok q1 q2) (hs : ok s1 s2) (ht : ok t1 t2) (eT : turn p1 p2 q1 q2 s1 s2 = turn a1 a2 b1 b2 c1 c2) (eM : meetB p1 p2 q1 q2 s1 s2 t1 t2 = meetB a1 a2 b1 b2 c1 c2 d1 d2) (eO : on p1 p2 q1 q2 s1 s2 = on a1 a2 b1 b2 c1 c2) (eS : sq p1 p2 q1 q2 = sq a1 a2 b1 b2) (eN : nearB p1 p2 q1 q2 s1 s2 r = nearB a1 a2 b1 b2 c1 c2 r) (eC : closeB p1 p2 q1 q2 s1 s2 t1 t2 r = closeB a1 a2 b1 b2 c1 c2 d1 d2 r) (hr : okd r) : Calls Try.prog 10 #[(.agg #[.int .i64 a1, .int .i64 a2]), (.agg #[.int .i64 b1, .int .i64 b2]), (.agg #[.int .i64 c1, .int .i64 c2]), (.agg #[.int .i64 d1, .int .i64 d2]), (.int .i64 r), (.agg #[.int .i64 v1, .int .i64 v2]), (.bool false)] w (Ret w (.bool true)) := by
  have va : okB a1 a2 = true := okB_of ha
  have vb : okB b1 b2 = true := okB_of hb
  have vc : okB c1 c2 = true := okB_of hc
  have vd : okB d1 d2 = true := okB_of hd
  have vv : okB v1 v2 = true := okB_of hv
  have vp : okB p1 p2 = true := okB_of hp
  have vq : okB q1 q2 = true := okB_of hq
  have vs : okB s1 s2 = true := okB_of hs
  have vt : okB t1 t2 = true := okB_of ht
  obtain ⟨tb1, tb2⟩ := cmp_bd (cross a1 a2 b1 b2 c1 c2) 0
  have tb1 : -1 ≤ turn a1 a2 b1 b2 c1 c2 := tb1
  have tb2 : turn a1 a2 b1 b2 c1 c2 ≤ 1 := tb2
  go_enter Try.func10, Try.ntmps10
  go_wp2_with fail
  refine (head_c _).mono ?_
  rintro e w1 ⟨rfl, hbW⟩
  have hc := (bcell hbW).1
  have ka0 : w1.cell? ⟨w.heap.size, 0, none⟩ = some (.int .i64 a1) := by rw [hc _ _ (by first | omega | (simp <;> omega))]; go_simp
  have ka1 : w1.cell? ⟨w.heap.size, 1, none⟩ = some (.int .i64 a2) := by rw [hc _ _ (by first | omega | (simp <;> omega))]; go_simp
  have kb0 : w1.cell? ⟨w.heap.size + 1, 0, none⟩ = some (.int .i64 b1) := by rw [hc _ _ (by first | omega | (simp <;> omega))]; go_simp
  have kb1 : w1.cell? ⟨w.heap.size + 1, 1, none⟩ = some (.int .i64 b2) := by rw [hc _ _ (by first | omega | (simp <;> omega))]; go_simp
  have kc0 : w1.cell? ⟨w.heap.size + 1 + 1, 0, none⟩ = some (.int .i64 c1) := by rw [hc _ _ (by first | omega | (simp <;> omega))]; go_simp
  have kc1 : w1.cell? ⟨w.heap.size + 1 + 1, 1, none⟩ = some (.int .i64 c2) := by rw [hc _ _ (by first | omega | (simp <;> omega))]; go_simp
  have kd0 : w1.cell? ⟨w.heap.size + 1 + 1 + 1, 0, none⟩ = some (.int .i64 d1) := by rw [hc _ _ (by first | omega | (simp <;> omega))]; go_simp
  have kd1 : w1.cell? ⟨w.heap.size + 1 + 1 + 1, 1, none⟩ = some (.int .i64 d2) := by rw [hc _ _ (by first | omega | (simp <;> omega))]; go_simp
  have kv0 : w1.cell? ⟨w.heap.size + 1 + 1 + 1 + 1, 0, none⟩ = some (.int .i64 v1) := by rw [hc _ _ (by first | omega | (simp <;> omega))]; go_simp
  have kv1 : w1.cell? ⟨w.heap.size + 1 + 1 + 1 + 1, 1, none⟩ = some (.int .i64 v2) := by rw [hc _ _ (by first | omega | (simp <;> omega))]; go_simp
  have hb0 : Below w.heap.size w w1 := (by repeat (first | exact Below.refl _ _ | assumption | refine bstep ?_ (by assumption) | refine Below.drew ?_ | refine balloc ?_ _ | refine Below.setCell ?_ (by first | omega | (simp <;> omega)) _))
  clear hc hbW
  (try clear zka0 zkb0 zkc0 zkd0 zkv0)
  have zka0 : w.heap.size < w1.heap.size := World.block_lt_of_cell? _ _ ka0
  have zkb0 : w.heap.size + 1 < w1.heap.size := World.block_lt_of_cell? _ _ kb0
  have zkc0 : w.heap.size + 1 + 1 < w1.heap.size := World.block_lt_of_cell? _ _ kc0
  have zkd0 : w.heap.size + 1 + 1 + 1 < w1.heap.size := World.block_lt_of_cell? _ _ kd0
  have zkv0 : w.heap.size + 1 + 1 + 1 + 1 < w1.heap.size := World.block_lt_of_cell? _ _ kv0
  have hbW : Below w1.heap.size w1 w1 := Below.refl _ _
  have hc := (bcell hbW).1
  go_wp2_with (first | (go_at_call 12; refine Calls.mono (valid_c _ _ _) ?_; rintro e w1 ⟨rfl, hb1⟩; replace hbW := bstep hbW hb1; clear hc; have hc := (bcell hbW).1; clear hb1))
  refine Calls.mono (hta _) ?_
  rintro e w2 ⟨rfl, hb2⟩
  replace hbW := bstep hbW hb2
  clear hb2 hc
  have hc := (bcell hbW).1
  have hsz := hbW.size
  have yka0 : w.heap.size < w2.heap.size := by omega
  have ykb0 : w.heap.size + 1 < w2.heap.size := by omega
  have ykc0 : w.heap.size + 1 + 1 < w2.heap.size := by omega
  have ykd0 : w.heap.size + 1 + 1 + 1 < w2.heap.size := by omega
  have ykv0 : w.heap.size + 1 + 1 + 1 + 1 < w2.heap.size := by omega
  go_wp2_with fail
  clear hsz yka0 ykb0 ykc0 ykd0 ykv0
  obtain ⟨gp, hgp⟩ : ∃ g, g = w2.heap.size := ⟨_, rfl⟩
  obtain ⟨Wp, hWp⟩ : ∃ W, W = w2.alloc (Obj.cells #[(.int .i64 p1), (.int .i64 p2)] 23) := ⟨_, rfl⟩
  replace ka0 : Wp.cell? ⟨w.heap.size, 0, none⟩ = some (.int .i64 a1) := by rw [hWp]; exact cell_al _ (cell_later hbW ka0)
  replace ka1 : Wp.cell? ⟨w.heap.size, 1, none⟩ = some (.int .i64 a2) := by rw [hWp]; exact cell_al _ (cell_later hbW ka1)
  replace kb0 : Wp.cell? ⟨w.heap.size + 1, 0, none⟩ = some (.int .i64 b1) := by rw [hWp]; exact cell_al _ (cell_later hbW kb0)
  replace kb1 : Wp.cell? ⟨w.heap.size + 1, 1, none⟩ = some (.int .i64 b2) := by rw [hWp]; exact cell_al _ (cell_later hbW kb1)
  replace kc0 : Wp.cell? ⟨w.heap.size + 1 + 1, 0, none⟩ = some (.int .i64 c1) := by rw [hWp]; exact cell_al _ (cell_later hbW kc0)
  replace kc1 : Wp.cell? ⟨w.heap.size + 1 + 1, 1, none⟩ = some (.int .i64 c2) := by rw [hWp]; exact cell_al _ (cell_later hbW kc1)
  replace kd0 : Wp.cell? ⟨w.heap.size + 1 + 1 + 1, 0, none⟩ = some (.int .i64 d1) := by rw [hWp]; exact cell_al _ (cell_later hbW kd0)
  replace kd1 : Wp.cell? ⟨w.heap.size + 1 + 1 + 1, 1, none⟩ = some (.int .i64 d2) := by rw [hWp]; exact cell_al _ (cell_later hbW kd1)
  replace kv0 : Wp.cell? ⟨w.heap.size + 1 + 1 + 1 + 1, 0, none⟩ = some (.int .i64 v1) := by rw [hWp]; exact cell_al _ (cell_later hbW kv0)
  replace kv1 : Wp.cell? ⟨w.heap.size + 1 + 1 + 1 + 1, 1, none⟩ = some (.int .i64 v2) := by rw [hWp]; exact cell_al _ (cell_later hbW kv1)
  have kp0 : Wp.cell? ⟨gp, 0, none⟩ = some (.int .i64 p1) := by rw [hWp, hgp]; go_simp
  have kp1 : Wp.cell? ⟨gp, 1, none⟩ = some (.int .i64 p2) := by rw [hWp, hgp]; go_simp
  replace hb0 : Below w.heap.size w Wp := by rw [hWp]; exact balloc (bstep hb0 hbW) _
  rw [← hWp, ← hgp]
  clear hWp hgp hbW hc
  (try clear zka0 zkb0 zkc0 zkd0 zkv0 zkp0)
  have zka0 : w.heap.size < Wp.heap.size := World.block_lt_of_cell? _ _ ka0
  have zkb0 : w.heap.size + 1 < Wp.heap.size := World.block_lt_of_cell? _ _ kb0
  have zkc0 : w.heap.size + 1 + 1 < Wp.heap.size := World.block_lt_of_cell? _ _ kc0
  have zkd0 : w.heap.size + 1 + 1 + 1 < Wp.heap.size := World.block_lt_of_cell? _ _ kd0
  have zkv0 : w.heap.size + 1 + 1 + 1 + 1 < Wp.heap.size := World.block_lt_of_cell? _ _ kv0
  have zkp0 : gp < Wp.heap.size := World.block_lt_of_cell? _ _ kp0
  have hbW : Below Wp.heap.size Wp Wp := Below.refl _ _
  have hc := (bcell hbW).1
  refine Calls.mono (htb _) ?_
  rintro e w2 ⟨rfl, hb2⟩
  replace hbW := bstep hbW hb2
  clear hb2 hc
  have hc := (bcell hbW).1
  have hsz := hbW.size
  have yka0 : w.heap.size < w2.heap.size := by omega
  have ykb0 : w.heap.size + 1 < w2.heap.size := by omega
  have ykc0 : w.heap.size + 1 + 1 < w2.heap.size := by omega
  have ykd0 : w.heap.size + 1 + 1 + 1 < w2.heap.size := by omega
  have ykv0 : w.heap.size + 1 + 1 + 1 + 1 < w2.heap.size := by omega
  have ykp0 : gp < w2.heap.size := by omega
  go_wp2_with fail
  clear hsz yka0 ykb0 ykc0 ykd0 ykv0 ykp0
  obtain ⟨gq, hgq⟩ : ∃ g, g = w2.heap.size := ⟨_, rfl⟩
  obtain ⟨Wq, hWq⟩ : ∃ W, W = w2.alloc (Obj.cells #[(.int .i64 q1), (.int .i64 q2)] 23) := ⟨_, rfl⟩
  replace ka0 : Wq.cell? ⟨w.heap.size, 0, none⟩ = some (.int .i64 a1) := by rw [hWq]; exact cell_al _ (cell_later hbW ka0)
  replace ka1 : Wq.cell? ⟨w.heap.size, 1, none⟩ = some (.int .i64 a2) := by rw [hWq]; exact cell_al _ (cell_later hbW ka1)
  replace kb0 : Wq.cell? ⟨w.heap.size + 1, 0, none⟩ = some (.int .i64 b1) := by rw [hWq]; exact cell_al _ (cell_later hbW kb0)
  replace kb1 : Wq.cell? ⟨w.heap.size + 1, 1, none⟩ = some (.int .i64 b2) := by rw [hWq]; exact cell_al _ (cell_later hbW kb1)
  replace kc0 : Wq.cell? ⟨w.heap.size + 1 + 1, 0, none⟩ = some (.int .i64 c1) := by rw [hWq]; exact cell_al _ (cell_later hbW kc0)
  replace kc1 : Wq.cell? ⟨w.heap.size + 1 + 1, 1, none⟩ = some (.int .i64 c2) := by rw [hWq]; exact cell_al _ (cell_later hbW kc1)
  replace kd0 : Wq.cell? ⟨w.heap.size + 1 + 1 + 1, 0, none⟩ = some (.int .i64 d1) := by rw [hWq]; exact cell_al _ (cell_later hbW kd0)
  replace kd1 : Wq.cell? ⟨w.heap.size + 1 + 1 + 1, 1, none⟩ = some (.int .i64 d2) := by rw [hWq]; exact cell_al _ (cell_later hbW kd1)
  replace kv0 : Wq.cell? ⟨w.heap.size + 1 + 1 + 1 + 1, 0, none⟩ = some (.int .i64 v1) := by rw [hWq]; exact cell_al _ (cell_later hbW kv0)
  replace kv1 : Wq.cell? ⟨w.heap.size + 1 + 1 + 1 + 1, 1, none⟩ = some (.int .i64 v2) := by rw [hWq]; exact cell_al _ (cell_later hbW kv1)
  replace kp0 : Wq.cell? ⟨gp, 0, none⟩ = some (.int .i64 p1) := by rw [hWq]; exact cell_al _ (cell_later hbW kp0)
  replace kp1 : Wq.cell? ⟨gp, 1, none⟩ = some (.int .i64 p2) := by rw [hWq]; exact cell_al _ (cell_later hbW kp1)
  have kq0 : Wq.cell? ⟨gq, 0, none⟩ = some (.int .i64 q1) := by rw [hWq, hgq]; go_simp
  have kq1 : Wq.cell? ⟨gq, 1, none⟩ = some (.int .i64 q2) := by rw [hWq, hgq]; go_simp
  replace hb0 : Below w.heap.size w Wq := by rw [hWq]; exact balloc (bstep hb0 hbW) _
  rw [← hWq, ← hgq]
  clear hWq hgq hbW hc
  (try clear zka0 zkb0 zkc0 zkd0 zkv0 zkp0 zkq0)
  have zka0 : w.heap.size < Wq.heap.size := World.block_lt_of_cell? _ _ ka0
  have zkb0 : w.heap.size + 1 < Wq.heap.size := World.block_lt_of_cell? _ _ kb0
  have zkc0 : w.heap.size + 1 + 1 < Wq.heap.size := World.block_lt_of_cell? _ _ kc0
  have zkd0 : w.heap.size + 1 + 1 + 1 < Wq.heap.size := World.block_lt_of_cell? _ _ kd0
  have zkv0 : w.heap.size + 1 + 1 + 1 + 1 < Wq.heap.size := World.block_lt_of_cell? _ _ kv0
  have zkp0 : gp < Wq.heap.size := World.block_lt_of_cell? _ _ kp0
  have zkq0 : gq < Wq.heap.size := World.block_lt_of_cell? _ _ kq0
  have hbW : Below Wq.heap.size Wq Wq := Below.refl _ _
  have hc := (bcell hbW).1
  refine Calls.mono (htc _) ?_
  rintro e w2 ⟨rfl, hb2⟩
  replace hbW := bstep hbW hb2
  clear hb2 hc
  have hc := (bcell hbW).1
  have hsz := hbW.size
  have yka0 : w.heap.size < w2.heap.size := by omega
  have ykb0 : w.heap.size + 1 < w2.heap.size := by omega
  have ykc0 : w.heap.size + 1 + 1 < w2.heap.size := by omega
  have ykd0 : w.heap.size + 1 + 1 + 1 < w2.heap.size := by omega
  have ykv0 : w.heap.size + 1 + 1 + 1 + 1 < w2.heap.size := by omega
  have ykp0 : gp < w2.heap.size := by omega
  have ykq0 : gq < w2.heap.size := by omega
  go_wp2_with fail
  clear hsz yka0 ykb0 ykc0 ykd0 ykv0 ykp0 ykq0
  obtain ⟨gs, hgs⟩ : ∃ g, g = w2.heap.size := ⟨_, rfl⟩
  obtain ⟨Ws, hWs⟩ : ∃ W, W = w2.alloc (Obj.cells #[(.int .i64 s1), (.int .i64 s2)] 23) := ⟨_, rfl⟩
  replace ka0 : Ws.cell? ⟨w.heap.size, 0, none⟩ = some (.int .i64 a1) := by rw [hWs]; exact cell_al _ (cell_later hbW ka0)
  replace ka1 : Ws.cell? ⟨w.heap.size, 1, none⟩ = some (.int .i64 a2) := by rw [hWs]; exact cell_al _ (cell_later hbW ka1)
  replace kb0 : Ws.cell? ⟨w.heap.size + 1, 0, none⟩ = some (.int .i64 b1) := by rw [hWs]; exact cell_al _ (cell_later hbW kb0)
  replace kb1 : Ws.cell? ⟨w.heap.size + 1, 1, none⟩ = some (.int .i64 b2) := by rw [hWs]; exact cell_al _ (cell_later hbW kb1)
  replace kc0 : Ws.cell? ⟨w.heap.size + 1 + 1, 0, none⟩ = some (.int .i64 c1) := by rw [hWs]; exact cell_al _ (cell_later hbW kc0)
  replace kc1 : Ws.cell? ⟨w.heap.size + 1 + 1, 1, none⟩ = some (.int .i64 c2) := by rw [hWs]; exact cell_al _ (cell_later hbW kc1)
  replace kd0 : Ws.cell? ⟨w.heap.size + 1 + 1 + 1, 0, none⟩ = some (.int .i64 d1) := by rw [hWs]; exact cell_al _ (cell_later hbW kd0)
  replace kd1 : Ws.cell? ⟨w.heap.size + 1 + 1 + 1, 1, none⟩ = some (.int .i64 d2) := by rw [hWs]; exact cell_al _ (cell_later hbW kd1)
  replace kv0 : Ws.cell? ⟨w.heap.size + 1 + 1 + 1 + 1, 0, none⟩ = some (.int .i64 v1) := by rw [hWs]; exact cell_al _ (cell_later hbW kv0)
  replace kv1 : Ws.cell? ⟨w.heap.size + 1 + 1 + 1 + 1, 1, none⟩ = some (.int .i64 v2) := by rw [hWs]; exact cell_al _ (cell_later hbW kv1)
  replace kp0 : Ws.cell? ⟨gp, 0, none⟩ = some (.int .i64 p1) := by rw [hWs]; exact cell_al _ (cell_later hbW kp0)
  replace kp1 : Ws.cell? ⟨gp, 1, none⟩ = some (.int .i64 p2) := by rw [hWs]; exact cell_al _ (cell_later hbW kp1)
  replace kq0 : Ws.cell? ⟨gq, 0, none⟩ = some (.int .i64 q1) := by rw [hWs]; exact cell_al _ (cell_later hbW kq0)
  replace kq1 : Ws.cell? ⟨gq, 1, none⟩ = some (.int .i64 q2) := by rw [hWs]; exact cell_al _ (cell_later hbW kq1)
  have ks0 : Ws.cell? ⟨gs, 0, none⟩ = some (.int .i64 s1) := by rw [hWs, hgs]; go_simp
  have ks1 : Ws.cell? ⟨gs, 1, none⟩ = some (.int .i64 s2) := by rw [hWs, hgs]; go_simp
  replace hb0 : Below w.heap.size w Ws := by rw [hWs]; exact balloc (bstep hb0 hbW) _
  rw [← hWs, ← hgs]
  clear hWs hgs hbW hc
  (try clear zka0 zkb0 zkc0 zkd0 zkv0 zkp0 zkq0 zks0)
  have zka0 : w.heap.size < Ws.heap.size := World.block_lt_of_cell? _ _ ka0
  have zkb0 : w.heap.size + 1 < Ws.heap.size := World.block_lt_of_cell? _ _ kb0
  have zkc0 : w.heap.size + 1 + 1 < Ws.heap.size := World.block_lt_of_cell? _ _ kc0
  have zkd0 : w.heap.size + 1 + 1 + 1 < Ws.heap.size := World.block_lt_of_cell? _ _ kd0
  have zkv0 : w.heap.size + 1 + 1 + 1 + 1 < Ws.heap.size := World.block_lt_of_cell? _ _ kv0
  have zkp0 : gp < Ws.heap.size := World.block_lt_of_cell? _ _ kp0
  have zkq0 : gq < Ws.heap.size := World.block_lt_of_cell? _ _ kq0
  have zks0 : gs < Ws.heap.size := World.block_lt_of_cell? _ _ ks0
  have hbW : Below Ws.heap.size Ws Ws := Below.refl _ _
  have hc := (bcell hbW).1
  refine Calls.mono (htd _) ?_
  rintro e w2 ⟨rfl, hb2⟩
  replace hbW := bstep hbW hb2
  clear hb2 hc
  have hc := (bcell hbW).1
  have hsz := hbW.size
  have yka0 : w.heap.size < w2.heap.size := by omega
  have ykb0 : w.heap.size + 1 < w2.heap.size := by omega
  have ykc0 : w.heap.size + 1 + 1 < w2.heap.size := by omega
  have ykd0 : w.heap.size + 1 + 1 + 1 < w2.heap.size := by omega
  have ykv0 : w.heap.size + 1 + 1 + 1 + 1 < w2.heap.size := by omega
  have ykp0 : gp < w2.heap.size := by omega
  have ykq0 : gq < w2.heap.size := by omega
  have yks0 : gs < w2.heap.size := by omega
  go_wp2_with fail
  clear hsz yka0 ykb0 ykc0 ykd0 ykv0 ykp0 ykq0 yks0
  obtain ⟨gt, hgt⟩ : ∃ g, g = w2.heap.size := ⟨_, rfl⟩
  obtain ⟨Wt, hWt⟩ : ∃ W, W = w2.alloc (Obj.cells #[(.int .i64 t1), (.int .i64 t2)] 23) := ⟨_, rfl⟩
  replace ka0 : Wt.cell? ⟨w.heap.size, 0, none⟩ = some (.int .i64 a1) := by rw [hWt]; exact cell_al _ (cell_later hbW ka0)
  replace ka1 : Wt.cell? ⟨w.heap.size, 1, none⟩ = some (.int .i64 a2) := by rw [hWt]; exact cell_al _ (cell_later hbW ka1)
  replace kb0 : Wt.cell? ⟨w.heap.size + 1, 0, none⟩ = some (.int .i64 b1) := by rw [hWt]; exact cell_al _ (cell_later hbW kb0)
  replace kb1 : Wt.cell? ⟨w.heap.size + 1, 1, none⟩ = some (.int .i64 b2) := by rw [hWt]; exact cell_al _ (cell_later hbW kb1)
  replace kc0 : Wt.cell? ⟨w.heap.size + 1 + 1, 0, none⟩ = some (.int .i64 c1) := by rw [hWt]; exact cell_al _ (cell_later hbW kc0)
  replace kc1 : Wt.cell? ⟨w.heap.size + 1 + 1, 1, none⟩ = some (.int .i64 c2) := by rw [hWt]; exact cell_al _ (cell_later hbW kc1)
  replace kd0 : Wt.cell? ⟨w.heap.size + 1 + 1 + 1, 0, none⟩ = some (.int .i64 d1) := by rw [hWt]; exact cell_al _ (cell_later hbW kd0)
  replace kd1 : Wt.cell? ⟨w.heap.size + 1 + 1 + 1, 1, none⟩ = some (.int .i64 d2) := by rw [hWt]; exact cell_al _ (cell_later hbW kd1)
  replace kv0 : Wt.cell? ⟨w.heap.size + 1 + 1 + 1 + 1, 0, none⟩ = some (.int .i64 v1) := by rw [hWt]; exact cell_al _ (cell_later hbW kv0)
  replace kv1 : Wt.cell? ⟨w.heap.size + 1 + 1 + 1 + 1, 1, none⟩ = some (.int .i64 v2) := by rw [hWt]; exact cell_al _ (cell_later hbW kv1)
  replace kp0 : Wt.cell? ⟨gp, 0, none⟩ = some (.int .i64 p1) := by rw [hWt]; exact cell_al _ (cell_later hbW kp0)
  replace kp1 : Wt.cell? ⟨gp, 1, none⟩ = some (.int .i64 p2) := by rw [hWt]; exact cell_al _ (cell_later hbW kp1)
  replace kq0 : Wt.cell? ⟨gq, 0, none⟩ = some (.int .i64 q1) := by rw [hWt]; exact cell_al _ (cell_later hbW kq0)
  replace kq1 : Wt.cell? ⟨gq, 1, none⟩ = some (.int .i64 q2) := by rw [hWt]; exact cell_al _ (cell_later hbW kq1)
  replace ks0 : Wt.cell? ⟨gs, 0, none⟩ = some (.int .i64 s1) := by rw [hWt]; exact cell_al _ (cell_later hbW ks0)
  replace ks1 : Wt.cell? ⟨gs, 1, none⟩ = some (.int .i64 s2) := by rw [hWt]; exact cell_al _ (cell_later hbW ks1)
  have kt0 : Wt.cell? ⟨gt, 0, none⟩ = some (.int .i64 t1) := by rw [hWt, hgt]; go_simp
  have kt1 : Wt.cell? ⟨gt, 1, none⟩ = some (.int .i64 t2) := by rw [hWt, hgt]; go_simp
  replace hb0 : Below w.heap.size w Wt := by rw [hWt]; exact balloc (bstep hb0 hbW) _
  rw [← hWt, ← hgt]
  clear hWt hgt hbW hc
  (try clear zka0 zkb0 zkc0 zkd0 zkv0 zkp0 zkq0 zks0 zkt0)
  have zka0 : w.heap.size < Wt.heap.size := World.block_lt_of_cell? _ _ ka0
  have zkb0 : w.heap.size + 1 < Wt.heap.size := World.block_lt_of_cell? _ _ kb0
  have zkc0 : w.heap.size + 1 + 1 < Wt.heap.size := World.block_lt_of_cell? _ _ kc0
  have zkd0 : w.heap.size + 1 + 1 + 1 < Wt.heap.size := World.block_lt_of_cell? _ _ kd0
  have zkv0 : w.heap.size + 1 + 1 + 1 + 1 < Wt.heap.size := World.block_lt_of_cell? _ _ kv0
  have zkp0 : gp < Wt.heap.size := World.block_lt_of_cell? _ _ kp0
  have zkq0 : gq < Wt.heap.size := World.block_lt_of_cell? _ _ kq0
  have zks0 : gs < Wt.heap.size := World.block_lt_of_cell? _ _ ks0
  have zkt0 : gt < Wt.heap.size := World.block_lt_of_cell? _ _ kt0
  have hbW : Below Wt.heap.size Wt Wt := Below.refl _ _
  have hc := (bcell hbW).1
  go_wp2_with (first
        | (go_at_call 12; refine Calls.mono (valid_c _ _ _) ?_; rintro e w1 ⟨rfl, hb1⟩; replace hbW := bstep hbW hb1; clear hc; have hc := (bcell hbW).1; clear hb1)
        | (go_at_call 14; refine Calls.mono (Turn_ok _ _ _ _ _ _ _ ?_ ?_ ?_) ?_; assumption; assumption; assumption; rintro e w1 ⟨rfl, hb1⟩; replace hbW := bstep hbW hb1; clear hc; have hc := (bcell hbW).1; clear hb1)
        | (go_at_call 18; refine Calls.mono (Meet_ok _ _ _ _ _ _ _ _ _ ?_ ?_ ?_ ?_) ?_; assumption; assumption; assumption; assumption; rintro e w1 ⟨rfl, hb1⟩; replace hbW := bstep hbW hb1; clear hc; have hc := (bcell hbW).1; clear hb1)
        | (go_at_call 16; refine Calls.mono (On_ok _ _ _ _ _ _ _ ?_ ?_ ?_) ?_; assumption; assumption; assumption; rintro e w1 ⟨rfl, hb1⟩; replace hbW := bstep hbW hb1; clear hc; have hc := (bcell hbW).1; clear hb1)
        | (go_at_call 20; refine Calls.mono (Near_ok _ _ _ _ _ _ _ _ ?_ ?_ ?_ ?_) ?_; assumption; assumption; assumption; (first | assumption | (unfold okd; omega)); rintro e w1 ⟨rfl, hb1⟩; replace hbW := bstep hbW hb1; clear hc; have hc := (bcell hbW).1; clear hb1)
        | (go_at_call 22; refine Calls.mono (Close_ok _ _ _ _ _ _ _ _ _ _ ?_ ?_ ?_ ?_ ?_) ?_; assumption; assumption; assumption; assumption; (first | assumption | (unfold okd; omega)); rintro e w1 ⟨rfl, hb1⟩; replace hbW := bstep hbW hb1; clear hc; have hc := (bcell hbW).1; clear hb1))
  refine Calls.mono (Dist_ok _ _ _ _ _ ha hb) ?_
  rintro e w2 ⟨rfl, hb2⟩
  replace hbW := bstep hbW hb2
  clear hb2 hc
  have hc := (bcell hbW).1
  have hsz := hbW.size
  have yka0 : w.heap.size < w2.heap.size := by omega
  have ykb0 : w.heap.size + 1 < w2.heap.size := by omega
  have ykc0 : w.heap.size + 1 + 1 < w2.heap.size := by omega
  have ykd0 : w.heap.size + 1 + 1 + 1 < w2.heap.size := by omega
  have ykv0 : w.heap.size + 1 + 1 + 1 + 1 < w2.heap.size := by omega
  have ykp0 : gp < w2.heap.size := by omega
  have ykq0 : gq < w2.heap.size := by omega
  have yks0 : gs < w2.heap.size := by omega
  have ykt0 : gt < w2.heap.size := by omega
  go_wp2_with fail
  clear hsz yka0 ykb0 ykc0 ykd0 ykv0 ykp0 ykq0 yks0 ykt0
  obtain ⟨gm, hgm⟩ : ∃ g, g = w2.heap.size := ⟨_, rfl⟩
  obtain ⟨Wm, hWm⟩ : ∃ W, W = w2.alloc (Obj.cells #[(.int .i64 (rt (sq a1 a2 b1 b2))), (.int .i64 (up (sq a1 a2 b1 b2)))] 36) := ⟨_, rfl⟩
  replace ka0 : Wm.cell? ⟨w.heap.size, 0, none⟩ = some (.int .i64 a1) := by rw [hWm]; exact cell_al _ (cell_later hbW ka0)
  replace ka1 : Wm.cell? ⟨w.heap.size, 1, none⟩ = some (.int .i64 a2) := by rw [hWm]; exact cell_al _ (cell_later hbW ka1)
  replace kb0 : Wm.cell? ⟨w.heap.size + 1, 0, none⟩ = some (.int .i64 b1) := by rw [hWm]; exact cell_al _ (cell_later hbW kb0)
  replace kb1 : Wm.cell? ⟨w.heap.size + 1, 1, none⟩ = some (.int .i64 b2) := by rw [hWm]; exact cell_al _ (cell_later hbW kb1)
  replace kc0 : Wm.cell? ⟨w.heap.size + 1 + 1, 0, none⟩ = some (.int .i64 c1) := by rw [hWm]; exact cell_al _ (cell_later hbW kc0)
  replace kc1 : Wm.cell? ⟨w.heap.size + 1 + 1, 1, none⟩ = some (.int .i64 c2) := by rw [hWm]; exact cell_al _ (cell_later hbW kc1)
  replace kd0 : Wm.cell? ⟨w.heap.size + 1 + 1 + 1, 0, none⟩ = some (.int .i64 d1) := by rw [hWm]; exact cell_al _ (cell_later hbW kd0)
  replace kd1 : Wm.cell? ⟨w.heap.size + 1 + 1 + 1, 1, none⟩ = some (.int .i64 d2) := by rw [hWm]; exact cell_al _ (cell_later hbW kd1)
  replace kv0 : Wm.cell? ⟨w.heap.size + 1 + 1 + 1 + 1, 0, none⟩ = some (.int .i64 v1) := by rw [hWm]; exact cell_al _ (cell_later hbW kv0)
  replace kv1 : Wm.cell? ⟨w.heap.size + 1 + 1 + 1 + 1, 1, none⟩ = some (.int .i64 v2) := by rw [hWm]; exact cell_al _ (cell_later hbW kv1)
  replace kp0 : Wm.cell? ⟨gp, 0, none⟩ = some (.int .i64 p1) := by rw [hWm]; exact cell_al _ (cell_later hbW kp0)
  replace kp1 : Wm.cell? ⟨gp, 1, none⟩ = some (.int .i64 p2) := by rw [hWm]; exact cell_al _ (cell_later hbW kp1)
  replace kq0 : Wm.cell? ⟨gq, 0, none⟩ = some (.int .i64 q1) := by rw [hWm]; exact cell_al _ (cell_later hbW kq0)
  replace kq1 : Wm.cell? ⟨gq, 1, none⟩ = some (.int .i64 q2) := by rw [hWm]; exact cell_al _ (cell_later hbW kq1)
  replace ks0 : Wm.cell? ⟨gs, 0, none⟩ = some (.int .i64 s1) := by rw [hWm]; exact cell_al _ (cell_later hbW ks0)
  replace ks1 : Wm.cell? ⟨gs, 1, none⟩ = some (.int .i64 s2) := by rw [hWm]; exact cell_al _ (cell_later hbW ks1)
  replace kt0 : Wm.cell? ⟨gt, 0, none⟩ = some (.int .i64 t1) := by rw [hWm]; exact cell_al _ (cell_later hbW kt0)
  replace kt1 : Wm.cell? ⟨gt, 1, none⟩ = some (.int .i64 t2) := by rw [hWm]; exact cell_al _ (cell_later hbW kt1)
  have km0 : Wm.cell? ⟨gm, 0, none⟩ = some (.int .i64 (rt (sq a1 a2 b1 b2))) := by rw [hWm, hgm]; go_simp
  have km1 : Wm.cell? ⟨gm, 1, none⟩ = some (.int .i64 (up (sq a1 a2 b1 b2))) := by rw [hWm, hgm]; go_simp
  replace hb0 : Below w.heap.size w Wm := by rw [hWm]; exact balloc (bstep hb0 hbW) _
  rw [← hWm, ← hgm]
  clear hWm hgm hbW hc
  (try clear zka0 zkb0 zkc0 zkd0 zkv0 zkp0 zkq0 zks0 zkt0 zkm0)
  have zka0 : w.heap.size < Wm.heap.size := World.block_lt_of_cell? _ _ ka0
  have zkb0 : w.heap.size + 1 < Wm.heap.size := World.block_lt_of_cell? _ _ kb0
  have zkc0 : w.heap.size + 1 + 1 < Wm.heap.size := World.block_lt_of_cell? _ _ kc0
  have zkd0 : w.heap.size + 1 + 1 + 1 < Wm.heap.size := World.block_lt_of_cell? _ _ kd0
  have zkv0 : w.heap.size + 1 + 1 + 1 + 1 < Wm.heap.size := World.block_lt_of_cell? _ _ kv0
  have zkp0 : gp < Wm.heap.size := World.block_lt_of_cell? _ _ kp0
  have zkq0 : gq < Wm.heap.size := World.block_lt_of_cell? _ _ kq0
  have zks0 : gs < Wm.heap.size := World.block_lt_of_cell? _ _ ks0
  have zkt0 : gt < Wm.heap.size := World.block_lt_of_cell? _ _ kt0
  have zkm0 : gm < Wm.heap.size := World.block_lt_of_cell? _ _ km0
  have hbW : Below Wm.heap.size Wm Wm := Below.refl _ _
  have hc := (bcell hbW).1
  refine Calls.mono (Dist_ok _ _ _ _ _ hp hq) ?_
  rintro e w2 ⟨rfl, hb2⟩
  replace hbW := bstep hbW hb2
  clear hb2 hc
  have hc := (bcell hbW).1
  have hsz := hbW.size
  have ykm0 : gm < w2.heap.size := by omega
  go_wp2
  all_goals
    go_ret
    exact ret_bool (by simp) (by repeat (first | exact Below.refl _ _ | assumption | refine bstep ?_ (by assumption) | refine Below.drew ?_ | refine balloc ?_ _ | refine Below.setCell ?_ (by first | omega | (simp <;> omega)) _))

end Go.Proofs.Ytakhkeipoldpoaa

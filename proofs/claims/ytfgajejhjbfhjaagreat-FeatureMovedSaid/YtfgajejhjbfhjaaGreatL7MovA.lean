/- L7MovA: FeatureMoved, what is not valid. -/
import Derived.Test.YtfgajejhjbfhjaaGreatFeaSd
import Derived.Test.YtfgajejhjbfhjaaGreatFeaHd
import Derived.Test.YtfgajejhjbfhjaaGreatRows
import Derived.WalkKit
import Derived.WalkSpells
import Derived.WalkLawsBesides
import Derived.Lib.Hide
import Derived.Deep.QuietTactic
import Derived.BigQuiet
import Derived.RegionTactic
import Derived.ChangeAlike
import Derived.BigRegion
import Derived.Deep.RegionHeld3
import Derived.Deep.RegionWith
import Derived.Outline
import Derived.IntWalk
import Derived.Deep.DeepCutAuto
namespace Go.Proofs.YtfgajejhjbfhjaaGreat.Fe
open Go.RowKit
set_option linter.unusedSimpArgs false
set_option linter.unusedVariables false

set_option maxRecDepth 100000 in
set_option maxHeartbeats 12800000 in
theorem moved_1 (v u : Value) (f g : Fe) (p1 p2 v1 v2 : Int) (w : World) (hv : FeV w v f) (hu : FeV w u g) (h1 : vaF f = false) : Calls Tryz.prog 9 #[v, u, (.agg #[.int .i64 p1, .int .i64 p2]), (.agg #[.int .i64 v1, .int .i64 v2])] w (Ret w (.bool true)) := by
  obtain ⟨⟨pa1, ps1, ca1, cs1, rfl, ha1, hs1⟩, hx1, hy1⟩ := hv
  have HF := Lib.hid (show FeV w (.agg #[(.int .i64 (f.id)), (.int .i64 (f.ki)), (.int .i64 (f.x)), (.int .i64 (f.y)), (.int .i64 (f.ra)), .slice pa1 f.ar.length ca1, (.int .i64 (f.de)), (.int .i64 (f.sy)), .slice ps1 f.se.length cs1]) f from ⟨⟨_, _, _, _, rfl, ha1, hs1⟩, hx1, hy1⟩)
  clear ha1 hs1
  obtain ⟨⟨pa2, ps2, ca2, cs2, rfl, ha2, hs2⟩, hx2, hy2⟩ := hu
  have HG := Lib.hid (show FeV w (.agg #[(.int .i64 (g.id)), (.int .i64 (g.ki)), (.int .i64 (g.x)), (.int .i64 (g.y)), (.int .i64 (g.ra)), .slice pa2 g.ar.length ca2, (.int .i64 (g.de)), (.int .i64 (g.sy)), .slice ps2 g.se.length cs2]) g from ⟨⟨_, _, _, _, rfl, ha2, hs2⟩, hx2, hy2⟩)
  clear ha2 hs2
  have CV1 : ∀ W, FeV W (.agg #[(.int .i64 (f.id)), (.int .i64 (f.ki)), (.int .i64 (f.x)), (.int .i64 (f.y)), (.int .i64 (f.ra)), .slice pa1 f.ar.length ca1, (.int .i64 (f.de)), (.int .i64 (f.sy)), .slice ps1 f.se.length cs1]) f → Calls Tryz.prog 12 #[.agg #[(.int .i64 (f.id)), (.int .i64 (f.ki)), (.int .i64 (f.x)), (.int .i64 (f.y)), (.int .i64 (f.ra)), .slice pa1 f.ar.length ca1, (.int .i64 (f.de)), (.int .i64 (f.sy)), .slice ps1 f.se.length cs1]] W (Ret W (.bool false)) := fun W k1 => by have h := Valid_c _ _ W k1; rw [h1] at h; exact h
  clear hx1 hy1 hx2 hy2 h1
  go_enter Tryz.func9, Tryz.ntmps9
  go_wp2_with fail
  refine Calls.mono (head_c _) ?_
  rintro e w1 ⟨rfl, hb⟩
  have kf0 : w1.cell? ⟨w.heap.size, 0, none⟩ = some (.int .i64 (f.id)) := cell_later hb (by go_simp)
  have kf1 : w1.cell? ⟨w.heap.size, 1, none⟩ = some (.int .i64 (f.ki)) := cell_later hb (by go_simp)
  have kf2 : w1.cell? ⟨w.heap.size, 2, none⟩ = some (.int .i64 (f.x)) := cell_later hb (by go_simp)
  have kf3 : w1.cell? ⟨w.heap.size, 3, none⟩ = some (.int .i64 (f.y)) := cell_later hb (by go_simp)
  have kf4 : w1.cell? ⟨w.heap.size, 4, none⟩ = some (.int .i64 (f.ra)) := cell_later hb (by go_simp)
  have kf5 : w1.cell? ⟨w.heap.size, 5, none⟩ = some (.slice pa1 f.ar.length ca1) := cell_later hb (by go_simp)
  have kf6 : w1.cell? ⟨w.heap.size, 6, none⟩ = some (.int .i64 (f.de)) := cell_later hb (by go_simp)
  have kf7 : w1.cell? ⟨w.heap.size, 7, none⟩ = some (.int .i64 (f.sy)) := cell_later hb (by go_simp)
  have kf8 : w1.cell? ⟨w.heap.size, 8, none⟩ = some (.slice ps1 f.se.length cs1) := cell_later hb (by go_simp)
  have kg0 : w1.cell? ⟨w.heap.size + 1, 0, none⟩ = some (.int .i64 (g.id)) := cell_later hb (by go_simp)
  have kg1 : w1.cell? ⟨w.heap.size + 1, 1, none⟩ = some (.int .i64 (g.ki)) := cell_later hb (by go_simp)
  have kg2 : w1.cell? ⟨w.heap.size + 1, 2, none⟩ = some (.int .i64 (g.x)) := cell_later hb (by go_simp)
  have kg3 : w1.cell? ⟨w.heap.size + 1, 3, none⟩ = some (.int .i64 (g.y)) := cell_later hb (by go_simp)
  have kg4 : w1.cell? ⟨w.heap.size + 1, 4, none⟩ = some (.int .i64 (g.ra)) := cell_later hb (by go_simp)
  have kg5 : w1.cell? ⟨w.heap.size + 1, 5, none⟩ = some (.slice pa2 g.ar.length ca2) := cell_later hb (by go_simp)
  have kg6 : w1.cell? ⟨w.heap.size + 1, 6, none⟩ = some (.int .i64 (g.de)) := cell_later hb (by go_simp)
  have kg7 : w1.cell? ⟨w.heap.size + 1, 7, none⟩ = some (.int .i64 (g.sy)) := cell_later hb (by go_simp)
  have kg8 : w1.cell? ⟨w.heap.size + 1, 8, none⟩ = some (.slice ps2 g.se.length cs2) := cell_later hb (by go_simp)
  have kp0 : w1.cell? ⟨w.heap.size + 1 + 1, 0, none⟩ = some (.int .i64 p1) := cell_later hb (by go_simp)
  have kp1 : w1.cell? ⟨w.heap.size + 1 + 1, 1, none⟩ = some (.int .i64 p2) := cell_later hb (by go_simp)
  have kv0 : w1.cell? ⟨w.heap.size + 1 + 1 + 1, 0, none⟩ = some (.int .i64 v1) := cell_later hb (by go_simp)
  have kv1 : w1.cell? ⟨w.heap.size + 1 + 1 + 1, 1, none⟩ = some (.int .i64 v2) := cell_later hb (by go_simp)
  have zf : w.heap.size < w1.heap.size := World.block_lt_of_cell? _ _ kf0
  have zg : w.heap.size + 1 < w1.heap.size := World.block_lt_of_cell? _ _ kg0
  have zp : w.heap.size + 1 + 1 < w1.heap.size := World.block_lt_of_cell? _ _ kp0
  have zv : w.heap.size + 1 + 1 + 1 < w1.heap.size := World.block_lt_of_cell? _ _ kv0
  have hb0 : Below w.heap.size w w1 := bstep (balloc (balloc (balloc (balloc (Below.refl _ _) _) _) _) _) hb
  clear hb
  go_wp2_with fail
  refine Calls.mono (CV1 _ (HF.out.below hb0)) ?_
  rintro e w2 ⟨rfl, hb⟩
  replace kf0 := cell_later hb kf0
  replace kf1 := cell_later hb kf1
  replace kf2 := cell_later hb kf2
  replace kf3 := cell_later hb kf3
  replace kf4 := cell_later hb kf4
  replace kf5 := cell_later hb kf5
  replace kf6 := cell_later hb kf6
  replace kf7 := cell_later hb kf7
  replace kf8 := cell_later hb kf8
  replace kg0 := cell_later hb kg0
  replace kg1 := cell_later hb kg1
  replace kg2 := cell_later hb kg2
  replace kg3 := cell_later hb kg3
  replace kg4 := cell_later hb kg4
  replace kg5 := cell_later hb kg5
  replace kg6 := cell_later hb kg6
  replace kg7 := cell_later hb kg7
  replace kg8 := cell_later hb kg8
  replace kp0 := cell_later hb kp0
  replace kp1 := cell_later hb kp1
  replace kv0 := cell_later hb kv0
  replace kv1 := cell_later hb kv1
  replace zf : w.heap.size < w2.heap.size := World.block_lt_of_cell? _ _ kf0
  replace zg : w.heap.size + 1 < w2.heap.size := World.block_lt_of_cell? _ _ kg0
  replace zp : w.heap.size + 1 + 1 < w2.heap.size := World.block_lt_of_cell? _ _ kp0
  replace zv : w.heap.size + 1 + 1 + 1 < w2.heap.size := World.block_lt_of_cell? _ _ kv0
  replace hb0 : Below w.heap.size w w2 := bstep hb0 hb
  clear hb
  go_wp2
  go_ret
  exact ⟨rfl, (by repeat (first | with_reducible exact Below.refl _ _ | with_reducible assumption | with_reducible refine Below.setCell ?_ (by first | omega | (simp <;> omega)) _ | with_reducible refine balloc ?_ _ | with_reducible refine Below.drew ?_ | with_reducible refine bstep ?_ (by with_reducible assumption)))⟩

set_option maxRecDepth 100000 in
set_option maxHeartbeats 12800000 in
theorem moved_2 (v u : Value) (f g : Fe) (p1 p2 v1 v2 : Int) (w : World) (hv : FeV w v f) (hu : FeV w u g) (h1 : vaF f = true) (h2 : vaF g = false) : Calls Tryz.prog 9 #[v, u, (.agg #[.int .i64 p1, .int .i64 p2]), (.agg #[.int .i64 v1, .int .i64 v2])] w (Ret w (.bool true)) := by
  obtain ⟨⟨pa1, ps1, ca1, cs1, rfl, ha1, hs1⟩, hx1, hy1⟩ := hv
  have HF := Lib.hid (show FeV w (.agg #[(.int .i64 (f.id)), (.int .i64 (f.ki)), (.int .i64 (f.x)), (.int .i64 (f.y)), (.int .i64 (f.ra)), .slice pa1 f.ar.length ca1, (.int .i64 (f.de)), (.int .i64 (f.sy)), .slice ps1 f.se.length cs1]) f from ⟨⟨_, _, _, _, rfl, ha1, hs1⟩, hx1, hy1⟩)
  clear ha1 hs1
  obtain ⟨⟨pa2, ps2, ca2, cs2, rfl, ha2, hs2⟩, hx2, hy2⟩ := hu
  have HG := Lib.hid (show FeV w (.agg #[(.int .i64 (g.id)), (.int .i64 (g.ki)), (.int .i64 (g.x)), (.int .i64 (g.y)), (.int .i64 (g.ra)), .slice pa2 g.ar.length ca2, (.int .i64 (g.de)), (.int .i64 (g.sy)), .slice ps2 g.se.length cs2]) g from ⟨⟨_, _, _, _, rfl, ha2, hs2⟩, hx2, hy2⟩)
  clear ha2 hs2
  have CV1 : ∀ W, FeV W (.agg #[(.int .i64 (f.id)), (.int .i64 (f.ki)), (.int .i64 (f.x)), (.int .i64 (f.y)), (.int .i64 (f.ra)), .slice pa1 f.ar.length ca1, (.int .i64 (f.de)), (.int .i64 (f.sy)), .slice ps1 f.se.length cs1]) f → Calls Tryz.prog 12 #[.agg #[(.int .i64 (f.id)), (.int .i64 (f.ki)), (.int .i64 (f.x)), (.int .i64 (f.y)), (.int .i64 (f.ra)), .slice pa1 f.ar.length ca1, (.int .i64 (f.de)), (.int .i64 (f.sy)), .slice ps1 f.se.length cs1]] W (Ret W (.bool true)) := fun W k1 => by have h := Valid_c _ _ W k1; rw [h1] at h; exact h
  have CV2 : ∀ W, FeV W (.agg #[(.int .i64 (g.id)), (.int .i64 (g.ki)), (.int .i64 (g.x)), (.int .i64 (g.y)), (.int .i64 (g.ra)), .slice pa2 g.ar.length ca2, (.int .i64 (g.de)), (.int .i64 (g.sy)), .slice ps2 g.se.length cs2]) g → Calls Tryz.prog 12 #[.agg #[(.int .i64 (g.id)), (.int .i64 (g.ki)), (.int .i64 (g.x)), (.int .i64 (g.y)), (.int .i64 (g.ra)), .slice pa2 g.ar.length ca2, (.int .i64 (g.de)), (.int .i64 (g.sy)), .slice ps2 g.se.length cs2]] W (Ret W (.bool false)) := fun W k1 => by have h := Valid_c _ _ W k1; rw [h2] at h; exact h
  clear hx1 hy1 hx2 hy2 h1 h2
  go_enter Tryz.func9, Tryz.ntmps9
  go_wp2_with fail
  refine Calls.mono (head_c _) ?_
  rintro e w1 ⟨rfl, hb⟩
  have kf0 : w1.cell? ⟨w.heap.size, 0, none⟩ = some (.int .i64 (f.id)) := cell_later hb (by go_simp)
  have kf1 : w1.cell? ⟨w.heap.size, 1, none⟩ = some (.int .i64 (f.ki)) := cell_later hb (by go_simp)
  have kf2 : w1.cell? ⟨w.heap.size, 2, none⟩ = some (.int .i64 (f.x)) := cell_later hb (by go_simp)
  have kf3 : w1.cell? ⟨w.heap.size, 3, none⟩ = some (.int .i64 (f.y)) := cell_later hb (by go_simp)
  have kf4 : w1.cell? ⟨w.heap.size, 4, none⟩ = some (.int .i64 (f.ra)) := cell_later hb (by go_simp)
  have kf5 : w1.cell? ⟨w.heap.size, 5, none⟩ = some (.slice pa1 f.ar.length ca1) := cell_later hb (by go_simp)
  have kf6 : w1.cell? ⟨w.heap.size, 6, none⟩ = some (.int .i64 (f.de)) := cell_later hb (by go_simp)
  have kf7 : w1.cell? ⟨w.heap.size, 7, none⟩ = some (.int .i64 (f.sy)) := cell_later hb (by go_simp)
  have kf8 : w1.cell? ⟨w.heap.size, 8, none⟩ = some (.slice ps1 f.se.length cs1) := cell_later hb (by go_simp)
  have kg0 : w1.cell? ⟨w.heap.size + 1, 0, none⟩ = some (.int .i64 (g.id)) := cell_later hb (by go_simp)
  have kg1 : w1.cell? ⟨w.heap.size + 1, 1, none⟩ = some (.int .i64 (g.ki)) := cell_later hb (by go_simp)
  have kg2 : w1.cell? ⟨w.heap.size + 1, 2, none⟩ = some (.int .i64 (g.x)) := cell_later hb (by go_simp)
  have kg3 : w1.cell? ⟨w.heap.size + 1, 3, none⟩ = some (.int .i64 (g.y)) := cell_later hb (by go_simp)
  have kg4 : w1.cell? ⟨w.heap.size + 1, 4, none⟩ = some (.int .i64 (g.ra)) := cell_later hb (by go_simp)
  have kg5 : w1.cell? ⟨w.heap.size + 1, 5, none⟩ = some (.slice pa2 g.ar.length ca2) := cell_later hb (by go_simp)
  have kg6 : w1.cell? ⟨w.heap.size + 1, 6, none⟩ = some (.int .i64 (g.de)) := cell_later hb (by go_simp)
  have kg7 : w1.cell? ⟨w.heap.size + 1, 7, none⟩ = some (.int .i64 (g.sy)) := cell_later hb (by go_simp)
  have kg8 : w1.cell? ⟨w.heap.size + 1, 8, none⟩ = some (.slice ps2 g.se.length cs2) := cell_later hb (by go_simp)
  have kp0 : w1.cell? ⟨w.heap.size + 1 + 1, 0, none⟩ = some (.int .i64 p1) := cell_later hb (by go_simp)
  have kp1 : w1.cell? ⟨w.heap.size + 1 + 1, 1, none⟩ = some (.int .i64 p2) := cell_later hb (by go_simp)
  have kv0 : w1.cell? ⟨w.heap.size + 1 + 1 + 1, 0, none⟩ = some (.int .i64 v1) := cell_later hb (by go_simp)
  have kv1 : w1.cell? ⟨w.heap.size + 1 + 1 + 1, 1, none⟩ = some (.int .i64 v2) := cell_later hb (by go_simp)
  have zf : w.heap.size < w1.heap.size := World.block_lt_of_cell? _ _ kf0
  have zg : w.heap.size + 1 < w1.heap.size := World.block_lt_of_cell? _ _ kg0
  have zp : w.heap.size + 1 + 1 < w1.heap.size := World.block_lt_of_cell? _ _ kp0
  have zv : w.heap.size + 1 + 1 + 1 < w1.heap.size := World.block_lt_of_cell? _ _ kv0
  have hb0 : Below w.heap.size w w1 := bstep (balloc (balloc (balloc (balloc (Below.refl _ _) _) _) _) _) hb
  clear hb
  go_wp2_with fail
  refine Calls.mono (CV1 _ (HF.out.below hb0)) ?_
  rintro e w2 ⟨rfl, hb⟩
  replace kf0 := cell_later hb kf0
  replace kf1 := cell_later hb kf1
  replace kf2 := cell_later hb kf2
  replace kf3 := cell_later hb kf3
  replace kf4 := cell_later hb kf4
  replace kf5 := cell_later hb kf5
  replace kf6 := cell_later hb kf6
  replace kf7 := cell_later hb kf7
  replace kf8 := cell_later hb kf8
  replace kg0 := cell_later hb kg0
  replace kg1 := cell_later hb kg1
  replace kg2 := cell_later hb kg2
  replace kg3 := cell_later hb kg3
  replace kg4 := cell_later hb kg4
  replace kg5 := cell_later hb kg5
  replace kg6 := cell_later hb kg6
  replace kg7 := cell_later hb kg7
  replace kg8 := cell_later hb kg8
  replace kp0 := cell_later hb kp0
  replace kp1 := cell_later hb kp1
  replace kv0 := cell_later hb kv0
  replace kv1 := cell_later hb kv1
  replace zf : w.heap.size < w2.heap.size := World.block_lt_of_cell? _ _ kf0
  replace zg : w.heap.size + 1 < w2.heap.size := World.block_lt_of_cell? _ _ kg0
  replace zp : w.heap.size + 1 + 1 < w2.heap.size := World.block_lt_of_cell? _ _ kp0
  replace zv : w.heap.size + 1 + 1 + 1 < w2.heap.size := World.block_lt_of_cell? _ _ kv0
  replace hb0 : Below w.heap.size w w2 := bstep hb0 hb
  clear hb
  go_wp2_with fail
  refine Calls.mono (CV2 _ (HG.out.below hb0)) ?_
  rintro e w3 ⟨rfl, hb⟩
  replace kf0 := cell_later hb kf0
  replace kf1 := cell_later hb kf1
  replace kf2 := cell_later hb kf2
  replace kf3 := cell_later hb kf3
  replace kf4 := cell_later hb kf4
  replace kf5 := cell_later hb kf5
  replace kf6 := cell_later hb kf6
  replace kf7 := cell_later hb kf7
  replace kf8 := cell_later hb kf8
  replace kg0 := cell_later hb kg0
  replace kg1 := cell_later hb kg1
  replace kg2 := cell_later hb kg2
  replace kg3 := cell_later hb kg3
  replace kg4 := cell_later hb kg4
  replace kg5 := cell_later hb kg5
  replace kg6 := cell_later hb kg6
  replace kg7 := cell_later hb kg7
  replace kg8 := cell_later hb kg8
  replace kp0 := cell_later hb kp0
  replace kp1 := cell_later hb kp1
  replace kv0 := cell_later hb kv0
  replace kv1 := cell_later hb kv1
  replace zf : w.heap.size < w3.heap.size := World.block_lt_of_cell? _ _ kf0
  replace zg : w.heap.size + 1 < w3.heap.size := World.block_lt_of_cell? _ _ kg0
  replace zp : w.heap.size + 1 + 1 < w3.heap.size := World.block_lt_of_cell? _ _ kp0
  replace zv : w.heap.size + 1 + 1 + 1 < w3.heap.size := World.block_lt_of_cell? _ _ kv0
  replace hb0 : Below w.heap.size w w3 := bstep hb0 hb
  clear hb
  go_wp2
  go_ret
  exact ⟨rfl, (by repeat (first | with_reducible exact Below.refl _ _ | with_reducible assumption | with_reducible refine Below.setCell ?_ (by first | omega | (simp <;> omega)) _ | with_reducible refine balloc ?_ _ | with_reducible refine Below.drew ?_ | with_reducible refine bstep ?_ (by with_reducible assumption)))⟩

set_option maxRecDepth 100000 in
set_option maxHeartbeats 12800000 in
theorem moved_3 (v u : Value) (f g : Fe) (p1 p2 v1 v2 : Int) (w : World) (hv : FeV w v f) (hu : FeV w u g) (h1 : vaF f = true) (h2 : vaF g = true) (h3 : okB p1 p2 = false) : Calls Tryz.prog 9 #[v, u, (.agg #[.int .i64 p1, .int .i64 p2]), (.agg #[.int .i64 v1, .int .i64 v2])] w (Ret w (.bool true)) := by
  obtain ⟨⟨pa1, ps1, ca1, cs1, rfl, ha1, hs1⟩, hx1, hy1⟩ := hv
  have HF := Lib.hid (show FeV w (.agg #[(.int .i64 (f.id)), (.int .i64 (f.ki)), (.int .i64 (f.x)), (.int .i64 (f.y)), (.int .i64 (f.ra)), .slice pa1 f.ar.length ca1, (.int .i64 (f.de)), (.int .i64 (f.sy)), .slice ps1 f.se.length cs1]) f from ⟨⟨_, _, _, _, rfl, ha1, hs1⟩, hx1, hy1⟩)
  clear ha1 hs1
  obtain ⟨⟨pa2, ps2, ca2, cs2, rfl, ha2, hs2⟩, hx2, hy2⟩ := hu
  have HG := Lib.hid (show FeV w (.agg #[(.int .i64 (g.id)), (.int .i64 (g.ki)), (.int .i64 (g.x)), (.int .i64 (g.y)), (.int .i64 (g.ra)), .slice pa2 g.ar.length ca2, (.int .i64 (g.de)), (.int .i64 (g.sy)), .slice ps2 g.se.length cs2]) g from ⟨⟨_, _, _, _, rfl, ha2, hs2⟩, hx2, hy2⟩)
  clear ha2 hs2
  have CV1 : ∀ W, FeV W (.agg #[(.int .i64 (f.id)), (.int .i64 (f.ki)), (.int .i64 (f.x)), (.int .i64 (f.y)), (.int .i64 (f.ra)), .slice pa1 f.ar.length ca1, (.int .i64 (f.de)), (.int .i64 (f.sy)), .slice ps1 f.se.length cs1]) f → Calls Tryz.prog 12 #[.agg #[(.int .i64 (f.id)), (.int .i64 (f.ki)), (.int .i64 (f.x)), (.int .i64 (f.y)), (.int .i64 (f.ra)), .slice pa1 f.ar.length ca1, (.int .i64 (f.de)), (.int .i64 (f.sy)), .slice ps1 f.se.length cs1]] W (Ret W (.bool true)) := fun W k1 => by have h := Valid_c _ _ W k1; rw [h1] at h; exact h
  have CV2 : ∀ W, FeV W (.agg #[(.int .i64 (g.id)), (.int .i64 (g.ki)), (.int .i64 (g.x)), (.int .i64 (g.y)), (.int .i64 (g.ra)), .slice pa2 g.ar.length ca2, (.int .i64 (g.de)), (.int .i64 (g.sy)), .slice ps2 g.se.length cs2]) g → Calls Tryz.prog 12 #[.agg #[(.int .i64 (g.id)), (.int .i64 (g.ki)), (.int .i64 (g.x)), (.int .i64 (g.y)), (.int .i64 (g.ra)), .slice pa2 g.ar.length ca2, (.int .i64 (g.de)), (.int .i64 (g.sy)), .slice ps2 g.se.length cs2]] W (Ret W (.bool true)) := fun W k1 => by have h := Valid_c _ _ W k1; rw [h2] at h; exact h
  have CP : ∀ W, Calls Tryz.prog 30 #[(.agg #[.int .i64 p1, .int .i64 p2])] W (Ret W (.bool false)) := fun W => by have h := rvalid_c p1 p2 W; rw [h3] at h; exact h
  clear hx1 hy1 hx2 hy2 h1 h2 h3
  go_enter Tryz.func9, Tryz.ntmps9
  go_wp2_with fail
  refine Calls.mono (head_c _) ?_
  rintro e w1 ⟨rfl, hb⟩
  have kf0 : w1.cell? ⟨w.heap.size, 0, none⟩ = some (.int .i64 (f.id)) := cell_later hb (by go_simp)
  have kf1 : w1.cell? ⟨w.heap.size, 1, none⟩ = some (.int .i64 (f.ki)) := cell_later hb (by go_simp)
  have kf2 : w1.cell? ⟨w.heap.size, 2, none⟩ = some (.int .i64 (f.x)) := cell_later hb (by go_simp)
  have kf3 : w1.cell? ⟨w.heap.size, 3, none⟩ = some (.int .i64 (f.y)) := cell_later hb (by go_simp)
  have kf4 : w1.cell? ⟨w.heap.size, 4, none⟩ = some (.int .i64 (f.ra)) := cell_later hb (by go_simp)
  have kf5 : w1.cell? ⟨w.heap.size, 5, none⟩ = some (.slice pa1 f.ar.length ca1) := cell_later hb (by go_simp)
  have kf6 : w1.cell? ⟨w.heap.size, 6, none⟩ = some (.int .i64 (f.de)) := cell_later hb (by go_simp)
  have kf7 : w1.cell? ⟨w.heap.size, 7, none⟩ = some (.int .i64 (f.sy)) := cell_later hb (by go_simp)
  have kf8 : w1.cell? ⟨w.heap.size, 8, none⟩ = some (.slice ps1 f.se.length cs1) := cell_later hb (by go_simp)
  have kg0 : w1.cell? ⟨w.heap.size + 1, 0, none⟩ = some (.int .i64 (g.id)) := cell_later hb (by go_simp)
  have kg1 : w1.cell? ⟨w.heap.size + 1, 1, none⟩ = some (.int .i64 (g.ki)) := cell_later hb (by go_simp)
  have kg2 : w1.cell? ⟨w.heap.size + 1, 2, none⟩ = some (.int .i64 (g.x)) := cell_later hb (by go_simp)
  have kg3 : w1.cell? ⟨w.heap.size + 1, 3, none⟩ = some (.int .i64 (g.y)) := cell_later hb (by go_simp)
  have kg4 : w1.cell? ⟨w.heap.size + 1, 4, none⟩ = some (.int .i64 (g.ra)) := cell_later hb (by go_simp)
  have kg5 : w1.cell? ⟨w.heap.size + 1, 5, none⟩ = some (.slice pa2 g.ar.length ca2) := cell_later hb (by go_simp)
  have kg6 : w1.cell? ⟨w.heap.size + 1, 6, none⟩ = some (.int .i64 (g.de)) := cell_later hb (by go_simp)
  have kg7 : w1.cell? ⟨w.heap.size + 1, 7, none⟩ = some (.int .i64 (g.sy)) := cell_later hb (by go_simp)
  have kg8 : w1.cell? ⟨w.heap.size + 1, 8, none⟩ = some (.slice ps2 g.se.length cs2) := cell_later hb (by go_simp)
  have kp0 : w1.cell? ⟨w.heap.size + 1 + 1, 0, none⟩ = some (.int .i64 p1) := cell_later hb (by go_simp)
  have kp1 : w1.cell? ⟨w.heap.size + 1 + 1, 1, none⟩ = some (.int .i64 p2) := cell_later hb (by go_simp)
  have kv0 : w1.cell? ⟨w.heap.size + 1 + 1 + 1, 0, none⟩ = some (.int .i64 v1) := cell_later hb (by go_simp)
  have kv1 : w1.cell? ⟨w.heap.size + 1 + 1 + 1, 1, none⟩ = some (.int .i64 v2) := cell_later hb (by go_simp)
  have zf : w.heap.size < w1.heap.size := World.block_lt_of_cell? _ _ kf0
  have zg : w.heap.size + 1 < w1.heap.size := World.block_lt_of_cell? _ _ kg0
  have zp : w.heap.size + 1 + 1 < w1.heap.size := World.block_lt_of_cell? _ _ kp0
  have zv : w.heap.size + 1 + 1 + 1 < w1.heap.size := World.block_lt_of_cell? _ _ kv0
  have hb0 : Below w.heap.size w w1 := bstep (balloc (balloc (balloc (balloc (Below.refl _ _) _) _) _) _) hb
  clear hb
  go_wp2_with fail
  refine Calls.mono (CV1 _ (HF.out.below hb0)) ?_
  rintro e w2 ⟨rfl, hb⟩
  replace kf0 := cell_later hb kf0
  replace kf1 := cell_later hb kf1
  replace kf2 := cell_later hb kf2
  replace kf3 := cell_later hb kf3
  replace kf4 := cell_later hb kf4
  replace kf5 := cell_later hb kf5
  replace kf6 := cell_later hb kf6
  replace kf7 := cell_later hb kf7
  replace kf8 := cell_later hb kf8
  replace kg0 := cell_later hb kg0
  replace kg1 := cell_later hb kg1
  replace kg2 := cell_later hb kg2
  replace kg3 := cell_later hb kg3
  replace kg4 := cell_later hb kg4
  replace kg5 := cell_later hb kg5
  replace kg6 := cell_later hb kg6
  replace kg7 := cell_later hb kg7
  replace kg8 := cell_later hb kg8
  replace kp0 := cell_later hb kp0
  replace kp1 := cell_later hb kp1
  replace kv0 := cell_later hb kv0
  replace kv1 := cell_later hb kv1
  replace zf : w.heap.size < w2.heap.size := World.block_lt_of_cell? _ _ kf0
  replace zg : w.heap.size + 1 < w2.heap.size := World.block_lt_of_cell? _ _ kg0
  replace zp : w.heap.size + 1 + 1 < w2.heap.size := World.block_lt_of_cell? _ _ kp0
  replace zv : w.heap.size + 1 + 1 + 1 < w2.heap.size := World.block_lt_of_cell? _ _ kv0
  replace hb0 : Below w.heap.size w w2 := bstep hb0 hb
  clear hb
  go_wp2_with fail
  refine Calls.mono (CV2 _ (HG.out.below hb0)) ?_
  rintro e w3 ⟨rfl, hb⟩
  replace kf0 := cell_later hb kf0
  replace kf1 := cell_later hb kf1
  replace kf2 := cell_later hb kf2
  replace kf3 := cell_later hb kf3
  replace kf4 := cell_later hb kf4
  replace kf5 := cell_later hb kf5
  replace kf6 := cell_later hb kf6
  replace kf7 := cell_later hb kf7
  replace kf8 := cell_later hb kf8
  replace kg0 := cell_later hb kg0
  replace kg1 := cell_later hb kg1
  replace kg2 := cell_later hb kg2
  replace kg3 := cell_later hb kg3
  replace kg4 := cell_later hb kg4
  replace kg5 := cell_later hb kg5
  replace kg6 := cell_later hb kg6
  replace kg7 := cell_later hb kg7
  replace kg8 := cell_later hb kg8
  replace kp0 := cell_later hb kp0
  replace kp1 := cell_later hb kp1
  replace kv0 := cell_later hb kv0
  replace kv1 := cell_later hb kv1
  replace zf : w.heap.size < w3.heap.size := World.block_lt_of_cell? _ _ kf0
  replace zg : w.heap.size + 1 < w3.heap.size := World.block_lt_of_cell? _ _ kg0
  replace zp : w.heap.size + 1 + 1 < w3.heap.size := World.block_lt_of_cell? _ _ kp0
  replace zv : w.heap.size + 1 + 1 + 1 < w3.heap.size := World.block_lt_of_cell? _ _ kv0
  replace hb0 : Below w.heap.size w w3 := bstep hb0 hb
  clear hb
  go_wp2_with fail
  refine Calls.mono (CP _) ?_
  rintro e w4 ⟨rfl, hb⟩
  replace kf0 := cell_later hb kf0
  replace kf1 := cell_later hb kf1
  replace kf2 := cell_later hb kf2
  replace kf3 := cell_later hb kf3
  replace kf4 := cell_later hb kf4
  replace kf5 := cell_later hb kf5
  replace kf6 := cell_later hb kf6
  replace kf7 := cell_later hb kf7
  replace kf8 := cell_later hb kf8
  replace kg0 := cell_later hb kg0
  replace kg1 := cell_later hb kg1
  replace kg2 := cell_later hb kg2
  replace kg3 := cell_later hb kg3
  replace kg4 := cell_later hb kg4
  replace kg5 := cell_later hb kg5
  replace kg6 := cell_later hb kg6
  replace kg7 := cell_later hb kg7
  replace kg8 := cell_later hb kg8
  replace kp0 := cell_later hb kp0
  replace kp1 := cell_later hb kp1
  replace kv0 := cell_later hb kv0
  replace kv1 := cell_later hb kv1
  replace zf : w.heap.size < w4.heap.size := World.block_lt_of_cell? _ _ kf0
  replace zg : w.heap.size + 1 < w4.heap.size := World.block_lt_of_cell? _ _ kg0
  replace zp : w.heap.size + 1 + 1 < w4.heap.size := World.block_lt_of_cell? _ _ kp0
  replace zv : w.heap.size + 1 + 1 + 1 < w4.heap.size := World.block_lt_of_cell? _ _ kv0
  replace hb0 : Below w.heap.size w w4 := bstep hb0 hb
  clear hb
  go_wp2
  go_ret
  exact ⟨rfl, (by repeat (first | with_reducible exact Below.refl _ _ | with_reducible assumption | with_reducible refine Below.setCell ?_ (by first | omega | (simp <;> omega)) _ | with_reducible refine balloc ?_ _ | with_reducible refine Below.drew ?_ | with_reducible refine bstep ?_ (by with_reducible assumption)))⟩

set_option maxRecDepth 100000 in
set_option maxHeartbeats 12800000 in
theorem moved_4 (v u : Value) (f g : Fe) (p1 p2 v1 v2 : Int) (w : World) (hv : FeV w v f) (hu : FeV w u g) (h1 : vaF f = true) (h2 : vaF g = true) (h3 : okB p1 p2 = true) (h4 : okB v1 v2 = false) : Calls Tryz.prog 9 #[v, u, (.agg #[.int .i64 p1, .int .i64 p2]), (.agg #[.int .i64 v1, .int .i64 v2])] w (Ret w (.bool true)) := by
  obtain ⟨⟨pa1, ps1, ca1, cs1, rfl, ha1, hs1⟩, hx1, hy1⟩ := hv
  have HF := Lib.hid (show FeV w (.agg #[(.int .i64 (f.id)), (.int .i64 (f.ki)), (.int .i64 (f.x)), (.int .i64 (f.y)), (.int .i64 (f.ra)), .slice pa1 f.ar.length ca1, (.int .i64 (f.de)), (.int .i64 (f.sy)), .slice ps1 f.se.length cs1]) f from ⟨⟨_, _, _, _, rfl, ha1, hs1⟩, hx1, hy1⟩)
  clear ha1 hs1
  obtain ⟨⟨pa2, ps2, ca2, cs2, rfl, ha2, hs2⟩, hx2, hy2⟩ := hu
  have HG := Lib.hid (show FeV w (.agg #[(.int .i64 (g.id)), (.int .i64 (g.ki)), (.int .i64 (g.x)), (.int .i64 (g.y)), (.int .i64 (g.ra)), .slice pa2 g.ar.length ca2, (.int .i64 (g.de)), (.int .i64 (g.sy)), .slice ps2 g.se.length cs2]) g from ⟨⟨_, _, _, _, rfl, ha2, hs2⟩, hx2, hy2⟩)
  clear ha2 hs2
  have CV1 : ∀ W, FeV W (.agg #[(.int .i64 (f.id)), (.int .i64 (f.ki)), (.int .i64 (f.x)), (.int .i64 (f.y)), (.int .i64 (f.ra)), .slice pa1 f.ar.length ca1, (.int .i64 (f.de)), (.int .i64 (f.sy)), .slice ps1 f.se.length cs1]) f → Calls Tryz.prog 12 #[.agg #[(.int .i64 (f.id)), (.int .i64 (f.ki)), (.int .i64 (f.x)), (.int .i64 (f.y)), (.int .i64 (f.ra)), .slice pa1 f.ar.length ca1, (.int .i64 (f.de)), (.int .i64 (f.sy)), .slice ps1 f.se.length cs1]] W (Ret W (.bool true)) := fun W k1 => by have h := Valid_c _ _ W k1; rw [h1] at h; exact h
  have CV2 : ∀ W, FeV W (.agg #[(.int .i64 (g.id)), (.int .i64 (g.ki)), (.int .i64 (g.x)), (.int .i64 (g.y)), (.int .i64 (g.ra)), .slice pa2 g.ar.length ca2, (.int .i64 (g.de)), (.int .i64 (g.sy)), .slice ps2 g.se.length cs2]) g → Calls Tryz.prog 12 #[.agg #[(.int .i64 (g.id)), (.int .i64 (g.ki)), (.int .i64 (g.x)), (.int .i64 (g.y)), (.int .i64 (g.ra)), .slice pa2 g.ar.length ca2, (.int .i64 (g.de)), (.int .i64 (g.sy)), .slice ps2 g.se.length cs2]] W (Ret W (.bool true)) := fun W k1 => by have h := Valid_c _ _ W k1; rw [h2] at h; exact h
  have CP : ∀ W, Calls Tryz.prog 30 #[(.agg #[.int .i64 p1, .int .i64 p2])] W (Ret W (.bool true)) := fun W => by have h := rvalid_c p1 p2 W; rw [h3] at h; exact h
  have CQ : ∀ W, Calls Tryz.prog 30 #[(.agg #[.int .i64 v1, .int .i64 v2])] W (Ret W (.bool false)) := fun W => by have h := rvalid_c v1 v2 W; rw [h4] at h; exact h
  clear hx1 hy1 hx2 hy2 h1 h2 h3 h4
  go_enter Tryz.func9, Tryz.ntmps9
  go_wp2_with fail
  refine Calls.mono (head_c _) ?_
  rintro e w1 ⟨rfl, hb⟩
  have kf0 : w1.cell? ⟨w.heap.size, 0, none⟩ = some (.int .i64 (f.id)) := cell_later hb (by go_simp)
  have kf1 : w1.cell? ⟨w.heap.size, 1, none⟩ = some (.int .i64 (f.ki)) := cell_later hb (by go_simp)
  have kf2 : w1.cell? ⟨w.heap.size, 2, none⟩ = some (.int .i64 (f.x)) := cell_later hb (by go_simp)
  have kf3 : w1.cell? ⟨w.heap.size, 3, none⟩ = some (.int .i64 (f.y)) := cell_later hb (by go_simp)
  have kf4 : w1.cell? ⟨w.heap.size, 4, none⟩ = some (.int .i64 (f.ra)) := cell_later hb (by go_simp)
  have kf5 : w1.cell? ⟨w.heap.size, 5, none⟩ = some (.slice pa1 f.ar.length ca1) := cell_later hb (by go_simp)
  have kf6 : w1.cell? ⟨w.heap.size, 6, none⟩ = some (.int .i64 (f.de)) := cell_later hb (by go_simp)
  have kf7 : w1.cell? ⟨w.heap.size, 7, none⟩ = some (.int .i64 (f.sy)) := cell_later hb (by go_simp)
  have kf8 : w1.cell? ⟨w.heap.size, 8, none⟩ = some (.slice ps1 f.se.length cs1) := cell_later hb (by go_simp)
  have kg0 : w1.cell? ⟨w.heap.size + 1, 0, none⟩ = some (.int .i64 (g.id)) := cell_later hb (by go_simp)
  have kg1 : w1.cell? ⟨w.heap.size + 1, 1, none⟩ = some (.int .i64 (g.ki)) := cell_later hb (by go_simp)
  have kg2 : w1.cell? ⟨w.heap.size + 1, 2, none⟩ = some (.int .i64 (g.x)) := cell_later hb (by go_simp)
  have kg3 : w1.cell? ⟨w.heap.size + 1, 3, none⟩ = some (.int .i64 (g.y)) := cell_later hb (by go_simp)
  have kg4 : w1.cell? ⟨w.heap.size + 1, 4, none⟩ = some (.int .i64 (g.ra)) := cell_later hb (by go_simp)
  have kg5 : w1.cell? ⟨w.heap.size + 1, 5, none⟩ = some (.slice pa2 g.ar.length ca2) := cell_later hb (by go_simp)
  have kg6 : w1.cell? ⟨w.heap.size + 1, 6, none⟩ = some (.int .i64 (g.de)) := cell_later hb (by go_simp)
  have kg7 : w1.cell? ⟨w.heap.size + 1, 7, none⟩ = some (.int .i64 (g.sy)) := cell_later hb (by go_simp)
  have kg8 : w1.cell? ⟨w.heap.size + 1, 8, none⟩ = some (.slice ps2 g.se.length cs2) := cell_later hb (by go_simp)
  have kp0 : w1.cell? ⟨w.heap.size + 1 + 1, 0, none⟩ = some (.int .i64 p1) := cell_later hb (by go_simp)
  have kp1 : w1.cell? ⟨w.heap.size + 1 + 1, 1, none⟩ = some (.int .i64 p2) := cell_later hb (by go_simp)
  have kv0 : w1.cell? ⟨w.heap.size + 1 + 1 + 1, 0, none⟩ = some (.int .i64 v1) := cell_later hb (by go_simp)
  have kv1 : w1.cell? ⟨w.heap.size + 1 + 1 + 1, 1, none⟩ = some (.int .i64 v2) := cell_later hb (by go_simp)
  have zf : w.heap.size < w1.heap.size := World.block_lt_of_cell? _ _ kf0
  have zg : w.heap.size + 1 < w1.heap.size := World.block_lt_of_cell? _ _ kg0
  have zp : w.heap.size + 1 + 1 < w1.heap.size := World.block_lt_of_cell? _ _ kp0
  have zv : w.heap.size + 1 + 1 + 1 < w1.heap.size := World.block_lt_of_cell? _ _ kv0
  have hb0 : Below w.heap.size w w1 := bstep (balloc (balloc (balloc (balloc (Below.refl _ _) _) _) _) _) hb
  clear hb
  go_wp2_with fail
  refine Calls.mono (CV1 _ (HF.out.below hb0)) ?_
  rintro e w2 ⟨rfl, hb⟩
  replace kf0 := cell_later hb kf0
  replace kf1 := cell_later hb kf1
  replace kf2 := cell_later hb kf2
  replace kf3 := cell_later hb kf3
  replace kf4 := cell_later hb kf4
  replace kf5 := cell_later hb kf5
  replace kf6 := cell_later hb kf6
  replace kf7 := cell_later hb kf7
  replace kf8 := cell_later hb kf8
  replace kg0 := cell_later hb kg0
  replace kg1 := cell_later hb kg1
  replace kg2 := cell_later hb kg2
  replace kg3 := cell_later hb kg3
  replace kg4 := cell_later hb kg4
  replace kg5 := cell_later hb kg5
  replace kg6 := cell_later hb kg6
  replace kg7 := cell_later hb kg7
  replace kg8 := cell_later hb kg8
  replace kp0 := cell_later hb kp0
  replace kp1 := cell_later hb kp1
  replace kv0 := cell_later hb kv0
  replace kv1 := cell_later hb kv1
  replace zf : w.heap.size < w2.heap.size := World.block_lt_of_cell? _ _ kf0
  replace zg : w.heap.size + 1 < w2.heap.size := World.block_lt_of_cell? _ _ kg0
  replace zp : w.heap.size + 1 + 1 < w2.heap.size := World.block_lt_of_cell? _ _ kp0
  replace zv : w.heap.size + 1 + 1 + 1 < w2.heap.size := World.block_lt_of_cell? _ _ kv0
  replace hb0 : Below w.heap.size w w2 := bstep hb0 hb
  clear hb
  go_wp2_with fail
  refine Calls.mono (CV2 _ (HG.out.below hb0)) ?_
  rintro e w3 ⟨rfl, hb⟩
  replace kf0 := cell_later hb kf0
  replace kf1 := cell_later hb kf1
  replace kf2 := cell_later hb kf2
  replace kf3 := cell_later hb kf3
  replace kf4 := cell_later hb kf4
  replace kf5 := cell_later hb kf5
  replace kf6 := cell_later hb kf6
  replace kf7 := cell_later hb kf7
  replace kf8 := cell_later hb kf8
  replace kg0 := cell_later hb kg0
  replace kg1 := cell_later hb kg1
  replace kg2 := cell_later hb kg2
  replace kg3 := cell_later hb kg3
  replace kg4 := cell_later hb kg4
  replace kg5 := cell_later hb kg5
  replace kg6 := cell_later hb kg6
  replace kg7 := cell_later hb kg7
  replace kg8 := cell_later hb kg8
  replace kp0 := cell_later hb kp0
  replace kp1 := cell_later hb kp1
  replace kv0 := cell_later hb kv0
  replace kv1 := cell_later hb kv1
  replace zf : w.heap.size < w3.heap.size := World.block_lt_of_cell? _ _ kf0
  replace zg : w.heap.size + 1 < w3.heap.size := World.block_lt_of_cell? _ _ kg0
  replace zp : w.heap.size + 1 + 1 < w3.heap.size := World.block_lt_of_cell? _ _ kp0
  replace zv : w.heap.size + 1 + 1 + 1 < w3.heap.size := World.block_lt_of_cell? _ _ kv0
  replace hb0 : Below w.heap.size w w3 := bstep hb0 hb
  clear hb
  go_wp2_with fail
  refine Calls.mono (CP _) ?_
  rintro e w4 ⟨rfl, hb⟩
  replace kf0 := cell_later hb kf0
  replace kf1 := cell_later hb kf1
  replace kf2 := cell_later hb kf2
  replace kf3 := cell_later hb kf3
  replace kf4 := cell_later hb kf4
  replace kf5 := cell_later hb kf5
  replace kf6 := cell_later hb kf6
  replace kf7 := cell_later hb kf7
  replace kf8 := cell_later hb kf8
  replace kg0 := cell_later hb kg0
  replace kg1 := cell_later hb kg1
  replace kg2 := cell_later hb kg2
  replace kg3 := cell_later hb kg3
  replace kg4 := cell_later hb kg4
  replace kg5 := cell_later hb kg5
  replace kg6 := cell_later hb kg6
  replace kg7 := cell_later hb kg7
  replace kg8 := cell_later hb kg8
  replace kp0 := cell_later hb kp0
  replace kp1 := cell_later hb kp1
  replace kv0 := cell_later hb kv0
  replace kv1 := cell_later hb kv1
  replace zf : w.heap.size < w4.heap.size := World.block_lt_of_cell? _ _ kf0
  replace zg : w.heap.size + 1 < w4.heap.size := World.block_lt_of_cell? _ _ kg0
  replace zp : w.heap.size + 1 + 1 < w4.heap.size := World.block_lt_of_cell? _ _ kp0
  replace zv : w.heap.size + 1 + 1 + 1 < w4.heap.size := World.block_lt_of_cell? _ _ kv0
  replace hb0 : Below w.heap.size w w4 := bstep hb0 hb
  clear hb
  go_wp2_with fail
  refine Calls.mono (CQ _) ?_
  rintro e w5 ⟨rfl, hb⟩
  replace kf0 := cell_later hb kf0
  replace kf1 := cell_later hb kf1
  replace kf2 := cell_later hb kf2
  replace kf3 := cell_later hb kf3
  replace kf4 := cell_later hb kf4
  replace kf5 := cell_later hb kf5
  replace kf6 := cell_later hb kf6
  replace kf7 := cell_later hb kf7
  replace kf8 := cell_later hb kf8
  replace kg0 := cell_later hb kg0
  replace kg1 := cell_later hb kg1
  replace kg2 := cell_later hb kg2
  replace kg3 := cell_later hb kg3
  replace kg4 := cell_later hb kg4
  replace kg5 := cell_later hb kg5
  replace kg6 := cell_later hb kg6
  replace kg7 := cell_later hb kg7
  replace kg8 := cell_later hb kg8
  replace kp0 := cell_later hb kp0
  replace kp1 := cell_later hb kp1
  replace kv0 := cell_later hb kv0
  replace kv1 := cell_later hb kv1
  replace zf : w.heap.size < w5.heap.size := World.block_lt_of_cell? _ _ kf0
  replace zg : w.heap.size + 1 < w5.heap.size := World.block_lt_of_cell? _ _ kg0
  replace zp : w.heap.size + 1 + 1 < w5.heap.size := World.block_lt_of_cell? _ _ kp0
  replace zv : w.heap.size + 1 + 1 + 1 < w5.heap.size := World.block_lt_of_cell? _ _ kv0
  replace hb0 : Below w.heap.size w w5 := bstep hb0 hb
  clear hb
  go_wp2
  go_ret
  exact ⟨rfl, (by repeat (first | with_reducible exact Below.refl _ _ | with_reducible assumption | with_reducible refine Below.setCell ?_ (by first | omega | (simp <;> omega)) _ | with_reducible refine balloc ?_ _ | with_reducible refine Below.drew ?_ | with_reducible refine bstep ?_ (by with_reducible assumption)))⟩


end Go.Proofs.YtfgajejhjbfhjaaGreat.Fe

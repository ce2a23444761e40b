/- L7MovB: FeatureMoved. -/
import Derived.Test.YtfgajejhjbfhjaaGreatFeaSd
import Derived.Test.YtfgajejhjbfhjaaGreatFeaHd
import Derived.Test.YtfgajejhjbfhjaaGreatRows
import Derived.WalkKit
import Derived.WalkSpells
import Derived.WalkLawsBesides
import Derived.Lib.Hide
import Derived.Deep.QuietTactic
import Derived.BigQuiet
import Derived.RegionTactic
import Derived.ChangeAlike
import Derived.BigRegion
import Derived.Deep.RegionHeld3
import Derived.Deep.RegionWith
import Derived.Outline
import Derived.IntWalk
import Derived.Deep.DeepCutAuto
namespace Go.Proofs.YtfgajejhjbfhjaaGreat.Fe
open Go.RowKit
set_option linter.unusedSimpArgs false
set_option linter.unusedVariables false

set_option maxRecDepth 100000 in
set_option maxHeartbeats 12800000 in
theorem moved_ok (v u : Value) (f g : Fe) (p1 p2 v1 v2 : Int) (w : World) (hv : FeV w v f) (hu : FeV w u g) (h1 : vaF f = true) (h2 : vaF g = true) (h3 : okB p1 p2 = true) (h4 : okB v1 v2 = true) : Calls Tryz.prog 9 #[v, u, (.agg #[.int .i64 p1, .int .i64 p2]), (.agg #[.int .i64 v1, .int .i64 v2])] w (Ret w (.bool true)) := by
  obtain ⟨⟨pa1, ps1, ca1, cs1, rfl, ha1, hs1⟩, hx1, hy1⟩ := hv
  have HF := Lib.hid (show FeV w (.agg #[(.int .i64 (f.id)), (.int .i64 (f.ki)), (.int .i64 (f.x)), (.int .i64 (f.y)), (.int .i64 (f.ra)), .slice pa1 f.ar.length ca1, (.int .i64 (f.de)), (.int .i64 (f.sy)), .slice ps1 f.se.length cs1]) f from ⟨⟨_, _, _, _, rfl, ha1, hs1⟩, hx1, hy1⟩)
  clear ha1 hs1
  obtain ⟨⟨pa2, ps2, ca2, cs2, rfl, ha2, hs2⟩, hx2, hy2⟩ := hu
  have HG := Lib.hid (show FeV w (.agg #[(.int .i64 (g.id)), (.int .i64 (g.ki)), (.int .i64 (g.x)), (.int .i64 (g.y)), (.int .i64 (g.ra)), .slice pa2 g.ar.length ca2, (.int .i64 (g.de)), (.int .i64 (g.sy)), .slice ps2 g.se.length cs2]) g from ⟨⟨_, _, _, _, rfl, ha2, hs2⟩, hx2, hy2⟩)
  clear ha2 hs2
  have CV1 : ∀ W, FeV W (.agg #[(.int .i64 (f.id)), (.int .i64 (f.ki)), (.int .i64 (f.x)), (.int .i64 (f.y)), (.int .i64 (f.ra)), .slice pa1 f.ar.length ca1, (.int .i64 (f.de)), (.int .i64 (f.sy)), .slice ps1 f.se.length cs1]) f → Calls Tryz.prog 12 #[.agg #[(.int .i64 (f.id)), (.int .i64 (f.ki)), (.int .i64 (f.x)), (.int .i64 (f.y)), (.int .i64 (f.ra)), .slice pa1 f.ar.length ca1, (.int .i64 (f.de)), (.int .i64 (f.sy)), .slice ps1 f.se.length cs1]] W (Ret W (.bool true)) := fun W k1 => by have h := Valid_c _ _ W k1; rw [h1] at h; exact h
  have CV2 : ∀ W, FeV W (.agg #[(.int .i64 (g.id)), (.int .i64 (g.ki)), (.int .i64 (g.x)), (.int .i64 (g.y)), (.int .i64 (g.ra)), .slice pa2 g.ar.length ca2, (.int .i64 (g.de)), (.int .i64 (g.sy)), .slice ps2 g.se.length cs2]) g → Calls Tryz.prog 12 #[.agg #[(.int .i64 (g.id)), (.int .i64 (g.ki)), (.int .i64 (g.x)), (.int .i64 (g.y)), (.int .i64 (g.ra)), .slice pa2 g.ar.length ca2, (.int .i64 (g.de)), (.int .i64 (g.sy)), .slice ps2 g.se.length cs2]] W (Ret W (.bool true)) := fun W k1 => by have h := Valid_c _ _ W k1; rw [h2] at h; exact h
  have CP : ∀ W, Calls Tryz.prog 30 #[(.agg #[.int .i64 p1, .int .i64 p2])] W (Ret W (.bool true)) := fun W => by have h := rvalid_c p1 p2 W; rw [h3] at h; exact h
  have CQ : ∀ W, Calls Tryz.prog 30 #[(.agg #[.int .i64 v1, .int .i64 v2])] W (Ret W (.bool true)) := fun W => by have h := rvalid_c v1 v2 W; rw [h4] at h; exact h
  have hp := okB_iff.1 h3
  have hq := okB_iff.1 h4
  have S1 : ∀ W, FeV W (.agg #[(.int .i64 (f.id)), (.int .i64 (f.ki)), (.int .i64 (f.x)), (.int .i64 (f.y)), (.int .i64 (f.ra)), .slice pa1 f.ar.length ca1, (.int .i64 (f.de)), (.int .i64 (f.sy)), .slice ps1 f.se.length cs1]) f → Calls Tryz.prog 31 #[.agg #[(.int .i64 (f.id)), (.int .i64 (f.ki)), (.int .i64 (f.x)), (.int .i64 (f.y)), (.int .i64 (f.ra)), .slice pa1 f.ar.length ca1, (.int .i64 (f.de)), (.int .i64 (f.sy)), .slice ps1 f.se.length cs1], (.agg #[.int .i64 v1, .int .i64 v2])] W (ShfPost f v1 v2 W) := fun W h => shift_c _ f v1 v2 W h h1 hq
  have S2 : ∀ W, FeV W (.agg #[(.int .i64 (g.id)), (.int .i64 (g.ki)), (.int .i64 (g.x)), (.int .i64 (g.y)), (.int .i64 (g.ra)), .slice pa2 g.ar.length ca2, (.int .i64 (g.de)), (.int .i64 (g.sy)), .slice ps2 g.se.length cs2]) g → Calls Tryz.prog 31 #[.agg #[(.int .i64 (g.id)), (.int .i64 (g.ki)), (.int .i64 (g.x)), (.int .i64 (g.y)), (.int .i64 (g.ra)), .slice pa2 g.ar.length ca2, (.int .i64 (g.de)), (.int .i64 (g.sy)), .slice ps2 g.se.length cs2], (.agg #[.int .i64 v1, .int .i64 v2])] W (ShfPost g v1 v2 W) := fun W h => shift_c _ g v1 v2 W h h2 hq
  have SF := va_ok h1 hx1 hy1
  have SG := va_ok h2 hx2 hy2
  have IF := va_in h1 hx1 hy1
  have HSF := Lib.hid SF
  have HSG := Lib.hid SG
  have HIF := Lib.hid IF
  have HP := Lib.hid hp
  have H1 := Lib.hid h1
  have H2 := Lib.hid h2
  have HQ := Lib.hid hq
  unfold ok at hp hq
  have ww1 : wrap64 (p1 + v1) = p1 + v1 := w64 (by omega)
  have ww2 : wrap64 (p2 + v2) = p2 + v2 := w64 (by omega)
  clear hx1 hy1 hx2 hy2 h1 h2 h3 h4 SF SG IF hp hq
  go_enter Tryz.func9, Tryz.ntmps9
  go_wp2_with fail
  refine Calls.mono (head_c _) ?_
  rintro e w1 ⟨rfl, hb⟩
  have kf0 : w1.cell? ⟨w.heap.size, 0, none⟩ = some (.int .i64 (f.id)) := cell_later hb (by go_simp)
  have kf1 : w1.cell? ⟨w.heap.size, 1, none⟩ = some (.int .i64 (f.ki)) := cell_later hb (by go_simp)
  have kf2 : w1.cell? ⟨w.heap.size, 2, none⟩ = some (.int .i64 (f.x)) := cell_later hb (by go_simp)
  have kf3 : w1.cell? ⟨w.heap.size, 3, none⟩ = some (.int .i64 (f.y)) := cell_later hb (by go_simp)
  have kf4 : w1.cell? ⟨w.heap.size, 4, none⟩ = some (.int .i64 (f.ra)) := cell_later hb (by go_simp)
  have kf5 : w1.cell? ⟨w.heap.size, 5, none⟩ = some (.slice pa1 f.ar.length ca1) := cell_later hb (by go_simp)
  have kf6 : w1.cell? ⟨w.heap.size, 6, none⟩ = some (.int .i64 (f.de)) := cell_later hb (by go_simp)
  have kf7 : w1.cell? ⟨w.heap.size, 7, none⟩ = some (.int .i64 (f.sy)) := cell_later hb (by go_simp)
  have kf8 : w1.cell? ⟨w.heap.size, 8, none⟩ = some (.slice ps1 f.se.length cs1) := cell_later hb (by go_simp)
  have kg0 : w1.cell? ⟨w.heap.size + 1, 0, none⟩ = some (.int .i64 (g.id)) := cell_later hb (by go_simp)
  have kg1 : w1.cell? ⟨w.heap.size + 1, 1, none⟩ = some (.int .i64 (g.ki)) := cell_later hb (by go_simp)
  have kg2 : w1.cell? ⟨w.heap.size + 1, 2, none⟩ = some (.int .i64 (g.x)) := cell_later hb (by go_simp)
  have kg3 : w1.cell? ⟨w.heap.size + 1, 3, none⟩ = some (.int .i64 (g.y)) := cell_later hb (by go_simp)
  have kg4 : w1.cell? ⟨w.heap.size + 1, 4, none⟩ = some (.int .i64 (g.ra)) := cell_later hb (by go_simp)
  have kg5 : w1.cell? ⟨w.heap.size + 1, 5, none⟩ = some (.slice pa2 g.ar.length ca2) := cell_later hb (by go_simp)
  have kg6 : w1.cell? ⟨w.heap.size + 1, 6, none⟩ = some (.int .i64 (g.de)) := cell_later hb (by go_simp)
  have kg7 : w1.cell? ⟨w.heap.size + 1, 7, none⟩ = some (.int .i64 (g.sy)) := cell_later hb (by go_simp)
  have kg8 : w1.cell? ⟨w.heap.size + 1, 8, none⟩ = some (.slice ps2 g.se.length cs2) := cell_later hb (by go_simp)
  have kp0 : w1.cell? ⟨w.heap.size + 1 + 1, 0, none⟩ = some (.int .i64 p1) := cell_later hb (by go_simp)
  have kp1 : w1.cell? ⟨w.heap.size + 1 + 1, 1, none⟩ = some (.int .i64 p2) := cell_later hb (by go_simp)
  have kv0 : w1.cell? ⟨w.heap.size + 1 + 1 + 1, 0, none⟩ = some (.int .i64 v1) := cell_later hb (by go_simp)
  have kv1 : w1.cell? ⟨w.heap.size + 1 + 1 + 1, 1, none⟩ = some (.int .i64 v2) := cell_later hb (by go_simp)
  have zf : w.heap.size < w1.heap.size := World.block_lt_of_cell? _ _ kf0
  have zg : w.heap.size + 1 < w1.heap.size := World.block_lt_of_cell? _ _ kg0
  have zp : w.heap.size + 1 + 1 < w1.heap.size := World.block_lt_of_cell? _ _ kp0
  have zv : w.heap.size + 1 + 1 + 1 < w1.heap.size := World.block_lt_of_cell? _ _ kv0
  have hb0 : Below w.heap.size w w1 := bstep (balloc (balloc (balloc (balloc (Below.refl _ _) _) _) _) _) hb
  clear hb
  go_wp2_with fail
  refine Calls.mono (CV1 _ (HF.out.below hb0)) ?_
  rintro e w2 ⟨rfl, hb⟩
  replace kf0 := cell_later hb kf0
  replace kf1 := cell_later hb kf1
  replace kf2 := cell_later hb kf2
  replace kf3 := cell_later hb kf3
  replace kf4 := cell_later hb kf4
  replace kf5 := cell_later hb kf5
  replace kf6 := cell_later hb kf6
  replace kf7 := cell_later hb kf7
  replace kf8 := cell_later hb kf8
  replace kg0 := cell_later hb kg0
  replace kg1 := cell_later hb kg1
  replace kg2 := cell_later hb kg2
  replace kg3 := cell_later hb kg3
  replace kg4 := cell_later hb kg4
  replace kg5 := cell_later hb kg5
  replace kg6 := cell_later hb kg6
  replace kg7 := cell_later hb kg7
  replace kg8 := cell_later hb kg8
  replace kp0 := cell_later hb kp0
  replace kp1 := cell_later hb kp1
  replace kv0 := cell_later hb kv0
  replace kv1 := cell_later hb kv1
  replace zf : w.heap.size < w2.heap.size := World.block_lt_of_cell? _ _ kf0
  replace zg : w.heap.size + 1 < w2.heap.size := World.block_lt_of_cell? _ _ kg0
  replace zp : w.heap.size + 1 + 1 < w2.heap.size := World.block_lt_of_cell? _ _ kp0
  replace zv : w.heap.size + 1 + 1 + 1 < w2.heap.size := World.block_lt_of_cell? _ _ kv0
  replace hb0 : Below w.heap.size w w2 := bstep hb0 hb
  clear hb
  go_wp2_with fail
  refine Calls.mono (CV2 _ (HG.out.below hb0)) ?_
  rintro e w3 ⟨rfl, hb⟩
  replace kf0 := cell_later hb kf0
  replace kf1 := cell_later hb kf1
  replace kf2 := cell_later hb kf2
  replace kf3 := cell_later hb kf3
  replace kf4 := cell_later hb kf4
  replace kf5 := cell_later hb kf5
  replace kf6 := cell_later hb kf6
  replace kf7 := cell_later hb kf7
  replace kf8 := cell_later hb kf8
  replace kg0 := cell_later hb kg0
  replace kg1 := cell_later hb kg1
  replace kg2 := cell_later hb kg2
  replace kg3 := cell_later hb kg3
  replace kg4 := cell_later hb kg4
  replace kg5 := cell_later hb kg5
  replace kg6 := cell_later hb kg6
  replace kg7 := cell_later hb kg7
  replace kg8 := cell_later hb kg8
  replace kp0 := cell_later hb kp0
  replace kp1 := cell_later hb kp1
  replace kv0 := cell_later hb kv0
  replace kv1 := cell_later hb kv1
  replace zf : w.heap.size < w3.heap.size := World.block_lt_of_cell? _ _ kf0
  replace zg : w.heap.size + 1 < w3.heap.size := World.block_lt_of_cell? _ _ kg0
  replace zp : w.heap.size + 1 + 1 < w3.heap.size := World.block_lt_of_cell? _ _ kp0
  replace zv : w.heap.size + 1 + 1 + 1 < w3.heap.size := World.block_lt_of_cell? _ _ kv0
  replace hb0 : Below w.heap.size w w3 := bstep hb0 hb
  clear hb
  go_wp2_with fail
  refine Calls.mono (CP _) ?_
  rintro e w4 ⟨rfl, hb⟩
  replace kf0 := cell_later hb kf0
  replace kf1 := cell_later hb kf1
  replace kf2 := cell_later hb kf2
  replace kf3 := cell_later hb kf3
  replace kf4 := cell_later hb kf4
  replace kf5 := cell_later hb kf5
  replace kf6 := cell_later hb kf6
  replace kf7 := cell_later hb kf7
  replace kf8 := cell_later hb kf8
  replace kg0 := cell_later hb kg0
  replace kg1 := cell_later hb kg1
  replace kg2 := cell_later hb kg2
  replace kg3 := cell_later hb kg3
  replace kg4 := cell_later hb kg4
  replace kg5 := cell_later hb kg5
  replace kg6 := cell_later hb kg6
  replace kg7 := cell_later hb kg7
  replace kg8 := cell_later hb kg8
  replace kp0 := cell_later hb kp0
  replace kp1 := cell_later hb kp1
  replace kv0 := cell_later hb kv0
  replace kv1 := cell_later hb kv1
  replace zf : w.heap.size < w4.heap.size := World.block_lt_of_cell? _ _ kf0
  replace zg : w.heap.size + 1 < w4.heap.size := World.block_lt_of_cell? _ _ kg0
  replace zp : w.heap.size + 1 + 1 < w4.heap.size := World.block_lt_of_cell? _ _ kp0
  replace zv : w.heap.size + 1 + 1 + 1 < w4.heap.size := World.block_lt_of_cell? _ _ kv0
  replace hb0 : Below w.heap.size w w4 := bstep hb0 hb
  clear hb
  go_wp2_with fail
  refine Calls.mono (CQ _) ?_
  rintro e w5 ⟨rfl, hb⟩
  replace kf0 := cell_later hb kf0
  replace kf1 := cell_later hb kf1
  replace kf2 := cell_later hb kf2
  replace kf3 := cell_later hb kf3
  replace kf4 := cell_later hb kf4
  replace kf5 := cell_later hb kf5
  replace kf6 := cell_later hb kf6
  replace kf7 := cell_later hb kf7
  replace kf8 := cell_later hb kf8
  replace kg0 := cell_later hb kg0
  replace kg1 := cell_later hb kg1
  replace kg2 := cell_later hb kg2
  replace kg3 := cell_later hb kg3
  replace kg4 := cell_later hb kg4
  replace kg5 := cell_later hb kg5
  replace kg6 := cell_later hb kg6
  replace kg7 := cell_later hb kg7
  replace kg8 := cell_later hb kg8
  replace kp0 := cell_later hb kp0
  replace kp1 := cell_later hb kp1
  replace kv0 := cell_later hb kv0
  replace kv1 := cell_later hb kv1
  replace zf : w.heap.size < w5.heap.size := World.block_lt_of_cell? _ _ kf0
  replace zg : w.heap.size + 1 < w5.heap.size := World.block_lt_of_cell? _ _ kg0
  replace zp : w.heap.size + 1 + 1 < w5.heap.size := World.block_lt_of_cell? _ _ kp0
  replace zv : w.heap.size + 1 + 1 + 1 < w5.heap.size := World.block_lt_of_cell? _ _ kv0
  replace hb0 : Below w.heap.size w w5 := bstep hb0 hb
  clear hb
  go_wp2_with fail
  refine Calls.mono (S1 _ (HF.out.below hb0)) ?_
  rintro e w6 ⟨a, o1, pa3, ps3, ca3, cs3, rfl, hf3, h3, hb⟩
  have hc7 : Below w5.heap.size w5 w6 := bstep (Below.refl _ _) hb
  replace kf0 := cell_later hb kf0
  replace kf1 := cell_later hb kf1
  replace kf2 := cell_later hb kf2
  replace kf3 := cell_later hb kf3
  replace kf4 := cell_later hb kf4
  replace kf5 := cell_later hb kf5
  replace kf6 := cell_later hb kf6
  replace kf7 := cell_later hb kf7
  replace kf8 := cell_later hb kf8
  replace kg0 := cell_later hb kg0
  replace kg1 := cell_later hb kg1
  replace kg2 := cell_later hb kg2
  replace kg3 := cell_later hb kg3
  replace kg4 := cell_later hb kg4
  replace kg5 := cell_later hb kg5
  replace kg6 := cell_later hb kg6
  replace kg7 := cell_later hb kg7
  replace kg8 := cell_later hb kg8
  replace kp0 := cell_later hb kp0
  replace kp1 := cell_later hb kp1
  replace kv0 := cell_later hb kv0
  replace kv1 := cell_later hb kv1
  replace zf : w.heap.size < w6.heap.size := World.block_lt_of_cell? _ _ kf0
  replace zg : w.heap.size + 1 < w6.heap.size := World.block_lt_of_cell? _ _ kg0
  replace zp : w.heap.size + 1 + 1 < w6.heap.size := World.block_lt_of_cell? _ _ kp0
  replace zv : w.heap.size + 1 + 1 + 1 < w6.heap.size := World.block_lt_of_cell? _ _ kv0
  replace hb0 : Below w.heap.size w w6 := bstep hb0 hb
  clear hb
  have HO3 := Lib.hid h3
  clear h3
  clear hc7
  go_wp2_with fail
  refine Calls.mono (S2 _ (HG.out.below (by repeat (first | with_reducible exact Below.refl _ _ | with_reducible assumption | with_reducible refine Below.setCell ?_ (by first | omega | (simp <;> omega)) _ | with_reducible refine balloc ?_ _ | with_reducible refine Below.drew ?_ | with_reducible refine bstep ?_ (by with_reducible assumption))))) ?_
  rintro e w7 ⟨b, o2, pa4, ps4, ca4, cs4, rfl, hf4, h4, hb⟩
  have hc7 : Below w6.heap.size w6 w7 := bstep (balloc (Below.refl _ _) _) hb
  replace kf0 := cell_later hb (cell_al _ kf0)
  replace kf1 := cell_later hb (cell_al _ kf1)
  replace kf2 := cell_later hb (cell_al _ kf2)
  replace kf3 := cell_later hb (cell_al _ kf3)
  replace kf4 := cell_later hb (cell_al _ kf4)
  replace kf5 := cell_later hb (cell_al _ kf5)
  replace kf6 := cell_later hb (cell_al _ kf6)
  replace kf7 := cell_later hb (cell_al _ kf7)
  replace kf8 := cell_later hb (cell_al _ kf8)
  replace kg0 := cell_later hb (cell_al _ kg0)
  replace kg1 := cell_later hb (cell_al _ kg1)
  replace kg2 := cell_later hb (cell_al _ kg2)
  replace kg3 := cell_later hb (cell_al _ kg3)
  replace kg4 := cell_later hb (cell_al _ kg4)
  replace kg5 := cell_later hb (cell_al _ kg5)
  replace kg6 := cell_later hb (cell_al _ kg6)
  replace kg7 := cell_later hb (cell_al _ kg7)
  replace kg8 := cell_later hb (cell_al _ kg8)
  replace kp0 := cell_later hb (cell_al _ kp0)
  replace kp1 := cell_later hb (cell_al _ kp1)
  replace kv0 := cell_later hb (cell_al _ kv0)
  replace kv1 := cell_later hb (cell_al _ kv1)
  have ka0 : w7.cell? ⟨w6.heap.size, 0, none⟩ = some (.int .i64 (a.id)) := cell_later hb (by go_simp)
  have ka1 : w7.cell? ⟨w6.heap.size, 1, none⟩ = some (.int .i64 (a.ki)) := cell_later hb (by go_simp)
  have ka2 : w7.cell? ⟨w6.heap.size, 2, none⟩ = some (.int .i64 (a.x)) := cell_later hb (by go_simp)
  have ka3 : w7.cell? ⟨w6.heap.size, 3, none⟩ = some (.int .i64 (a.y)) := cell_later hb (by go_simp)
  have ka4 : w7.cell? ⟨w6.heap.size, 4, none⟩ = some (.int .i64 (a.ra)) := cell_later hb (by go_simp)
  have ka5 : w7.cell? ⟨w6.heap.size, 5, none⟩ = some (.slice pa3 a.ar.length ca3) := cell_later hb (by go_simp)
  have ka6 : w7.cell? ⟨w6.heap.size, 6, none⟩ = some (.int .i64 (a.de)) := cell_later hb (by go_simp)
  have ka7 : w7.cell? ⟨w6.heap.size, 7, none⟩ = some (.int .i64 (a.sy)) := cell_later hb (by go_simp)
  have ka8 : w7.cell? ⟨w6.heap.size, 8, none⟩ = some (.slice ps3 a.se.length cs3) := cell_later hb (by go_simp)
  replace zf : w.heap.size < w7.heap.size := World.block_lt_of_cell? _ _ kf0
  replace zg : w.heap.size + 1 < w7.heap.size := World.block_lt_of_cell? _ _ kg0
  replace zp : w.heap.size + 1 + 1 < w7.heap.size := World.block_lt_of_cell? _ _ kp0
  replace zv : w.heap.size + 1 + 1 + 1 < w7.heap.size := World.block_lt_of_cell? _ _ kv0
  have za : w6.heap.size < w7.heap.size := World.block_lt_of_cell? _ _ ka0
  replace hb0 : Below w.heap.size w w7 := bstep (balloc hb0 _) hb
  clear hb
  have HO4 := Lib.hid h4
  clear h4
  have HA := Lib.hid (hf3.below hc7)
  have HB := Lib.hid hf4
  clear hf3 hf4 hc7 S1 S2 CV1 CV2 CP CQ
  have hc7 : Below w7.heap.size w7 w7 := Below.refl _ _
  have HB0 := Lib.hid hb0
  cases o1
  · clear HO3 HO4
    have hb0 := HB0.out
    go_wp2
    go_ret
    exact ⟨rfl, (by repeat (first | with_reducible exact Below.refl _ _ | with_reducible assumption | with_reducible refine Below.setCell ?_ (by first | omega | (simp <;> omega)) _ | with_reducible refine balloc ?_ _ | with_reducible refine Below.drew ?_ | with_reducible refine bstep ?_ (by with_reducible assumption)))⟩
  cases o2
  · clear HO3 HO4
    have hb0 := HB0.out
    go_wp2
    go_ret
    exact ⟨rfl, (by repeat (first | with_reducible exact Below.refl _ _ | with_reducible assumption | with_reducible refine Below.setCell ?_ (by first | omega | (simp <;> omega)) _ | with_reducible refine balloc ?_ _ | with_reducible refine Below.drew ?_ | with_reducible refine bstep ?_ (by with_reducible assumption)))⟩
  obtain ⟨ea, va⟩ := HO3.out rfl
  obtain ⟨eb, vb⟩ := HO4.out rfl
  clear HO3 HO4
  cases hq : okB (p1 + v1) (p2 + v2)
  · have CR : ∀ W, Calls Tryz.prog 30 #[(.agg #[(.int .i64 (p1 + v1)), (.int .i64 (p2 + v2))])] W (Ret W (.bool false)) := fun W => by have h := rvalid_c (p1 + v1) (p2 + v2) W; rw [hq] at h; exact h
    clear hq ea va eb vb
    go_wp2_with fail
    refine Calls.mono (CR _) ?_
    rintro e w8 ⟨rfl, hb⟩
    replace kf0 := cell_later hb (cell_al _ (cell_al _ kf0))
    replace kf1 := cell_later hb (cell_al _ (cell_al _ kf1))
    replace kf2 := cell_later hb (cell_al _ (cell_al _ kf2))
    replace kf3 := cell_later hb (cell_al _ (cell_al _ kf3))
    replace kf4 := cell_later hb (cell_al _ (cell_al _ kf4))
    replace kf5 := cell_later hb (cell_al _ (cell_al _ kf5))
    replace kf6 := cell_later hb (cell_al _ (cell_al _ kf6))
    replace kf7 := cell_later hb (cell_al _ (cell_al _ kf7))
    replace kf8 := cell_later hb (cell_al _ (cell_al _ kf8))
    replace kg0 := cell_later hb (cell_al _ (cell_al _ kg0))
    replace kg1 := cell_later hb (cell_al _ (cell_al _ kg1))
    replace kg2 := cell_later hb (cell_al _ (cell_al _ kg2))
    replace kg3 := cell_later hb (cell_al _ (cell_al _ kg3))
    replace kg4 := cell_later hb (cell_al _ (cell_al _ kg4))
    replace kg5 := cell_later hb (cell_al _ (cell_al _ kg5))
    replace kg6 := cell_later hb (cell_al _ (cell_al _ kg6))
    replace kg7 := cell_later hb (cell_al _ (cell_al _ kg7))
    replace kg8 := cell_later hb (cell_al _ (cell_al _ kg8))
    replace kp0 := cell_later hb (cell_al _ (cell_al _ kp0))
    replace kp1 := cell_later hb (cell_al _ (cell_al _ kp1))
    replace kv0 := cell_later hb (cell_al _ (cell_al _ kv0))
    replace kv1 := cell_later hb (cell_al _ (cell_al _ kv1))
    replace ka0 := cell_later hb (cell_al _ (cell_al _ ka0))
    replace ka1 := cell_later hb (cell_al _ (cell_al _ ka1))
    replace ka2 := cell_later hb (cell_al _ (cell_al _ ka2))
    replace ka3 := cell_later hb (cell_al _ (cell_al _ ka3))
    replace ka4 := cell_later hb (cell_al _ (cell_al _ ka4))
    replace ka5 := cell_later hb (cell_al _ (cell_al _ ka5))
    replace ka6 := cell_later hb (cell_al _ (cell_al _ ka6))
    replace ka7 := cell_later hb (cell_al _ (cell_al _ ka7))
    replace ka8 := cell_later hb (cell_al _ (cell_al _ ka8))
    have kb0 : w8.cell? ⟨w7.heap.size, 0, none⟩ = some (.int .i64 (b.id)) := cell_later hb (by go_simp)
    have kb1 : w8.cell? ⟨w7.heap.size, 1, none⟩ = some (.int .i64 (b.ki)) := cell_later hb (by go_simp)
    have kb2 : w8.cell? ⟨w7.heap.size, 2, none⟩ = some (.int .i64 (b.x)) := cell_later hb (by go_simp)
    have kb3 : w8.cell? ⟨w7.heap.size, 3, none⟩ = some (.int .i64 (b.y)) := cell_later hb (by go_simp)
    have kb4 : w8.cell? ⟨w7.heap.size, 4, none⟩ = some (.int .i64 (b.ra)) := cell_later hb (by go_simp)
    have kb5 : w8.cell? ⟨w7.heap.size, 5, none⟩ = some (.slice pa4 b.ar.length ca4) := cell_later hb (by go_simp)
    have kb6 : w8.cell? ⟨w7.heap.size, 6, none⟩ = some (.int .i64 (b.de)) := cell_later hb (by go_simp)
    have kb7 : w8.cell? ⟨w7.heap.size, 7, none⟩ = some (.int .i64 (b.sy)) := cell_later hb (by go_simp)
    have kb8 : w8.cell? ⟨w7.heap.size, 8, none⟩ = some (.slice ps4 b.se.length cs4) := cell_later hb (by go_simp)
    have kq0 : w8.cell? ⟨w7.heap.size + 1, 0, none⟩ = some (.int .i64 (p1 + v1)) := cell_later hb (by go_simp)
    have kq1 : w8.cell? ⟨w7.heap.size + 1, 1, none⟩ = some (.int .i64 (p2 + v2)) := cell_later hb (by go_simp)
    replace zf : w.heap.size < w8.heap.size := World.block_lt_of_cell? _ _ kf0
    replace zg : w.heap.size + 1 < w8.heap.size := World.block_lt_of_cell? _ _ kg0
    replace zp : w.heap.size + 1 + 1 < w8.heap.size := World.block_lt_of_cell? _ _ kp0
    replace zv : w.heap.size + 1 + 1 + 1 < w8.heap.size := World.block_lt_of_cell? _ _ kv0
    replace za : w6.heap.size < w8.heap.size := World.block_lt_of_cell? _ _ ka0
    have zb : w7.heap.size < w8.heap.size := World.block_lt_of_cell? _ _ kb0
    have zq : w7.heap.size + 1 < w8.heap.size := World.block_lt_of_cell? _ _ kq0
    replace hb0 : Below w.heap.size w w8 := bstep (balloc (balloc hb0 _) _) hb
    clear hb
    clear CR
    go_wp2
    go_ret
    exact ⟨rfl, (by repeat (first | with_reducible exact Below.refl _ _ | with_reducible assumption | with_reducible refine Below.setCell ?_ (by first | omega | (simp <;> omega)) _ | with_reducible refine balloc ?_ _ | with_reducible refine Below.drew ?_ | with_reducible refine bstep ?_ (by with_reducible assumption)))⟩
  have CR : ∀ W, Calls Tryz.prog 30 #[(.agg #[(.int .i64 (p1 + v1)), (.int .i64 (p2 + v2))])] W (Ret W (.bool true)) := fun W => by have h := rvalid_c (p1 + v1) (p2 + v2) W; rw [hq] at h; exact h
  have oq := okB_iff.1 hq
  obtain ⟨c, hc⟩ : ∃ c, coS (shF f) p1 p2 = c := ⟨_, rfl⟩
  obtain ⟨h, hh⟩ : ∃ h, hoS (shF f) (shF g) = h := ⟨_, rfl⟩
  obtain ⟨s, hs⟩ : ∃ s, stS (shF f) (shF g) f.de g.de = s := ⟨_, rfl⟩
  obtain ⟨t, ht⟩ : ∃ t, toS (shF f) (shF g) = t := ⟨_, rfl⟩
  obtain ⟨z1, hz1⟩ : ∃ z, (bxS (shF f)).1.1 = z := ⟨_, rfl⟩
  obtain ⟨z2, hz2⟩ : ∃ z, (bxS (shF f)).1.2 = z := ⟨_, rfl⟩
  obtain ⟨z3, hz3⟩ : ∃ z, (bxS (shF f)).2.1 = z := ⟨_, rfl⟩
  obtain ⟨z4, hz4⟩ : ∃ z, (bxS (shF f)).2.2 = z := ⟨_, rfl⟩
  have hbi := bx_in HIF.out
  rw [hz1, hz2, hz3, hz4] at hbi
  have hqv := HQ.out
  unfold ok at hqv
  have uu1 : wrap64 (z1 + v1) = z1 + v1 := w64 (by omega)
  have uu2 : wrap64 (z2 + v1) = z2 + v1 := w64 (by omega)
  have uu3 : wrap64 (z3 + v2) = z3 + v2 := w64 (by omega)
  have uu4 : wrap64 (z4 + v2) = z4 + v2 := w64 (by omega)
  have ec : coS (shF a) (p1 + v1) (p2 + v2) = c := by rw [ea, shF_mv, coS_mv]; exact hc
  have eh : hoS (shF a) (shF b) = h := by rw [ea, eb, shF_mv, shF_mv, hoS_mv]; exact hh
  have es : stS (shF a) (shF b) a.de b.de = s := by rw [ea, eb, shF_mv, shF_mv, de_mv, de_mv, stS_mv]; exact hs
  have et : toS (shF a) (shF b) = t := by rw [ea, eb, shF_mv, shF_mv, toS_mv _ _ _ _ HSF.out HSG.out]; exact ht
  have eb0 : bxS (shF a) = ((z1 + v1, z2 + v1), (z3 + v2, z4 + v2)) := by rw [ea, shF_mv, bxS_mv _ _ _ HSF.out, hz1, hz2, hz3, hz4]
  have eb1 : bxS (shF f) = ((z1, z2), (z3, z4)) := by rw [← hz1, ← hz2, ← hz3, ← hz4]
  have CC1 : ∀ W, FeV W (.agg #[(.int .i64 (f.id)), (.int .i64 (f.ki)), (.int .i64 (f.x)), (.int .i64 (f.y)), (.int .i64 (f.ra)), .slice pa1 f.ar.length ca1, (.int .i64 (f.de)), (.int .i64 (f.sy)), .slice ps1 f.se.length cs1]) f → Calls Tryz.prog 18 #[.agg #[(.int .i64 (f.id)), (.int .i64 (f.ki)), (.int .i64 (f.x)), (.int .i64 (f.y)), (.int .i64 (f.ra)), .slice pa1 f.ar.length ca1, (.int .i64 (f.de)), (.int .i64 (f.sy)), .slice ps1 f.se.length cs1], (.agg #[.int .i64 p1, .int .i64 p2])] W (Ret W (.tuple #[(.bool c), (.int .i64 0)])) := fun W k1 => by have h := Covers_ok _ _ _ _ W k1 H1.out HP.out; rw [hc] at h; exact h
  have CC2 : ∀ W, FeV W (.agg #[(.int .i64 (a.id)), (.int .i64 (a.ki)), (.int .i64 (a.x)), (.int .i64 (a.y)), (.int .i64 (a.ra)), .slice pa3 a.ar.length ca3, (.int .i64 (a.de)), (.int .i64 (a.sy)), .slice ps3 a.se.length cs3]) a → Calls Tryz.prog 18 #[.agg #[(.int .i64 (a.id)), (.int .i64 (a.ki)), (.int .i64 (a.x)), (.int .i64 (a.y)), (.int .i64 (a.ra)), .slice pa3 a.ar.length ca3, (.int .i64 (a.de)), (.int .i64 (a.sy)), .slice ps3 a.se.length cs3], (.agg #[(.int .i64 (p1 + v1)), (.int .i64 (p2 + v2))])] W (Ret W (.tuple #[(.bool c), (.int .i64 0)])) := fun W k1 => by have h := Covers_ok _ _ _ _ W k1 va oq; rw [ec] at h; exact h
  have CH1 : ∀ W, FeV W (.agg #[(.int .i64 (f.id)), (.int .i64 (f.ki)), (.int .i64 (f.x)), (.int .i64 (f.y)), (.int .i64 (f.ra)), .slice pa1 f.ar.length ca1, (.int .i64 (f.de)), (.int .i64 (f.sy)), .slice ps1 f.se.length cs1]) f → FeV W (.agg #[(.int .i64 (g.id)), (.int .i64 (g.ki)), (.int .i64 (g.x)), (.int .i64 (g.y)), (.int .i64 (g.ra)), .slice pa2 g.ar.length ca2, (.int .i64 (g.de)), (.int .i64 (g.sy)), .slice ps2 g.se.length cs2]) g → Calls Tryz.prog 20 #[.agg #[(.int .i64 (f.id)), (.int .i64 (f.ki)), (.int .i64 (f.x)), (.int .i64 (f.y)), (.int .i64 (f.ra)), .slice pa1 f.ar.length ca1, (.int .i64 (f.de)), (.int .i64 (f.sy)), .slice ps1 f.se.length cs1], .agg #[(.int .i64 (g.id)), (.int .i64 (g.ki)), (.int .i64 (g.x)), (.int .i64 (g.y)), (.int .i64 (g.ra)), .slice pa2 g.ar.length ca2, (.int .i64 (g.de)), (.int .i64 (g.sy)), .slice ps2 g.se.length cs2]] W (Ret W (.tuple #[(.bool h), (.int .i64 0)])) := fun W k1 k2 => by have k := Holds_ok _ _ _ _ W k1 k2 H1.out H2.out; rw [hh] at k; exact k
  have CH2 : ∀ W, FeV W (.agg #[(.int .i64 (a.id)), (.int .i64 (a.ki)), (.int .i64 (a.x)), (.int .i64 (a.y)), (.int .i64 (a.ra)), .slice pa3 a.ar.length ca3, (.int .i64 (a.de)), (.int .i64 (a.sy)), .slice ps3 a.se.length cs3]) a → FeV W (.agg #[(.int .i64 (b.id)), (.int .i64 (b.ki)), (.int .i64 (b.x)), (.int .i64 (b.y)), (.int .i64 (b.ra)), .slice pa4 b.ar.length ca4, (.int .i64 (b.de)), (.int .i64 (b.sy)), .slice ps4 b.se.length cs4]) b → Calls Tryz.prog 20 #[.agg #[(.int .i64 (a.id)), (.int .i64 (a.ki)), (.int .i64 (a.x)), (.int .i64 (a.y)), (.int .i64 (a.ra)), .slice pa3 a.ar.length ca3, (.int .i64 (a.de)), (.int .i64 (a.sy)), .slice ps3 a.se.length cs3], .agg #[(.int .i64 (b.id)), (.int .i64 (b.ki)), (.int .i64 (b.x)), (.int .i64 (b.y)), (.int .i64 (b.ra)), .slice pa4 b.ar.length ca4, (.int .i64 (b.de)), (.int .i64 (b.sy)), .slice ps4 b.se.length cs4]] W (Ret W (.tuple #[(.bool h), (.int .i64 0)])) := fun W k1 k2 => by have k := Holds_ok _ _ _ _ W k1 k2 va vb; rw [eh] at k; exact k
  have CS1 : ∀ W, FeV W (.agg #[(.int .i64 (f.id)), (.int .i64 (f.ki)), (.int .i64 (f.x)), (.int .i64 (f.y)), (.int .i64 (f.ra)), .slice pa1 f.ar.length ca1, (.int .i64 (f.de)), (.int .i64 (f.sy)), .slice ps1 f.se.length cs1]) f → FeV W (.agg #[(.int .i64 (g.id)), (.int .i64 (g.ki)), (.int .i64 (g.x)), (.int .i64 (g.y)), (.int .i64 (g.ra)), .slice pa2 g.ar.length ca2, (.int .i64 (g.de)), (.int .i64 (g.sy)), .slice ps2 g.se.length cs2]) g → Calls Tryz.prog 22 #[.agg #[(.int .i64 (f.id)), (.int .i64 (f.ki)), (.int .i64 (f.x)), (.int .i64 (f.y)), (.int .i64 (f.ra)), .slice pa1 f.ar.length ca1, (.int .i64 (f.de)), (.int .i64 (f.sy)), .slice ps1 f.se.length cs1], .agg #[(.int .i64 (g.id)), (.int .i64 (g.ki)), (.int .i64 (g.x)), (.int .i64 (g.y)), (.int .i64 (g.ra)), .slice pa2 g.ar.length ca2, (.int .i64 (g.de)), (.int .i64 (g.sy)), .slice ps2 g.se.length cs2]] W (Ret W (.tuple #[(.bool s), (.int .i64 0)])) := fun W k1 k2 => by have k := Stands_ok _ _ _ _ W k1 k2 H1.out H2.out; rw [hs] at k; exact k
  have CS2 : ∀ W, FeV W (.agg #[(.int .i64 (a.id)), (.int .i64 (a.ki)), (.int .i64 (a.x)), (.int .i64 (a.y)), (.int .i64 (a.ra)), .slice pa3 a.ar.length ca3, (.int .i64 (a.de)), (.int .i64 (a.sy)), .slice ps3 a.se.length cs3]) a → FeV W (.agg #[(.int .i64 (b.id)), (.int .i64 (b.ki)), (.int .i64 (b.x)), (.int .i64 (b.y)), (.int .i64 (b.ra)), .slice pa4 b.ar.length ca4, (.int .i64 (b.de)), (.int .i64 (b.sy)), .slice ps4 b.se.length cs4]) b → Calls Tryz.prog 22 #[.agg #[(.int .i64 (a.id)), (.int .i64 (a.ki)), (.int .i64 (a.x)), (.int .i64 (a.y)), (.int .i64 (a.ra)), .slice pa3 a.ar.length ca3, (.int .i64 (a.de)), (.int .i64 (a.sy)), .slice ps3 a.se.length cs3], .agg #[(.int .i64 (b.id)), (.int .i64 (b.ki)), (.int .i64 (b.x)), (.int .i64 (b.y)), (.int .i64 (b.ra)), .slice pa4 b.ar.length ca4, (.int .i64 (b.de)), (.int .i64 (b.sy)), .slice ps4 b.se.length cs4]] W (Ret W (.tuple #[(.bool s), (.int .i64 0)])) := fun W k1 k2 => by have k := Stands_ok _ _ _ _ W k1 k2 va vb; rw [es] at k; exact k
  have CT1 : ∀ W, FeV W (.agg #[(.int .i64 (f.id)), (.int .i64 (f.ki)), (.int .i64 (f.x)), (.int .i64 (f.y)), (.int .i64 (f.ra)), .slice pa1 f.ar.length ca1, (.int .i64 (f.de)), (.int .i64 (f.sy)), .slice ps1 f.se.length cs1]) f → FeV W (.agg #[(.int .i64 (g.id)), (.int .i64 (g.ki)), (.int .i64 (g.x)), (.int .i64 (g.y)), (.int .i64 (g.ra)), .slice pa2 g.ar.length ca2, (.int .i64 (g.de)), (.int .i64 (g.sy)), .slice ps2 g.se.length cs2]) g → Calls Tryz.prog 24 #[.agg #[(.int .i64 (f.id)), (.int .i64 (f.ki)), (.int .i64 (f.x)), (.int .i64 (f.y)), (.int .i64 (f.ra)), .slice pa1 f.ar.length ca1, (.int .i64 (f.de)), (.int .i64 (f.sy)), .slice ps1 f.se.length cs1], .agg #[(.int .i64 (g.id)), (.int .i64 (g.ki)), (.int .i64 (g.x)), (.int .i64 (g.y)), (.int .i64 (g.ra)), .slice pa2 g.ar.length ca2, (.int .i64 (g.de)), (.int .i64 (g.sy)), .slice ps2 g.se.length cs2]] W (Ret W (.tuple #[(.bool t), (.int .i64 0)])) := fun W k1 k2 => by have k := Touch_ok _ _ _ _ W k1 k2 H1.out H2.out; rw [ht] at k; exact k
  have CT2 : ∀ W, FeV W (.agg #[(.int .i64 (a.id)), (.int .i64 (a.ki)), (.int .i64 (a.x)), (.int .i64 (a.y)), (.int .i64 (a.ra)), .slice pa3 a.ar.length ca3, (.int .i64 (a.de)), (.int .i64 (a.sy)), .slice ps3 a.se.length cs3]) a → FeV W (.agg #[(.int .i64 (b.id)), (.int .i64 (b.ki)), (.int .i64 (b.x)), (.int .i64 (b.y)), (.int .i64 (b.ra)), .slice pa4 b.ar.length ca4, (.int .i64 (b.de)), (.int .i64 (b.sy)), .slice ps4 b.se.length cs4]) b → Calls Tryz.prog 24 #[.agg #[(.int .i64 (a.id)), (.int .i64 (a.ki)), (.int .i64 (a.x)), (.int .i64 (a.y)), (.int .i64 (a.ra)), .slice pa3 a.ar.length ca3, (.int .i64 (a.de)), (.int .i64 (a.sy)), .slice ps3 a.se.length cs3], .agg #[(.int .i64 (b.id)), (.int .i64 (b.ki)), (.int .i64 (b.x)), (.int .i64 (b.y)), (.int .i64 (b.ra)), .slice pa4 b.ar.length ca4, (.int .i64 (b.de)), (.int .i64 (b.sy)), .slice ps4 b.se.length cs4]] W (Ret W (.tuple #[(.bool t), (.int .i64 0)])) := fun W k1 k2 => by have k := Touch_ok _ _ _ _ W k1 k2 va vb; rw [et] at k; exact k
  have CX1 : ∀ W, FeV W (.agg #[(.int .i64 (f.id)), (.int .i64 (f.ki)), (.int .i64 (f.x)), (.int .i64 (f.y)), (.int .i64 (f.ra)), .slice pa1 f.ar.length ca1, (.int .i64 (f.de)), (.int .i64 (f.sy)), .slice ps1 f.se.length cs1]) f → Calls Tryz.prog 28 #[.agg #[(.int .i64 (f.id)), (.int .i64 (f.ki)), (.int .i64 (f.x)), (.int .i64 (f.y)), (.int .i64 (f.ra)), .slice pa1 f.ar.length ca1, (.int .i64 (f.de)), (.int .i64 (f.sy)), .slice ps1 f.se.length cs1]] W (Ret W (.tuple #[.agg #[(.int .i64 z1), (.int .i64 z2), (.int .i64 z3), (.int .i64 z4)], (.int .i64 0)])) := fun W k1 => by have k := Box_ok _ _ W k1 H1.out; rw [eb1] at k; exact k
  have CX2 : ∀ W, FeV W (.agg #[(.int .i64 (a.id)), (.int .i64 (a.ki)), (.int .i64 (a.x)), (.int .i64 (a.y)), (.int .i64 (a.ra)), .slice pa3 a.ar.length ca3, (.int .i64 (a.de)), (.int .i64 (a.sy)), .slice ps3 a.se.length cs3]) a → Calls Tryz.prog 28 #[.agg #[(.int .i64 (a.id)), (.int .i64 (a.ki)), (.int .i64 (a.x)), (.int .i64 (a.y)), (.int .i64 (a.ra)), .slice pa3 a.ar.length ca3, (.int .i64 (a.de)), (.int .i64 (a.sy)), .slice ps3 a.se.length cs3]] W (Ret W (.tuple #[.agg #[(.int .i64 (z1 + v1)), (.int .i64 (z2 + v1)), (.int .i64 (z3 + v2)), (.int .i64 (z4 + v2))], (.int .i64 0)])) := fun W k1 => by have k := Box_ok _ _ W k1 va; rw [eb0] at k; exact k
  clear hq ea va eb vb oq hc hh hs ht hz1 hz2 hz3 hz4 hbi hqv ec eh es et eb0 eb1
  go_wp2_with fail
  refine Calls.mono (CR _) ?_
  rintro e w8 ⟨rfl, hb⟩
  replace hc7 := bstep (balloc (balloc hc7 _) _) hb
  replace kf0 := cell_later hb (cell_al _ (cell_al _ kf0))
  replace kf1 := cell_later hb (cell_al _ (cell_al _ kf1))
  replace kf2 := cell_later hb (cell_al _ (cell_al _ kf2))
  replace kf3 := cell_later hb (cell_al _ (cell_al _ kf3))
  replace kf4 := cell_later hb (cell_al _ (cell_al _ kf4))
  replace kf5 := cell_later hb (cell_al _ (cell_al _ kf5))
  replace kf6 := cell_later hb (cell_al _ (cell_al _ kf6))
  replace kf7 := cell_later hb (cell_al _ (cell_al _ kf7))
  replace kf8 := cell_later hb (cell_al _ (cell_al _ kf8))
  replace kg0 := cell_later hb (cell_al _ (cell_al _ kg0))
  replace kg1 := cell_later hb (cell_al _ (cell_al _ kg1))
  replace kg2 := cell_later hb (cell_al _ (cell_al _ kg2))
  replace kg3 := cell_later hb (cell_al _ (cell_al _ kg3))
  replace kg4 := cell_later hb (cell_al _ (cell_al _ kg4))
  replace kg5 := cell_later hb (cell_al _ (cell_al _ kg5))
  replace kg6 := cell_later hb (cell_al _ (cell_al _ kg6))
  replace kg7 := cell_later hb (cell_al _ (cell_al _ kg7))
  replace kg8 := cell_later hb (cell_al _ (cell_al _ kg8))
  replace kp0 := cell_later hb (cell_al _ (cell_al _ kp0))
  replace kp1 := cell_later hb (cell_al _ (cell_al _ kp1))
  replace kv0 := cell_later hb (cell_al _ (cell_al _ kv0))
  replace kv1 := cell_later hb (cell_al _ (cell_al _ kv1))
  replace ka0 := cell_later hb (cell_al _ (cell_al _ ka0))
  replace ka1 := cell_later hb (cell_al _ (cell_al _ ka1))
  replace ka2 := cell_later hb (cell_al _ (cell_al _ ka2))
  replace ka3 := cell_later hb (cell_al _ (cell_al _ ka3))
  replace ka4 := cell_later hb (cell_al _ (cell_al _ ka4))
  replace ka5 := cell_later hb (cell_al _ (cell_al _ ka5))
  replace ka6 := cell_later hb (cell_al _ (cell_al _ ka6))
  replace ka7 := cell_later hb (cell_al _ (cell_al _ ka7))
  replace ka8 := cell_later hb (cell_al _ (cell_al _ ka8))
  have kb0 : w8.cell? ⟨w7.heap.size, 0, none⟩ = some (.int .i64 (b.id)) := cell_later hb (by go_simp)
  have kb1 : w8.cell? ⟨w7.heap.size, 1, none⟩ = some (.int .i64 (b.ki)) := cell_later hb (by go_simp)
  have kb2 : w8.cell? ⟨w7.heap.size, 2, none⟩ = some (.int .i64 (b.x)) := cell_later hb (by go_simp)
  have kb3 : w8.cell? ⟨w7.heap.size, 3, none⟩ = some (.int .i64 (b.y)) := cell_later hb (by go_simp)
  have kb4 : w8.cell? ⟨w7.heap.size, 4, none⟩ = some (.int .i64 (b.ra)) := cell_later hb (by go_simp)
  have kb5 : w8.cell? ⟨w7.heap.size, 5, none⟩ = some (.slice pa4 b.ar.length ca4) := cell_later hb (by go_simp)
  have kb6 : w8.cell? ⟨w7.heap.size, 6, none⟩ = some (.int .i64 (b.de)) := cell_later hb (by go_simp)
  have kb7 : w8.cell? ⟨w7.heap.size, 7, none⟩ = some (.int .i64 (b.sy)) := cell_later hb (by go_simp)
  have kb8 : w8.cell? ⟨w7.heap.size, 8, none⟩ = some (.slice ps4 b.se.length cs4) := cell_later hb (by go_simp)
  have kq0 : w8.cell? ⟨w7.heap.size + 1, 0, none⟩ = some (.int .i64 (p1 + v1)) := cell_later hb (by go_simp)
  have kq1 : w8.cell? ⟨w7.heap.size + 1, 1, none⟩ = some (.int .i64 (p2 + v2)) := cell_later hb (by go_simp)
  replace zf : w.heap.size < w8.heap.size := World.block_lt_of_cell? _ _ kf0
  replace zg : w.heap.size + 1 < w8.heap.size := World.block_lt_of_cell? _ _ kg0
  replace zp : w.heap.size + 1 + 1 < w8.heap.size := World.block_lt_of_cell? _ _ kp0
  replace zv : w.heap.size + 1 + 1 + 1 < w8.heap.size := World.block_lt_of_cell? _ _ kv0
  replace za : w6.heap.size < w8.heap.size := World.block_lt_of_cell? _ _ ka0
  have zb : w7.heap.size < w8.heap.size := World.block_lt_of_cell? _ _ kb0
  have zq : w7.heap.size + 1 < w8.heap.size := World.block_lt_of_cell? _ _ kq0
  replace hb0 : Below w.heap.size w w8 := bstep (balloc (balloc hb0 _) _) hb
  clear hb
  clear CR
  go_wp2_with fail
  refine Calls.mono (CC1 _ (HF.out.below hb0)) ?_
  rintro e w9 ⟨rfl, hb⟩
  replace hc7 := bstep hc7 hb
  replace kf0 := cell_later hb kf0
  replace kf1 := cell_later hb kf1
  replace kf2 := cell_later hb kf2
  replace kf3 := cell_later hb kf3
  replace kf4 := cell_later hb kf4
  replace kf5 := cell_later hb kf5
  replace kf6 := cell_later hb kf6
  replace kf7 := cell_later hb kf7
  replace kf8 := cell_later hb kf8
  replace kg0 := cell_later hb kg0
  replace kg1 := cell_later hb kg1
  replace kg2 := cell_later hb kg2
  replace kg3 := cell_later hb kg3
  replace kg4 := cell_later hb kg4
  replace kg5 := cell_later hb kg5
  replace kg6 := cell_later hb kg6
  replace kg7 := cell_later hb kg7
  replace kg8 := cell_later hb kg8
  replace kp0 := cell_later hb kp0
  replace kp1 := cell_later hb kp1
  replace kv0 := cell_later hb kv0
  replace kv1 := cell_later hb kv1
  replace ka0 := cell_later hb ka0
  replace ka1 := cell_later hb ka1
  replace ka2 := cell_later hb ka2
  replace ka3 := cell_later hb ka3
  replace ka4 := cell_later hb ka4
  replace ka5 := cell_later hb ka5
  replace ka6 := cell_later hb ka6
  replace ka7 := cell_later hb ka7
  replace ka8 := cell_later hb ka8
  replace kb0 := cell_later hb kb0
  replace kb1 := cell_later hb kb1
  replace kb2 := cell_later hb kb2
  replace kb3 := cell_later hb kb3
  replace kb4 := cell_later hb kb4
  replace kb5 := cell_later hb kb5
  replace kb6 := cell_later hb kb6
  replace kb7 := cell_later hb kb7
  replace kb8 := cell_later hb kb8
  replace kq0 := cell_later hb kq0
  replace kq1 := cell_later hb kq1
  replace zf : w.heap.size < w9.heap.size := World.block_lt_of_cell? _ _ kf0
  replace zg : w.heap.size + 1 < w9.heap.size := World.block_lt_of_cell? _ _ kg0
  replace zp : w.heap.size + 1 + 1 < w9.heap.size := World.block_lt_of_cell? _ _ kp0
  replace zv : w.heap.size + 1 + 1 + 1 < w9.heap.size := World.block_lt_of_cell? _ _ kv0
  replace za : w6.heap.size < w9.heap.size := World.block_lt_of_cell? _ _ ka0
  replace zb : w7.heap.size < w9.heap.size := World.block_lt_of_cell? _ _ kb0
  replace zq : w7.heap.size + 1 < w9.heap.size := World.block_lt_of_cell? _ _ kq0
  replace hb0 : Below w.heap.size w w9 := bstep hb0 hb
  clear hb
  go_wp2_with fail
  refine Calls.mono (CC2 _ (HA.out.below hc7)) ?_
  rintro e w10 ⟨rfl, hb⟩
  replace hc7 := bstep hc7 hb
  replace kf0 := cell_later hb kf0
  replace kf1 := cell_later hb kf1
  replace kf2 := cell_later hb kf2
  replace kf3 := cell_later hb kf3
  replace kf4 := cell_later hb kf4
  replace kf5 := cell_later hb kf5
  replace kf6 := cell_later hb kf6
  replace kf7 := cell_later hb kf7
  replace kf8 := cell_later hb kf8
  replace kg0 := cell_later hb kg0
  replace kg1 := cell_later hb kg1
  replace kg2 := cell_later hb kg2
  replace kg3 := cell_later hb kg3
  replace kg4 := cell_later hb kg4
  replace kg5 := cell_later hb kg5
  replace kg6 := cell_later hb kg6
  replace kg7 := cell_later hb kg7
  replace kg8 := cell_later hb kg8
  replace kp0 := cell_later hb kp0
  replace kp1 := cell_later hb kp1
  replace kv0 := cell_later hb kv0
  replace kv1 := cell_later hb kv1
  replace ka0 := cell_later hb ka0
  replace ka1 := cell_later hb ka1
  replace ka2 := cell_later hb ka2
  replace ka3 := cell_later hb ka3
  replace ka4 := cell_later hb ka4
  replace ka5 := cell_later hb ka5
  replace ka6 := cell_later hb ka6
  replace ka7 := cell_later hb ka7
  replace ka8 := cell_later hb ka8
  replace kb0 := cell_later hb kb0
  replace kb1 := cell_later hb kb1
  replace kb2 := cell_later hb kb2
  replace kb3 := cell_later hb kb3
  replace kb4 := cell_later hb kb4
  replace kb5 := cell_later hb kb5
  replace kb6 := cell_later hb kb6
  replace kb7 := cell_later hb kb7
  replace kb8 := cell_later hb kb8
  replace kq0 := cell_later hb kq0
  replace kq1 := cell_later hb kq1
  replace zf : w.heap.size < w10.heap.size := World.block_lt_of_cell? _ _ kf0
  replace zg : w.heap.size + 1 < w10.heap.size := World.block_lt_of_cell? _ _ kg0
  replace zp : w.heap.size + 1 + 1 < w10.heap.size := World.block_lt_of_cell? _ _ kp0
  replace zv : w.heap.size + 1 + 1 + 1 < w10.heap.size := World.block_lt_of_cell? _ _ kv0
  replace za : w6.heap.size < w10.heap.size := World.block_lt_of_cell? _ _ ka0
  replace zb : w7.heap.size < w10.heap.size := World.block_lt_of_cell? _ _ kb0
  replace zq : w7.heap.size + 1 < w10.heap.size := World.block_lt_of_cell? _ _ kq0
  replace hb0 : Below w.heap.size w w10 := bstep hb0 hb
  clear hb
  clear CC1 CC2
  go_wp2_with fail
  refine Calls.mono (CH1 _ (HF.out.below hb0) (HG.out.below hb0)) ?_
  rintro e w11 ⟨rfl, hb⟩
  replace hc7 := bstep hc7 hb
  replace kf0 := cell_later hb kf0
  replace kf1 := cell_later hb kf1
  replace kf2 := cell_later hb kf2
  replace kf3 := cell_later hb kf3
  replace kf4 := cell_later hb kf4
  replace kf5 := cell_later hb kf5
  replace kf6 := cell_later hb kf6
  replace kf7 := cell_later hb kf7
  replace kf8 := cell_later hb kf8
  replace kg0 := cell_later hb kg0
  replace kg1 := cell_later hb kg1
  replace kg2 := cell_later hb kg2
  replace kg3 := cell_later hb kg3
  replace kg4 := cell_later hb kg4
  replace kg5 := cell_later hb kg5
  replace kg6 := cell_later hb kg6
  replace kg7 := cell_later hb kg7
  replace kg8 := cell_later hb kg8
  replace kp0 := cell_later hb kp0
  replace kp1 := cell_later hb kp1
  replace kv0 := cell_later hb kv0
  replace kv1 := cell_later hb kv1
  replace ka0 := cell_later hb ka0
  replace ka1 := cell_later hb ka1
  replace ka2 := cell_later hb ka2
  replace ka3 := cell_later hb ka3
  replace ka4 := cell_later hb ka4
  replace ka5 := cell_later hb ka5
  replace ka6 := cell_later hb ka6
  replace ka7 := cell_later hb ka7
  replace ka8 := cell_later hb ka8
  replace kb0 := cell_later hb kb0
  replace kb1 := cell_later hb kb1
  replace kb2 := cell_later hb kb2
  replace kb3 := cell_later hb kb3
  replace kb4 := cell_later hb kb4
  replace kb5 := cell_later hb kb5
  replace kb6 := cell_later hb kb6
  replace kb7 := cell_later hb kb7
  replace kb8 := cell_later hb kb8
  replace kq0 := cell_later hb kq0
  replace kq1 := cell_later hb kq1
  replace zf : w.heap.size < w11.heap.size := World.block_lt_of_cell? _ _ kf0
  replace zg : w.heap.size + 1 < w11.heap.size := World.block_lt_of_cell? _ _ kg0
  replace zp : w.heap.size + 1 + 1 < w11.heap.size := World.block_lt_of_cell? _ _ kp0
  replace zv : w.heap.size + 1 + 1 + 1 < w11.heap.size := World.block_lt_of_cell? _ _ kv0
  replace za : w6.heap.size < w11.heap.size := World.block_lt_of_cell? _ _ ka0
  replace zb : w7.heap.size < w11.heap.size := World.block_lt_of_cell? _ _ kb0
  replace zq : w7.heap.size + 1 < w11.heap.size := World.block_lt_of_cell? _ _ kq0
  replace hb0 : Below w.heap.size w w11 := bstep hb0 hb
  clear hb
  go_wp2_with fail
  refine Calls.mono (CH2 _ (HA.out.below hc7) (HB.out.below hc7)) ?_
  rintro e w12 ⟨rfl, hb⟩
  replace hc7 := bstep hc7 hb
  replace kf0 := cell_later hb kf0
  replace kf1 := cell_later hb kf1
  replace kf2 := cell_later hb kf2
  replace kf3 := cell_later hb kf3
  replace kf4 := cell_later hb kf4
  replace kf5 := cell_later hb kf5
  replace kf6 := cell_later hb kf6
  replace kf7 := cell_later hb kf7
  replace kf8 := cell_later hb kf8
  replace kg0 := cell_later hb kg0
  replace kg1 := cell_later hb kg1
  replace kg2 := cell_later hb kg2
  replace kg3 := cell_later hb kg3
  replace kg4 := cell_later hb kg4
  replace kg5 := cell_later hb kg5
  replace kg6 := cell_later hb kg6
  replace kg7 := cell_later hb kg7
  replace kg8 := cell_later hb kg8
  replace kp0 := cell_later hb kp0
  replace kp1 := cell_later hb kp1
  replace kv0 := cell_later hb kv0
  replace kv1 := cell_later hb kv1
  replace ka0 := cell_later hb ka0
  replace ka1 := cell_later hb ka1
  replace ka2 := cell_later hb ka2
  replace ka3 := cell_later hb ka3
  replace ka4 := cell_later hb ka4
  replace ka5 := cell_later hb ka5
  replace ka6 := cell_later hb ka6
  replace ka7 := cell_later hb ka7
  replace ka8 := cell_later hb ka8
  replace kb0 := cell_later hb kb0
  replace kb1 := cell_later hb kb1
  replace kb2 := cell_later hb kb2
  replace kb3 := cell_later hb kb3
  replace kb4 := cell_later hb kb4
  replace kb5 := cell_later hb kb5
  replace kb6 := cell_later hb kb6
  replace kb7 := cell_later hb kb7
  replace kb8 := cell_later hb kb8
  replace kq0 := cell_later hb kq0
  replace kq1 := cell_later hb kq1
  replace zf : w.heap.size < w12.heap.size := World.block_lt_of_cell? _ _ kf0
  replace zg : w.heap.size + 1 < w12.heap.size := World.block_lt_of_cell? _ _ kg0
  replace zp : w.heap.size + 1 + 1 < w12.heap.size := World.block_lt_of_cell? _ _ kp0
  replace zv : w.heap.size + 1 + 1 + 1 < w12.heap.size := World.block_lt_of_cell? _ _ kv0
  replace za : w6.heap.size < w12.heap.size := World.block_lt_of_cell? _ _ ka0
  replace zb : w7.heap.size < w12.heap.size := World.block_lt_of_cell? _ _ kb0
  replace zq : w7.heap.size + 1 < w12.heap.size := World.block_lt_of_cell? _ _ kq0
  replace hb0 : Below w.heap.size w w12 := bstep hb0 hb
  clear hb
  clear CH1 CH2
  go_wp2_with fail
  refine Calls.mono (CS1 _ (HF.out.below hb0) (HG.out.below hb0)) ?_
  rintro e w13 ⟨rfl, hb⟩
  replace hc7 := bstep hc7 hb
  replace kf0 := cell_later hb kf0
  replace kf1 := cell_later hb kf1
  replace kf2 := cell_later hb kf2
  replace kf3 := cell_later hb kf3
  replace kf4 := cell_later hb kf4
  replace kf5 := cell_later hb kf5
  replace kf6 := cell_later hb kf6
  replace kf7 := cell_later hb kf7
  replace kf8 := cell_later hb kf8
  replace kg0 := cell_later hb kg0
  replace kg1 := cell_later hb kg1
  replace kg2 := cell_later hb kg2
  replace kg3 := cell_later hb kg3
  replace kg4 := cell_later hb kg4
  replace kg5 := cell_later hb kg5
  replace kg6 := cell_later hb kg6
  replace kg7 := cell_later hb kg7
  replace kg8 := cell_later hb kg8
  replace kp0 := cell_later hb kp0
  replace kp1 := cell_later hb kp1
  replace kv0 := cell_later hb kv0
  replace kv1 := cell_later hb kv1
  replace ka0 := cell_later hb ka0
  replace ka1 := cell_later hb ka1
  replace ka2 := cell_later hb ka2
  replace ka3 := cell_later hb ka3
  replace ka4 := cell_later hb ka4
  replace ka5 := cell_later hb ka5
  replace ka6 := cell_later hb ka6
  replace ka7 := cell_later hb ka7
  replace ka8 := cell_later hb ka8
  replace kb0 := cell_later hb kb0
  replace kb1 := cell_later hb kb1
  replace kb2 := cell_later hb kb2
  replace kb3 := cell_later hb kb3
  replace kb4 := cell_later hb kb4
  replace kb5 := cell_later hb kb5
  replace kb6 := cell_later hb kb6
  replace kb7 := cell_later hb kb7
  replace kb8 := cell_later hb kb8
  replace kq0 := cell_later hb kq0
  replace kq1 := cell_later hb kq1
  replace zf : w.heap.size < w13.heap.size := World.block_lt_of_cell? _ _ kf0
  replace zg : w.heap.size + 1 < w13.heap.size := World.block_lt_of_cell? _ _ kg0
  replace zp : w.heap.size + 1 + 1 < w13.heap.size := World.block_lt_of_cell? _ _ kp0
  replace zv : w.heap.size + 1 + 1 + 1 < w13.heap.size := World.block_lt_of_cell? _ _ kv0
  replace za : w6.heap.size < w13.heap.size := World.block_lt_of_cell? _ _ ka0
  replace zb : w7.heap.size < w13.heap.size := World.block_lt_of_cell? _ _ kb0
  replace zq : w7.heap.size + 1 < w13.heap.size := World.block_lt_of_cell? _ _ kq0
  replace hb0 : Below w.heap.size w w13 := bstep hb0 hb
  clear hb
  go_wp2_with fail
  refine Calls.mono (CS2 _ (HA.out.below hc7) (HB.out.below hc7)) ?_
  rintro e w14 ⟨rfl, hb⟩
  replace hc7 := bstep hc7 hb
  replace kf0 := cell_later hb kf0
  replace kf1 := cell_later hb kf1
  replace kf2 := cell_later hb kf2
  replace kf3 := cell_later hb kf3
  replace kf4 := cell_later hb kf4
  replace kf5 := cell_later hb kf5
  replace kf6 := cell_later hb kf6
  replace kf7 := cell_later hb kf7
  replace kf8 := cell_later hb kf8
  replace kg0 := cell_later hb kg0
  replace kg1 := cell_later hb kg1
  replace kg2 := cell_later hb kg2
  replace kg3 := cell_later hb kg3
  replace kg4 := cell_later hb kg4
  replace kg5 := cell_later hb kg5
  replace kg6 := cell_later hb kg6
  replace kg7 := cell_later hb kg7
  replace kg8 := cell_later hb kg8
  replace kp0 := cell_later hb kp0
  replace kp1 := cell_later hb kp1
  replace kv0 := cell_later hb kv0
  replace kv1 := cell_later hb kv1
  replace ka0 := cell_later hb ka0
  replace ka1 := cell_later hb ka1
  replace ka2 := cell_later hb ka2
  replace ka3 := cell_later hb ka3
  replace ka4 := cell_later hb ka4
  replace ka5 := cell_later hb ka5
  replace ka6 := cell_later hb ka6
  replace ka7 := cell_later hb ka7
  replace ka8 := cell_later hb ka8
  replace kb0 := cell_later hb kb0
  replace kb1 := cell_later hb kb1
  replace kb2 := cell_later hb kb2
  replace kb3 := cell_later hb kb3
  replace kb4 := cell_later hb kb4
  replace kb5 := cell_later hb kb5
  replace kb6 := cell_later hb kb6
  replace kb7 := cell_later hb kb7
  replace kb8 := cell_later hb kb8
  replace kq0 := cell_later hb kq0
  replace kq1 := cell_later hb kq1
  replace zf : w.heap.size < w14.heap.size := World.block_lt_of_cell? _ _ kf0
  replace zg : w.heap.size + 1 < w14.heap.size := World.block_lt_of_cell? _ _ kg0
  replace zp : w.heap.size + 1 + 1 < w14.heap.size := World.block_lt_of_cell? _ _ kp0
  replace zv : w.heap.size + 1 + 1 + 1 < w14.heap.size := World.block_lt_of_cell? _ _ kv0
  replace za : w6.heap.size < w14.heap.size := World.block_lt_of_cell? _ _ ka0
  replace zb : w7.heap.size < w14.heap.size := World.block_lt_of_cell? _ _ kb0
  replace zq : w7.heap.size + 1 < w14.heap.size := World.block_lt_of_cell? _ _ kq0
  replace hb0 : Below w.heap.size w w14 := bstep hb0 hb
  clear hb
  clear CS1 CS2
  go_wp2_with fail
  refine Calls.mono (CT1 _ (HF.out.below hb0) (HG.out.below hb0)) ?_
  rintro e w15 ⟨rfl, hb⟩
  replace hc7 := bstep hc7 hb
  replace kf0 := cell_later hb kf0
  replace kf1 := cell_later hb kf1
  replace kf2 := cell_later hb kf2
  replace kf3 := cell_later hb kf3
  replace kf4 := cell_later hb kf4
  replace kf5 := cell_later hb kf5
  replace kf6 := cell_later hb kf6
  replace kf7 := cell_later hb kf7
  replace kf8 := cell_later hb kf8
  replace kg0 := cell_later hb kg0
  replace kg1 := cell_later hb kg1
  replace kg2 := cell_later hb kg2
  replace kg3 := cell_later hb kg3
  replace kg4 := cell_later hb kg4
  replace kg5 := cell_later hb kg5
  replace kg6 := cell_later hb kg6
  replace kg7 := cell_later hb kg7
  replace kg8 := cell_later hb kg8
  replace kp0 := cell_later hb kp0
  replace kp1 := cell_later hb kp1
  replace kv0 := cell_later hb kv0
  replace kv1 := cell_later hb kv1
  replace ka0 := cell_later hb ka0
  replace ka1 := cell_later hb ka1
  replace ka2 := cell_later hb ka2
  replace ka3 := cell_later hb ka3
  replace ka4 := cell_later hb ka4
  replace ka5 := cell_later hb ka5
  replace ka6 := cell_later hb ka6
  replace ka7 := cell_later hb ka7
  replace ka8 := cell_later hb ka8
  replace kb0 := cell_later hb kb0
  replace kb1 := cell_later hb kb1
  replace kb2 := cell_later hb kb2
  replace kb3 := cell_later hb kb3
  replace kb4 := cell_later hb kb4
  replace kb5 := cell_later hb kb5
  replace kb6 := cell_later hb kb6
  replace kb7 := cell_later hb kb7
  replace kb8 := cell_later hb kb8
  replace kq0 := cell_later hb kq0
  replace kq1 := cell_later hb kq1
  replace zf : w.heap.size < w15.heap.size := World.block_lt_of_cell? _ _ kf0
  replace zg : w.heap.size + 1 < w15.heap.size := World.block_lt_of_cell? _ _ kg0
  replace zp : w.heap.size + 1 + 1 < w15.heap.size := World.block_lt_of_cell? _ _ kp0
  replace zv : w.heap.size + 1 + 1 + 1 < w15.heap.size := World.block_lt_of_cell? _ _ kv0
  replace za : w6.heap.size < w15.heap.size := World.block_lt_of_cell? _ _ ka0
  replace zb : w7.heap.size < w15.heap.size := World.block_lt_of_cell? _ _ kb0
  replace zq : w7.heap.size + 1 < w15.heap.size := World.block_lt_of_cell? _ _ kq0
  replace hb0 : Below w.heap.size w w15 := bstep hb0 hb
  clear hb
  go_wp2_with fail
  refine Calls.mono (CT2 _ (HA.out.below hc7) (HB.out.below hc7)) ?_
  rintro e w16 ⟨rfl, hb⟩
  replace hc7 := bstep hc7 hb
  replace kf0 := cell_later hb kf0
  replace kf1 := cell_later hb kf1
  replace kf2 := cell_later hb kf2
  replace kf3 := cell_later hb kf3
  replace kf4 := cell_later hb kf4
  replace kf5 := cell_later hb kf5
  replace kf6 := cell_later hb kf6
  replace kf7 := cell_later hb kf7
  replace kf8 := cell_later hb kf8
  replace kg0 := cell_later hb kg0
  replace kg1 := cell_later hb kg1
  replace kg2 := cell_later hb kg2
  replace kg3 := cell_later hb kg3
  replace kg4 := cell_later hb kg4
  replace kg5 := cell_later hb kg5
  replace kg6 := cell_later hb kg6
  replace kg7 := cell_later hb kg7
  replace kg8 := cell_later hb kg8
  replace kp0 := cell_later hb kp0
  replace kp1 := cell_later hb kp1
  replace kv0 := cell_later hb kv0
  replace kv1 := cell_later hb kv1
  replace ka0 := cell_later hb ka0
  replace ka1 := cell_later hb ka1
  replace ka2 := cell_later hb ka2
  replace ka3 := cell_later hb ka3
  replace ka4 := cell_later hb ka4
  replace ka5 := cell_later hb ka5
  replace ka6 := cell_later hb ka6
  replace ka7 := cell_later hb ka7
  replace ka8 := cell_later hb ka8
  replace kb0 := cell_later hb kb0
  replace kb1 := cell_later hb kb1
  replace kb2 := cell_later hb kb2
  replace kb3 := cell_later hb kb3
  replace kb4 := cell_later hb kb4
  replace kb5 := cell_later hb kb5
  replace kb6 := cell_later hb kb6
  replace kb7 := cell_later hb kb7
  replace kb8 := cell_later hb kb8
  replace kq0 := cell_later hb kq0
  replace kq1 := cell_later hb kq1
  replace zf : w.heap.size < w16.heap.size := World.block_lt_of_cell? _ _ kf0
  replace zg : w.heap.size + 1 < w16.heap.size := World.block_lt_of_cell? _ _ kg0
  replace zp : w.heap.size + 1 + 1 < w16.heap.size := World.block_lt_of_cell? _ _ kp0
  replace zv : w.heap.size + 1 + 1 + 1 < w16.heap.size := World.block_lt_of_cell? _ _ kv0
  replace za : w6.heap.size < w16.heap.size := World.block_lt_of_cell? _ _ ka0
  replace zb : w7.heap.size < w16.heap.size := World.block_lt_of_cell? _ _ kb0
  replace zq : w7.heap.size + 1 < w16.heap.size := World.block_lt_of_cell? _ _ kq0
  replace hb0 : Below w.heap.size w w16 := bstep hb0 hb
  clear hb
  clear CT1 CT2
  go_wp2_with fail
  refine Calls.mono (CX1 _ (HF.out.below hb0)) ?_
  rintro e w17 ⟨rfl, hb⟩
  replace hc7 := bstep hc7 hb
  replace kf0 := cell_later hb kf0
  replace kf1 := cell_later hb kf1
  replace kf2 := cell_later hb kf2
  replace kf3 := cell_later hb kf3
  replace kf4 := cell_later hb kf4
  replace kf5 := cell_later hb kf5
  replace kf6 := cell_later hb kf6
  replace kf7 := cell_later hb kf7
  replace kf8 := cell_later hb kf8
  replace kg0 := cell_later hb kg0
  replace kg1 := cell_later hb kg1
  replace kg2 := cell_later hb kg2
  replace kg3 := cell_later hb kg3
  replace kg4 := cell_later hb kg4
  replace kg5 := cell_later hb kg5
  replace kg6 := cell_later hb kg6
  replace kg7 := cell_later hb kg7
  replace kg8 := cell_later hb kg8
  replace kp0 := cell_later hb kp0
  replace kp1 := cell_later hb kp1
  replace kv0 := cell_later hb kv0
  replace kv1 := cell_later hb kv1
  replace ka0 := cell_later hb ka0
  replace ka1 := cell_later hb ka1
  replace ka2 := cell_later hb ka2
  replace ka3 := cell_later hb ka3
  replace ka4 := cell_later hb ka4
  replace ka5 := cell_later hb ka5
  replace ka6 := cell_later hb ka6
  replace ka7 := cell_later hb ka7
  replace ka8 := cell_later hb ka8
  replace kb0 := cell_later hb kb0
  replace kb1 := cell_later hb kb1
  replace kb2 := cell_later hb kb2
  replace kb3 := cell_later hb kb3
  replace kb4 := cell_later hb kb4
  replace kb5 := cell_later hb kb5
  replace kb6 := cell_later hb kb6
  replace kb7 := cell_later hb kb7
  replace kb8 := cell_later hb kb8
  replace kq0 := cell_later hb kq0
  replace kq1 := cell_later hb kq1
  replace zf : w.heap.size < w17.heap.size := World.block_lt_of_cell? _ _ kf0
  replace zg : w.heap.size + 1 < w17.heap.size := World.block_lt_of_cell? _ _ kg0
  replace zp : w.heap.size + 1 + 1 < w17.heap.size := World.block_lt_of_cell? _ _ kp0
  replace zv : w.heap.size + 1 + 1 + 1 < w17.heap.size := World.block_lt_of_cell? _ _ kv0
  replace za : w6.heap.size < w17.heap.size := World.block_lt_of_cell? _ _ ka0
  replace zb : w7.heap.size < w17.heap.size := World.block_lt_of_cell? _ _ kb0
  replace zq : w7.heap.size + 1 < w17.heap.size := World.block_lt_of_cell? _ _ kq0
  replace hb0 : Below w.heap.size w w17 := bstep hb0 hb
  clear hb
  go_wp2_with fail
  refine Calls.mono (CX2 _ (HA.out.below (balloc hc7 _))) ?_
  rintro e w18 ⟨rfl, hb⟩
  replace hc7 := bstep (balloc hc7 _) hb
  replace kf0 := cell_later hb (cell_al _ kf0)
  replace kf1 := cell_later hb (cell_al _ kf1)
  replace kf2 := cell_later hb (cell_al _ kf2)
  replace kf3 := cell_later hb (cell_al _ kf3)
  replace kf4 := cell_later hb (cell_al _ kf4)
  replace kf5 := cell_later hb (cell_al _ kf5)
  replace kf6 := cell_later hb (cell_al _ kf6)
  replace kf7 := cell_later hb (cell_al _ kf7)
  replace kf8 := cell_later hb (cell_al _ kf8)
  replace kg0 := cell_later hb (cell_al _ kg0)
  replace kg1 := cell_later hb (cell_al _ kg1)
  replace kg2 := cell_later hb (cell_al _ kg2)
  replace kg3 := cell_later hb (cell_al _ kg3)
  replace kg4 := cell_later hb (cell_al _ kg4)
  replace kg5 := cell_later hb (cell_al _ kg5)
  replace kg6 := cell_later hb (cell_al _ kg6)
  replace kg7 := cell_later hb (cell_al _ kg7)
  replace kg8 := cell_later hb (cell_al _ kg8)
  replace kp0 := cell_later hb (cell_al _ kp0)
  replace kp1 := cell_later hb (cell_al _ kp1)
  replace kv0 := cell_later hb (cell_al _ kv0)
  replace kv1 := cell_later hb (cell_al _ kv1)
  replace ka0 := cell_later hb (cell_al _ ka0)
  replace ka1 := cell_later hb (cell_al _ ka1)
  replace ka2 := cell_later hb (cell_al _ ka2)
  replace ka3 := cell_later hb (cell_al _ ka3)
  replace ka4 := cell_later hb (cell_al _ ka4)
  replace ka5 := cell_later hb (cell_al _ ka5)
  replace ka6 := cell_later hb (cell_al _ ka6)
  replace ka7 := cell_later hb (cell_al _ ka7)
  replace ka8 := cell_later hb (cell_al _ ka8)
  replace kb0 := cell_later hb (cell_al _ kb0)
  replace kb1 := cell_later hb (cell_al _ kb1)
  replace kb2 := cell_later hb (cell_al _ kb2)
  replace kb3 := cell_later hb (cell_al _ kb3)
  replace kb4 := cell_later hb (cell_al _ kb4)
  replace kb5 := cell_later hb (cell_al _ kb5)
  replace kb6 := cell_later hb (cell_al _ kb6)
  replace kb7 := cell_later hb (cell_al _ kb7)
  replace kb8 := cell_later hb (cell_al _ kb8)
  replace kq0 := cell_later hb (cell_al _ kq0)
  replace kq1 := cell_later hb (cell_al _ kq1)
  have kx0 : w18.cell? ⟨w17.heap.size, 0, none⟩ = some (.int .i64 z1) := cell_later hb (by go_simp)
  have kx1 : w18.cell? ⟨w17.heap.size, 1, none⟩ = some (.int .i64 z2) := cell_later hb (by go_simp)
  have kx2 : w18.cell? ⟨w17.heap.size, 2, none⟩ = some (.int .i64 z3) := cell_later hb (by go_simp)
  have kx3 : w18.cell? ⟨w17.heap.size, 3, none⟩ = some (.int .i64 z4) := cell_later hb (by go_simp)
  replace zf : w.heap.size < w18.heap.size := World.block_lt_of_cell? _ _ kf0
  replace zg : w.heap.size + 1 < w18.heap.size := World.block_lt_of_cell? _ _ kg0
  replace zp : w.heap.size + 1 + 1 < w18.heap.size := World.block_lt_of_cell? _ _ kp0
  replace zv : w.heap.size + 1 + 1 + 1 < w18.heap.size := World.block_lt_of_cell? _ _ kv0
  replace za : w6.heap.size < w18.heap.size := World.block_lt_of_cell? _ _ ka0
  replace zb : w7.heap.size < w18.heap.size := World.block_lt_of_cell? _ _ kb0
  replace zq : w7.heap.size + 1 < w18.heap.size := World.block_lt_of_cell? _ _ kq0
  have zx : w17.heap.size < w18.heap.size := World.block_lt_of_cell? _ _ kx0
  replace hb0 : Below w.heap.size w w18 := bstep (balloc hb0 _) hb
  clear hb
  clear CX1 CX2
  go_wp2
  go_ret
  exact ⟨rfl, (by repeat (first | with_reducible exact Below.refl _ _ | with_reducible assumption | with_reducible refine Below.setCell ?_ (by first | omega | (simp <;> omega)) _ | with_reducible refine balloc ?_ _ | with_reducible refine Below.drew ?_ | with_reducible refine bstep ?_ (by with_reducible assumption)))⟩

end Go.Proofs.YtfgajejhjbfhjaaGreat.Fe

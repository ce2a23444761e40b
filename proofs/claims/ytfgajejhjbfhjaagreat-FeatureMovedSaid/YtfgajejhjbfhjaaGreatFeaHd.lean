/- FeaHd: the examples hold. -/
import Derived.Test.YtfgajejhjbfhjaaGreatFeaZ
import Derived.Test.YtfgajejhjbfhjaaGreatRows
import Derived.WalkKit
import Derived.WalkSpells
import Derived.WalkLawsBesides
import Derived.Lib.Hide
import Derived.Deep.QuietTactic
import Derived.BigQuiet
import Derived.RegionTactic
import Derived.ChangeAlike
import Derived.BigRegion
import Derived.Deep.RegionHeld3
import Derived.Deep.RegionWith
import Derived.Outline
import Derived.IntWalk
import Derived.Deep.DeepCutAuto
namespace Go.Proofs.YtfgajejhjbfhjaaGreat.Fe
open Go.RowKit
set_option linter.unusedSimpArgs false
set_option linter.unusedVariables false

set_option maxRecDepth 100000 in
set_option maxHeartbeats 6400000 in
theorem head_c (w : World) : Calls Tryz.prog 11 #[] w (Ret w (.bool true)) := by
  go_enter Tryz.func11, Tryz.ntmps11
  go_wp2_with fail
  refine Calls.mono (ldisc_c 1 2 0 0 10 50 _) ?_
  rintro e w1 ⟨rfl, hb⟩
  have hb0 : Below w.heap.size w w1 := bstep (Below.refl _ _) hb
  clear hb
  go_wp2_with fail
  refine Calls.mono (ldisc_c 2 1 3 4 5 60 _) ?_
  rintro e w2 ⟨rfl, hb⟩
  have kd0 : w2.cell? ⟨w1.heap.size, 0, none⟩ = some (.int .i64 1) := cell_later hb (by go_simp)
  have kd1 : w2.cell? ⟨w1.heap.size, 1, none⟩ = some (.int .i64 2) := cell_later hb (by go_simp)
  have kd2 : w2.cell? ⟨w1.heap.size, 2, none⟩ = some (.int .i64 0) := cell_later hb (by go_simp)
  have kd3 : w2.cell? ⟨w1.heap.size, 3, none⟩ = some (.int .i64 0) := cell_later hb (by go_simp)
  have kd4 : w2.cell? ⟨w1.heap.size, 4, none⟩ = some (.int .i64 10) := cell_later hb (by go_simp)
  have kd5 : w2.cell? ⟨w1.heap.size, 5, none⟩ = some (.slice none 0 0) := cell_later hb (by go_simp)
  have kd6 : w2.cell? ⟨w1.heap.size, 6, none⟩ = some (.int .i64 50) := cell_later hb (by go_simp)
  have kd7 : w2.cell? ⟨w1.heap.size, 7, none⟩ = some (.int .i64 0) := cell_later hb (by go_simp)
  have kd8 : w2.cell? ⟨w1.heap.size, 8, none⟩ = some (.slice none 0 0) := cell_later hb (by go_simp)
  have zd : w1.heap.size < w2.heap.size := World.block_lt_of_cell? _ _ kd0
  replace hb0 : Below w.heap.size w w2 := bstep (balloc hb0 _) hb
  clear hb
  have zd1 : w1.heap.size < w2.heap.size + 1 := by omega
  have zd2 : w1.heap.size < w2.heap.size + 1 + 1 := by omega
  have zd3 : w1.heap.size < w2.heap.size + 1 + 1 + 1 := by omega
  have yd0 : ¬ (w1.heap.size = w2.heap.size) := by omega
  have yd1 : ¬ (w1.heap.size = w2.heap.size + 1) := by omega
  have yd2 : ¬ (w1.heap.size = w2.heap.size + 1 + 1) := by omega
  have yd3 : ¬ (w1.heap.size = w2.heap.size + 1 + 1 + 1) := by omega
  go_wp2_with fail
  refine Calls.mono (co_1 _) ?_
  rintro e w3 ⟨rfl, hb⟩
  replace kd0 := cell_later hb (cell_al _ (cell_al _ (cell_al _ kd0)))
  replace kd1 := cell_later hb (cell_al _ (cell_al _ (cell_al _ kd1)))
  replace kd2 := cell_later hb (cell_al _ (cell_al _ (cell_al _ kd2)))
  replace kd3 := cell_later hb (cell_al _ (cell_al _ (cell_al _ kd3)))
  replace kd4 := cell_later hb (cell_al _ (cell_al _ (cell_al _ kd4)))
  replace kd5 := cell_later hb (cell_al _ (cell_al _ (cell_al _ kd5)))
  replace kd6 := cell_later hb (cell_al _ (cell_al _ (cell_al _ kd6)))
  replace kd7 := cell_later hb (cell_al _ (cell_al _ (cell_al _ kd7)))
  replace kd8 := cell_later hb (cell_al _ (cell_al _ (cell_al _ kd8)))
  have ke0 : w3.cell? ⟨w2.heap.size, 0, none⟩ = some (.int .i64 2) := cell_later hb (by go_simp)
  have ke1 : w3.cell? ⟨w2.heap.size, 1, none⟩ = some (.int .i64 1) := cell_later hb (by go_simp)
  have ke2 : w3.cell? ⟨w2.heap.size, 2, none⟩ = some (.int .i64 3) := cell_later hb (by go_simp)
  have ke3 : w3.cell? ⟨w2.heap.size, 3, none⟩ = some (.int .i64 4) := cell_later hb (by go_simp)
  have ke4 : w3.cell? ⟨w2.heap.size, 4, none⟩ = some (.int .i64 5) := cell_later hb (by go_simp)
  have ke5 : w3.cell? ⟨w2.heap.size, 5, none⟩ = some (.slice none 0 0) := cell_later hb (by go_simp)
  have ke6 : w3.cell? ⟨w2.heap.size, 6, none⟩ = some (.int .i64 60) := cell_later hb (by go_simp)
  have ke7 : w3.cell? ⟨w2.heap.size, 7, none⟩ = some (.int .i64 0) := cell_later hb (by go_simp)
  have ke8 : w3.cell? ⟨w2.heap.size, 8, none⟩ = some (.slice none 0 0) := cell_later hb (by go_simp)
  have ks0 : w3.cell? ⟨w2.heap.size + 1, 0, none⟩ = some (.int .i64 (-20)) := cell_later hb (by go_simp)
  have ks1 : w3.cell? ⟨w2.heap.size + 1, 1, none⟩ = some (.int .i64 (-20)) := cell_later hb (by go_simp)
  have ks2 : w3.cell? ⟨w2.heap.size + 1, 2, none⟩ = some (.int .i64 20) := cell_later hb (by go_simp)
  have ks3 : w3.cell? ⟨w2.heap.size + 1, 3, none⟩ = some (.int .i64 (-20)) := cell_later hb (by go_simp)
  have ks4 : w3.cell? ⟨w2.heap.size + 1, 4, none⟩ = some (.int .i64 20) := cell_later hb (by go_simp)
  have ks5 : w3.cell? ⟨w2.heap.size + 1, 5, none⟩ = some (.int .i64 20) := cell_later hb (by go_simp)
  have ks6 : w3.cell? ⟨w2.heap.size + 1, 6, none⟩ = some (.int .i64 (-20)) := cell_later hb (by go_simp)
  have ks7 : w3.cell? ⟨w2.heap.size + 1, 7, none⟩ = some (.int .i64 20) := cell_later hb (by go_simp)
  have ka0 : w3.cell? ⟨w2.heap.size + 1 + 1, 0, none⟩ = some (.int .i64 3) := cell_later hb (by go_simp)
  have ka1 : w3.cell? ⟨w2.heap.size + 1 + 1, 1, none⟩ = some (.int .i64 3) := cell_later hb (by go_simp)
  have ka2 : w3.cell? ⟨w2.heap.size + 1 + 1, 2, none⟩ = some (.int .i64 0) := cell_later hb (by go_simp)
  have ka3 : w3.cell? ⟨w2.heap.size + 1 + 1, 3, none⟩ = some (.int .i64 0) := cell_later hb (by go_simp)
  have ka4 : w3.cell? ⟨w2.heap.size + 1 + 1, 4, none⟩ = some (.int .i64 0) := cell_later hb (by go_simp)
  have ka5 : w3.cell? ⟨w2.heap.size + 1 + 1, 5, none⟩ = some (.slice (some ⟨w2.heap.size + 1, 0, none⟩) 4 4) := cell_later hb (by go_simp)
  have ka6 : w3.cell? ⟨w2.heap.size + 1 + 1, 6, none⟩ = some (.int .i64 40) := cell_later hb (by go_simp)
  have ka7 : w3.cell? ⟨w2.heap.size + 1 + 1, 7, none⟩ = some (.int .i64 0) := cell_later hb (by go_simp)
  have ka8 : w3.cell? ⟨w2.heap.size + 1 + 1, 8, none⟩ = some (.slice none 0 0) := cell_later hb (by go_simp)
  replace zd : w1.heap.size < w3.heap.size := World.block_lt_of_cell? _ _ kd0
  have ze : w2.heap.size < w3.heap.size := World.block_lt_of_cell? _ _ ke0
  have zs : w2.heap.size + 1 < w3.heap.size := World.block_lt_of_cell? _ _ ks0
  have za : w2.heap.size + 1 + 1 < w3.heap.size := World.block_lt_of_cell? _ _ ka0
  replace hb0 : Below w.heap.size w w3 := bstep (balloc (balloc (balloc hb0 _) _) _) hb
  clear hb
  go_wp2_with fail
  refine Calls.mono (co_2 _) ?_
  rintro e w4 ⟨rfl, hb⟩
  replace kd0 := cell_later hb kd0
  replace kd1 := cell_later hb kd1
  replace kd2 := cell_later hb kd2
  replace kd3 := cell_later hb kd3
  replace kd4 := cell_later hb kd4
  replace kd5 := cell_later hb kd5
  replace kd6 := cell_later hb kd6
  replace kd7 := cell_later hb kd7
  replace kd8 := cell_later hb kd8
  replace ke0 := cell_later hb ke0
  replace ke1 := cell_later hb ke1
  replace ke2 := cell_later hb ke2
  replace ke3 := cell_later hb ke3
  replace ke4 := cell_later hb ke4
  replace ke5 := cell_later hb ke5
  replace ke6 := cell_later hb ke6
  replace ke7 := cell_later hb ke7
  replace ke8 := cell_later hb ke8
  replace ks0 := cell_later hb ks0
  replace ks1 := cell_later hb ks1
  replace ks2 := cell_later hb ks2
  replace ks3 := cell_later hb ks3
  replace ks4 := cell_later hb ks4
  replace ks5 := cell_later hb ks5
  replace ks6 := cell_later hb ks6
  replace ks7 := cell_later hb ks7
  replace ka0 := cell_later hb ka0
  replace ka1 := cell_later hb ka1
  replace ka2 := cell_later hb ka2
  replace ka3 := cell_later hb ka3
  replace ka4 := cell_later hb ka4
  replace ka5 := cell_later hb ka5
  replace ka6 := cell_later hb ka6
  replace ka7 := cell_later hb ka7
  replace ka8 := cell_later hb ka8
  replace zd : w1.heap.size < w4.heap.size := World.block_lt_of_cell? _ _ kd0
  replace ze : w2.heap.size < w4.heap.size := World.block_lt_of_cell? _ _ ke0
  replace zs : w2.heap.size + 1 < w4.heap.size := World.block_lt_of_cell? _ _ ks0
  replace za : w2.heap.size + 1 + 1 < w4.heap.size := World.block_lt_of_cell? _ _ ka0
  replace hb0 : Below w.heap.size w w4 := bstep hb0 hb
  clear hb
  go_wp2_with fail
  refine Calls.mono (ho_de _) ?_
  rintro e w5 ⟨rfl, hb⟩
  replace kd0 := cell_later hb kd0
  replace kd1 := cell_later hb kd1
  replace kd2 := cell_later hb kd2
  replace kd3 := cell_later hb kd3
  replace kd4 := cell_later hb kd4
  replace kd5 := cell_later hb kd5
  replace kd6 := cell_later hb kd6
  replace kd7 := cell_later hb kd7
  replace kd8 := cell_later hb kd8
  replace ke0 := cell_later hb ke0
  replace ke1 := cell_later hb ke1
  replace ke2 := cell_later hb ke2
  replace ke3 := cell_later hb ke3
  replace ke4 := cell_later hb ke4
  replace ke5 := cell_later hb ke5
  replace ke6 := cell_later hb ke6
  replace ke7 := cell_later hb ke7
  replace ke8 := cell_later hb ke8
  replace ks0 := cell_later hb ks0
  replace ks1 := cell_later hb ks1
  replace ks2 := cell_later hb ks2
  replace ks3 := cell_later hb ks3
  replace ks4 := cell_later hb ks4
  replace ks5 := cell_later hb ks5
  replace ks6 := cell_later hb ks6
  replace ks7 := cell_later hb ks7
  replace ka0 := cell_later hb ka0
  replace ka1 := cell_later hb ka1
  replace ka2 := cell_later hb ka2
  replace ka3 := cell_later hb ka3
  replace ka4 := cell_later hb ka4
  replace ka5 := cell_later hb ka5
  replace ka6 := cell_later hb ka6
  replace ka7 := cell_later hb ka7
  replace ka8 := cell_later hb ka8
  replace zd : w1.heap.size < w5.heap.size := World.block_lt_of_cell? _ _ kd0
  replace ze : w2.heap.size < w5.heap.size := World.block_lt_of_cell? _ _ ke0
  replace zs : w2.heap.size + 1 < w5.heap.size := World.block_lt_of_cell? _ _ ks0
  replace za : w2.heap.size + 1 + 1 < w5.heap.size := World.block_lt_of_cell? _ _ ka0
  replace hb0 : Below w.heap.size w w5 := bstep hb0 hb
  clear hb
  go_wp2_with fail
  refine Calls.mono (ho_ed _) ?_
  rintro e w6 ⟨rfl, hb⟩
  replace kd0 := cell_later hb kd0
  replace kd1 := cell_later hb kd1
  replace kd2 := cell_later hb kd2
  replace kd3 := cell_later hb kd3
  replace kd4 := cell_later hb kd4
  replace kd5 := cell_later hb kd5
  replace kd6 := cell_later hb kd6
  replace kd7 := cell_later hb kd7
  replace kd8 := cell_later hb kd8
  replace ke0 := cell_later hb ke0
  replace ke1 := cell_later hb ke1
  replace ke2 := cell_later hb ke2
  replace ke3 := cell_later hb ke3
  replace ke4 := cell_later hb ke4
  replace ke5 := cell_later hb ke5
  replace ke6 := cell_later hb ke6
  replace ke7 := cell_later hb ke7
  replace ke8 := cell_later hb ke8
  replace ks0 := cell_later hb ks0
  replace ks1 := cell_later hb ks1
  replace ks2 := cell_later hb ks2
  replace ks3 := cell_later hb ks3
  replace ks4 := cell_later hb ks4
  replace ks5 := cell_later hb ks5
  replace ks6 := cell_later hb ks6
  replace ks7 := cell_later hb ks7
  replace ka0 := cell_later hb ka0
  replace ka1 := cell_later hb ka1
  replace ka2 := cell_later hb ka2
  replace ka3 := cell_later hb ka3
  replace ka4 := cell_later hb ka4
  replace ka5 := cell_later hb ka5
  replace ka6 := cell_later hb ka6
  replace ka7 := cell_later hb ka7
  replace ka8 := cell_later hb ka8
  replace zd : w1.heap.size < w6.heap.size := World.block_lt_of_cell? _ _ kd0
  replace ze : w2.heap.size < w6.heap.size := World.block_lt_of_cell? _ _ ke0
  replace zs : w2.heap.size + 1 < w6.heap.size := World.block_lt_of_cell? _ _ ks0
  replace za : w2.heap.size + 1 + 1 < w6.heap.size := World.block_lt_of_cell? _ _ ka0
  replace hb0 : Below w.heap.size w w6 := bstep hb0 hb
  clear hb
  go_wp2_with fail
  refine Calls.mono (ho_ad _ _ (rowA ks0 ks1 ks2 ks3 ks4 ks5 ks6 ks7)) ?_
  rintro e w7 ⟨rfl, hb⟩
  replace kd0 := cell_later hb kd0
  replace kd1 := cell_later hb kd1
  replace kd2 := cell_later hb kd2
  replace kd3 := cell_later hb kd3
  replace kd4 := cell_later hb kd4
  replace kd5 := cell_later hb kd5
  replace kd6 := cell_later hb kd6
  replace kd7 := cell_later hb kd7
  replace kd8 := cell_later hb kd8
  replace ke0 := cell_later hb ke0
  replace ke1 := cell_later hb ke1
  replace ke2 := cell_later hb ke2
  replace ke3 := cell_later hb ke3
  replace ke4 := cell_later hb ke4
  replace ke5 := cell_later hb ke5
  replace ke6 := cell_later hb ke6
  replace ke7 := cell_later hb ke7
  replace ke8 := cell_later hb ke8
  replace ks0 := cell_later hb ks0
  replace ks1 := cell_later hb ks1
  replace ks2 := cell_later hb ks2
  replace ks3 := cell_later hb ks3
  replace ks4 := cell_later hb ks4
  replace ks5 := cell_later hb ks5
  replace ks6 := cell_later hb ks6
  replace ks7 := cell_later hb ks7
  replace ka0 := cell_later hb ka0
  replace ka1 := cell_later hb ka1
  replace ka2 := cell_later hb ka2
  replace ka3 := cell_later hb ka3
  replace ka4 := cell_later hb ka4
  replace ka5 := cell_later hb ka5
  replace ka6 := cell_later hb ka6
  replace ka7 := cell_later hb ka7
  replace ka8 := cell_later hb ka8
  replace zd : w1.heap.size < w7.heap.size := World.block_lt_of_cell? _ _ kd0
  replace ze : w2.heap.size < w7.heap.size := World.block_lt_of_cell? _ _ ke0
  replace zs : w2.heap.size + 1 < w7.heap.size := World.block_lt_of_cell? _ _ ks0
  replace za : w2.heap.size + 1 + 1 < w7.heap.size := World.block_lt_of_cell? _ _ ka0
  replace hb0 : Below w.heap.size w w7 := bstep hb0 hb
  clear hb
  go_wp2_with fail
  refine Calls.mono (ho_da _ _ (rowA ks0 ks1 ks2 ks3 ks4 ks5 ks6 ks7)) ?_
  rintro e w8 ⟨rfl, hb⟩
  replace kd0 := cell_later hb kd0
  replace kd1 := cell_later hb kd1
  replace kd2 := cell_later hb kd2
  replace kd3 := cell_later hb kd3
  replace kd4 := cell_later hb kd4
  replace kd5 := cell_later hb kd5
  replace kd6 := cell_later hb kd6
  replace kd7 := cell_later hb kd7
  replace kd8 := cell_later hb kd8
  replace ke0 := cell_later hb ke0
  replace ke1 := cell_later hb ke1
  replace ke2 := cell_later hb ke2
  replace ke3 := cell_later hb ke3
  replace ke4 := cell_later hb ke4
  replace ke5 := cell_later hb ke5
  replace ke6 := cell_later hb ke6
  replace ke7 := cell_later hb ke7
  replace ke8 := cell_later hb ke8
  replace ks0 := cell_later hb ks0
  replace ks1 := cell_later hb ks1
  replace ks2 := cell_later hb ks2
  replace ks3 := cell_later hb ks3
  replace ks4 := cell_later hb ks4
  replace ks5 := cell_later hb ks5
  replace ks6 := cell_later hb ks6
  replace ks7 := cell_later hb ks7
  replace ka0 := cell_later hb ka0
  replace ka1 := cell_later hb ka1
  replace ka2 := cell_later hb ka2
  replace ka3 := cell_later hb ka3
  replace ka4 := cell_later hb ka4
  replace ka5 := cell_later hb ka5
  replace ka6 := cell_later hb ka6
  replace ka7 := cell_later hb ka7
  replace ka8 := cell_later hb ka8
  replace zd : w1.heap.size < w8.heap.size := World.block_lt_of_cell? _ _ kd0
  replace ze : w2.heap.size < w8.heap.size := World.block_lt_of_cell? _ _ ke0
  replace zs : w2.heap.size + 1 < w8.heap.size := World.block_lt_of_cell? _ _ ks0
  replace za : w2.heap.size + 1 + 1 < w8.heap.size := World.block_lt_of_cell? _ _ ka0
  replace hb0 : Below w.heap.size w w8 := bstep hb0 hb
  clear hb
  go_wp2_with fail
  refine Calls.mono (st_ed _) ?_
  rintro e w9 ⟨rfl, hb⟩
  replace kd0 := cell_later hb kd0
  replace kd1 := cell_later hb kd1
  replace kd2 := cell_later hb kd2
  replace kd3 := cell_later hb kd3
  replace kd4 := cell_later hb kd4
  replace kd5 := cell_later hb kd5
  replace kd6 := cell_later hb kd6
  replace kd7 := cell_later hb kd7
  replace kd8 := cell_later hb kd8
  replace ke0 := cell_later hb ke0
  replace ke1 := cell_later hb ke1
  replace ke2 := cell_later hb ke2
  replace ke3 := cell_later hb ke3
  replace ke4 := cell_later hb ke4
  replace ke5 := cell_later hb ke5
  replace ke6 := cell_later hb ke6
  replace ke7 := cell_later hb ke7
  replace ke8 := cell_later hb ke8
  replace ks0 := cell_later hb ks0
  replace ks1 := cell_later hb ks1
  replace ks2 := cell_later hb ks2
  replace ks3 := cell_later hb ks3
  replace ks4 := cell_later hb ks4
  replace ks5 := cell_later hb ks5
  replace ks6 := cell_later hb ks6
  replace ks7 := cell_later hb ks7
  replace ka0 := cell_later hb ka0
  replace ka1 := cell_later hb ka1
  replace ka2 := cell_later hb ka2
  replace ka3 := cell_later hb ka3
  replace ka4 := cell_later hb ka4
  replace ka5 := cell_later hb ka5
  replace ka6 := cell_later hb ka6
  replace ka7 := cell_later hb ka7
  replace ka8 := cell_later hb ka8
  replace zd : w1.heap.size < w9.heap.size := World.block_lt_of_cell? _ _ kd0
  replace ze : w2.heap.size < w9.heap.size := World.block_lt_of_cell? _ _ ke0
  replace zs : w2.heap.size + 1 < w9.heap.size := World.block_lt_of_cell? _ _ ks0
  replace za : w2.heap.size + 1 + 1 < w9.heap.size := World.block_lt_of_cell? _ _ ka0
  replace hb0 : Below w.heap.size w w9 := bstep hb0 hb
  clear hb
  go_wp2_with fail
  refine Calls.mono (st_de _) ?_
  rintro e w10 ⟨rfl, hb⟩
  replace kd0 := cell_later hb kd0
  replace kd1 := cell_later hb kd1
  replace kd2 := cell_later hb kd2
  replace kd3 := cell_later hb kd3
  replace kd4 := cell_later hb kd4
  replace kd5 := cell_later hb kd5
  replace kd6 := cell_later hb kd6
  replace kd7 := cell_later hb kd7
  replace kd8 := cell_later hb kd8
  replace ke0 := cell_later hb ke0
  replace ke1 := cell_later hb ke1
  replace ke2 := cell_later hb ke2
  replace ke3 := cell_later hb ke3
  replace ke4 := cell_later hb ke4
  replace ke5 := cell_later hb ke5
  replace ke6 := cell_later hb ke6
  replace ke7 := cell_later hb ke7
  replace ke8 := cell_later hb ke8
  replace ks0 := cell_later hb ks0
  replace ks1 := cell_later hb ks1
  replace ks2 := cell_later hb ks2
  replace ks3 := cell_later hb ks3
  replace ks4 := cell_later hb ks4
  replace ks5 := cell_later hb ks5
  replace ks6 := cell_later hb ks6
  replace ks7 := cell_later hb ks7
  replace ka0 := cell_later hb ka0
  replace ka1 := cell_later hb ka1
  replace ka2 := cell_later hb ka2
  replace ka3 := cell_later hb ka3
  replace ka4 := cell_later hb ka4
  replace ka5 := cell_later hb ka5
  replace ka6 := cell_later hb ka6
  replace ka7 := cell_later hb ka7
  replace ka8 := cell_later hb ka8
  replace zd : w1.heap.size < w10.heap.size := World.block_lt_of_cell? _ _ kd0
  replace ze : w2.heap.size < w10.heap.size := World.block_lt_of_cell? _ _ ke0
  replace zs : w2.heap.size + 1 < w10.heap.size := World.block_lt_of_cell? _ _ ks0
  replace za : w2.heap.size + 1 + 1 < w10.heap.size := World.block_lt_of_cell? _ _ ka0
  replace hb0 : Below w.heap.size w w10 := bstep hb0 hb
  clear hb
  go_wp2_with fail
  refine Calls.mono (sh_1 _) ?_
  rintro e w11 ⟨rfl, hb⟩
  replace kd0 := cell_later hb (cell_al _ kd0)
  replace kd1 := cell_later hb (cell_al _ kd1)
  replace kd2 := cell_later hb (cell_al _ kd2)
  replace kd3 := cell_later hb (cell_al _ kd3)
  replace kd4 := cell_later hb (cell_al _ kd4)
  replace kd5 := cell_later hb (cell_al _ kd5)
  replace kd6 := cell_later hb (cell_al _ kd6)
  replace kd7 := cell_later hb (cell_al _ kd7)
  replace kd8 := cell_later hb (cell_al _ kd8)
  replace ke0 := cell_later hb (cell_al _ ke0)
  replace ke1 := cell_later hb (cell_al _ ke1)
  replace ke2 := cell_later hb (cell_al _ ke2)
  replace ke3 := cell_later hb (cell_al _ ke3)
  replace ke4 := cell_later hb (cell_al _ ke4)
  replace ke5 := cell_later hb (cell_al _ ke5)
  replace ke6 := cell_later hb (cell_al _ ke6)
  replace ke7 := cell_later hb (cell_al _ ke7)
  replace ke8 := cell_later hb (cell_al _ ke8)
  replace ks0 := cell_later hb (cell_al _ ks0)
  replace ks1 := cell_later hb (cell_al _ ks1)
  replace ks2 := cell_later hb (cell_al _ ks2)
  replace ks3 := cell_later hb (cell_al _ ks3)
  replace ks4 := cell_later hb (cell_al _ ks4)
  replace ks5 := cell_later hb (cell_al _ ks5)
  replace ks6 := cell_later hb (cell_al _ ks6)
  replace ks7 := cell_later hb (cell_al _ ks7)
  replace ka0 := cell_later hb (cell_al _ ka0)
  replace ka1 := cell_later hb (cell_al _ ka1)
  replace ka2 := cell_later hb (cell_al _ ka2)
  replace ka3 := cell_later hb (cell_al _ ka3)
  replace ka4 := cell_later hb (cell_al _ ka4)
  replace ka5 := cell_later hb (cell_al _ ka5)
  replace ka6 := cell_later hb (cell_al _ ka6)
  replace ka7 := cell_later hb (cell_al _ ka7)
  replace ka8 := cell_later hb (cell_al _ ka8)
  have kx0 : w11.cell? ⟨w10.heap.size, 0, none⟩ = some (.int .i64 1) := cell_later hb (by go_simp)
  have kx1 : w11.cell? ⟨w10.heap.size, 1, none⟩ = some (.int .i64 2) := cell_later hb (by go_simp)
  have kx2 : w11.cell? ⟨w10.heap.size, 2, none⟩ = some (.int .i64 0) := cell_later hb (by go_simp)
  have kx3 : w11.cell? ⟨w10.heap.size, 3, none⟩ = some (.int .i64 0) := cell_later hb (by go_simp)
  have kx4 : w11.cell? ⟨w10.heap.size, 4, none⟩ = some (.int .i64 10) := cell_later hb (by go_simp)
  have kx5 : w11.cell? ⟨w10.heap.size, 5, none⟩ = some (.slice none 0 0) := cell_later hb (by go_simp)
  have kx6 : w11.cell? ⟨w10.heap.size, 6, none⟩ = some (.int .i64 50) := cell_later hb (by go_simp)
  have kx7 : w11.cell? ⟨w10.heap.size, 7, none⟩ = some (.int .i64 0) := cell_later hb (by go_simp)
  have kx8 : w11.cell? ⟨w10.heap.size, 8, none⟩ = some (.slice none 0 0) := cell_later hb (by go_simp)
  have kx9 : w11.cell? ⟨w10.heap.size, 9, none⟩ = some (.int .i64 2) := cell_later hb (by go_simp)
  have kx10 : w11.cell? ⟨w10.heap.size, 10, none⟩ = some (.int .i64 1) := cell_later hb (by go_simp)
  have kx11 : w11.cell? ⟨w10.heap.size, 11, none⟩ = some (.int .i64 3) := cell_later hb (by go_simp)
  have kx12 : w11.cell? ⟨w10.heap.size, 12, none⟩ = some (.int .i64 4) := cell_later hb (by go_simp)
  have kx13 : w11.cell? ⟨w10.heap.size, 13, none⟩ = some (.int .i64 5) := cell_later hb (by go_simp)
  have kx14 : w11.cell? ⟨w10.heap.size, 14, none⟩ = some (.slice none 0 0) := cell_later hb (by go_simp)
  have kx15 : w11.cell? ⟨w10.heap.size, 15, none⟩ = some (.int .i64 60) := cell_later hb (by go_simp)
  have kx16 : w11.cell? ⟨w10.heap.size, 16, none⟩ = some (.int .i64 0) := cell_later hb (by go_simp)
  have kx17 : w11.cell? ⟨w10.heap.size, 17, none⟩ = some (.slice none 0 0) := cell_later hb (by go_simp)
  replace zd : w1.heap.size < w11.heap.size := World.block_lt_of_cell? _ _ kd0
  replace ze : w2.heap.size < w11.heap.size := World.block_lt_of_cell? _ _ ke0
  replace zs : w2.heap.size + 1 < w11.heap.size := World.block_lt_of_cell? _ _ ks0
  replace za : w2.heap.size + 1 + 1 < w11.heap.size := World.block_lt_of_cell? _ _ ka0
  have zx : w10.heap.size < w11.heap.size := World.block_lt_of_cell? _ _ kx0
  replace hb0 : Below w.heap.size w w11 := bstep (balloc hb0 _) hb
  clear hb
  go_wp2_with fail
  refine Calls.mono (sh_2 _) ?_
  rintro e w12 ⟨rfl, hb⟩
  replace kd0 := cell_later hb (cell_al _ kd0)
  replace kd1 := cell_later hb (cell_al _ kd1)
  replace kd2 := cell_later hb (cell_al _ kd2)
  replace kd3 := cell_later hb (cell_al _ kd3)
  replace kd4 := cell_later hb (cell_al _ kd4)
  replace kd5 := cell_later hb (cell_al _ kd5)
  replace kd6 := cell_later hb (cell_al _ kd6)
  replace kd7 := cell_later hb (cell_al _ kd7)
  replace kd8 := cell_later hb (cell_al _ kd8)
  replace ke0 := cell_later hb (cell_al _ ke0)
  replace ke1 := cell_later hb (cell_al _ ke1)
  replace ke2 := cell_later hb (cell_al _ ke2)
  replace ke3 := cell_later hb (cell_al _ ke3)
  replace ke4 := cell_later hb (cell_al _ ke4)
  replace ke5 := cell_later hb (cell_al _ ke5)
  replace ke6 := cell_later hb (cell_al _ ke6)
  replace ke7 := cell_later hb (cell_al _ ke7)
  replace ke8 := cell_later hb (cell_al _ ke8)
  replace ks0 := cell_later hb (cell_al _ ks0)
  replace ks1 := cell_later hb (cell_al _ ks1)
  replace ks2 := cell_later hb (cell_al _ ks2)
  replace ks3 := cell_later hb (cell_al _ ks3)
  replace ks4 := cell_later hb (cell_al _ ks4)
  replace ks5 := cell_later hb (cell_al _ ks5)
  replace ks6 := cell_later hb (cell_al _ ks6)
  replace ks7 := cell_later hb (cell_al _ ks7)
  replace ka0 := cell_later hb (cell_al _ ka0)
  replace ka1 := cell_later hb (cell_al _ ka1)
  replace ka2 := cell_later hb (cell_al _ ka2)
  replace ka3 := cell_later hb (cell_al _ ka3)
  replace ka4 := cell_later hb (cell_al _ ka4)
  replace ka5 := cell_later hb (cell_al _ ka5)
  replace ka6 := cell_later hb (cell_al _ ka6)
  replace ka7 := cell_later hb (cell_al _ ka7)
  replace ka8 := cell_later hb (cell_al _ ka8)
  replace kx0 := cell_later hb (cell_al _ kx0)
  replace kx1 := cell_later hb (cell_al _ kx1)
  replace kx2 := cell_later hb (cell_al _ kx2)
  replace kx3 := cell_later hb (cell_al _ kx3)
  replace kx4 := cell_later hb (cell_al _ kx4)
  replace kx5 := cell_later hb (cell_al _ kx5)
  replace kx6 := cell_later hb (cell_al _ kx6)
  replace kx7 := cell_later hb (cell_al _ kx7)
  replace kx8 := cell_later hb (cell_al _ kx8)
  replace kx9 := cell_later hb (cell_al _ kx9)
  replace kx10 := cell_later hb (cell_al _ kx10)
  replace kx11 := cell_later hb (cell_al _ kx11)
  replace kx12 := cell_later hb (cell_al _ kx12)
  replace kx13 := cell_later hb (cell_al _ kx13)
  replace kx14 := cell_later hb (cell_al _ kx14)
  replace kx15 := cell_later hb (cell_al _ kx15)
  replace kx16 := cell_later hb (cell_al _ kx16)
  replace kx17 := cell_later hb (cell_al _ kx17)
  have ky0 : w12.cell? ⟨w11.heap.size, 0, none⟩ = some (.int .i64 1) := cell_later hb (by go_simp)
  have ky1 : w12.cell? ⟨w11.heap.size, 1, none⟩ = some (.int .i64 2) := cell_later hb (by go_simp)
  have ky2 : w12.cell? ⟨w11.heap.size, 2, none⟩ = some (.int .i64 0) := cell_later hb (by go_simp)
  have ky3 : w12.cell? ⟨w11.heap.size, 3, none⟩ = some (.int .i64 0) := cell_later hb (by go_simp)
  have ky4 : w12.cell? ⟨w11.heap.size, 4, none⟩ = some (.int .i64 10) := cell_later hb (by go_simp)
  have ky5 : w12.cell? ⟨w11.heap.size, 5, none⟩ = some (.slice none 0 0) := cell_later hb (by go_simp)
  have ky6 : w12.cell? ⟨w11.heap.size, 6, none⟩ = some (.int .i64 50) := cell_later hb (by go_simp)
  have ky7 : w12.cell? ⟨w11.heap.size, 7, none⟩ = some (.int .i64 0) := cell_later hb (by go_simp)
  have ky8 : w12.cell? ⟨w11.heap.size, 8, none⟩ = some (.slice none 0 0) := cell_later hb (by go_simp)
  have ky9 : w12.cell? ⟨w11.heap.size, 9, none⟩ = some (.int .i64 2) := cell_later hb (by go_simp)
  have ky10 : w12.cell? ⟨w11.heap.size, 10, none⟩ = some (.int .i64 1) := cell_later hb (by go_simp)
  have ky11 : w12.cell? ⟨w11.heap.size, 11, none⟩ = some (.int .i64 3) := cell_later hb (by go_simp)
  have ky12 : w12.cell? ⟨w11.heap.size, 12, none⟩ = some (.int .i64 4) := cell_later hb (by go_simp)
  have ky13 : w12.cell? ⟨w11.heap.size, 13, none⟩ = some (.int .i64 5) := cell_later hb (by go_simp)
  have ky14 : w12.cell? ⟨w11.heap.size, 14, none⟩ = some (.slice none 0 0) := cell_later hb (by go_simp)
  have ky15 : w12.cell? ⟨w11.heap.size, 15, none⟩ = some (.int .i64 60) := cell_later hb (by go_simp)
  have ky16 : w12.cell? ⟨w11.heap.size, 16, none⟩ = some (.int .i64 0) := cell_later hb (by go_simp)
  have ky17 : w12.cell? ⟨w11.heap.size, 17, none⟩ = some (.slice none 0 0) := cell_later hb (by go_simp)
  replace zd : w1.heap.size < w12.heap.size := World.block_lt_of_cell? _ _ kd0
  replace ze : w2.heap.size < w12.heap.size := World.block_lt_of_cell? _ _ ke0
  replace zs : w2.heap.size + 1 < w12.heap.size := World.block_lt_of_cell? _ _ ks0
  replace za : w2.heap.size + 1 + 1 < w12.heap.size := World.block_lt_of_cell? _ _ ka0
  replace zx : w10.heap.size < w12.heap.size := World.block_lt_of_cell? _ _ kx0
  have zy : w11.heap.size < w12.heap.size := World.block_lt_of_cell? _ _ ky0
  replace hb0 : Below w.heap.size w w12 := bstep (balloc hb0 _) hb
  clear hb
  go_wp2_with fail
  refine Calls.mono (bx_e _) ?_
  rintro e w13 ⟨rfl, hb⟩
  replace kd0 := cell_later hb kd0
  replace kd1 := cell_later hb kd1
  replace kd2 := cell_later hb kd2
  replace kd3 := cell_later hb kd3
  replace kd4 := cell_later hb kd4
  replace kd5 := cell_later hb kd5
  replace kd6 := cell_later hb kd6
  replace kd7 := cell_later hb kd7
  replace kd8 := cell_later hb kd8
  replace ke0 := cell_later hb ke0
  replace ke1 := cell_later hb ke1
  replace ke2 := cell_later hb ke2
  replace ke3 := cell_later hb ke3
  replace ke4 := cell_later hb ke4
  replace ke5 := cell_later hb ke5
  replace ke6 := cell_later hb ke6
  replace ke7 := cell_later hb ke7
  replace ke8 := cell_later hb ke8
  replace ks0 := cell_later hb ks0
  replace ks1 := cell_later hb ks1
  replace ks2 := cell_later hb ks2
  replace ks3 := cell_later hb ks3
  replace ks4 := cell_later hb ks4
  replace ks5 := cell_later hb ks5
  replace ks6 := cell_later hb ks6
  replace ks7 := cell_later hb ks7
  replace ka0 := cell_later hb ka0
  replace ka1 := cell_later hb ka1
  replace ka2 := cell_later hb ka2
  replace ka3 := cell_later hb ka3
  replace ka4 := cell_later hb ka4
  replace ka5 := cell_later hb ka5
  replace ka6 := cell_later hb ka6
  replace ka7 := cell_later hb ka7
  replace ka8 := cell_later hb ka8
  replace kx0 := cell_later hb kx0
  replace kx1 := cell_later hb kx1
  replace kx2 := cell_later hb kx2
  replace kx3 := cell_later hb kx3
  replace kx4 := cell_later hb kx4
  replace kx5 := cell_later hb kx5
  replace kx6 := cell_later hb kx6
  replace kx7 := cell_later hb kx7
  replace kx8 := cell_later hb kx8
  replace kx9 := cell_later hb kx9
  replace kx10 := cell_later hb kx10
  replace kx11 := cell_later hb kx11
  replace kx12 := cell_later hb kx12
  replace kx13 := cell_later hb kx13
  replace kx14 := cell_later hb kx14
  replace kx15 := cell_later hb kx15
  replace kx16 := cell_later hb kx16
  replace kx17 := cell_later hb kx17
  replace ky0 := cell_later hb ky0
  replace ky1 := cell_later hb ky1
  replace ky2 := cell_later hb ky2
  replace ky3 := cell_later hb ky3
  replace ky4 := cell_later hb ky4
  replace ky5 := cell_later hb ky5
  replace ky6 := cell_later hb ky6
  replace ky7 := cell_later hb ky7
  replace ky8 := cell_later hb ky8
  replace ky9 := cell_later hb ky9
  replace ky10 := cell_later hb ky10
  replace ky11 := cell_later hb ky11
  replace ky12 := cell_later hb ky12
  replace ky13 := cell_later hb ky13
  replace ky14 := cell_later hb ky14
  replace ky15 := cell_later hb ky15
  replace ky16 := cell_later hb ky16
  replace ky17 := cell_later hb ky17
  replace zd : w1.heap.size < w13.heap.size := World.block_lt_of_cell? _ _ kd0
  replace ze : w2.heap.size < w13.heap.size := World.block_lt_of_cell? _ _ ke0
  replace zs : w2.heap.size + 1 < w13.heap.size := World.block_lt_of_cell? _ _ ks0
  replace za : w2.heap.size + 1 + 1 < w13.heap.size := World.block_lt_of_cell? _ _ ka0
  replace zx : w10.heap.size < w13.heap.size := World.block_lt_of_cell? _ _ kx0
  replace zy : w11.heap.size < w13.heap.size := World.block_lt_of_cell? _ _ ky0
  replace hb0 : Below w.heap.size w w13 := bstep hb0 hb
  clear hb
  go_wp2_with fail
  go_region_held3 (fun w' => w'.cell? ⟨w1.heap.size, 0, none⟩ = some (.int .i64 1) ∧ w'.cell? ⟨w1.heap.size, 1, none⟩ = some (.int .i64 2) ∧ w'.cell? ⟨w1.heap.size, 2, none⟩ = some (.int .i64 0) ∧ w'.cell? ⟨w1.heap.size, 3, none⟩ = some (.int .i64 0) ∧ w'.cell? ⟨w1.heap.size, 4, none⟩ = some (.int .i64 10) ∧ w'.cell? ⟨w1.heap.size, 5, none⟩ = some (.slice none 0 0) ∧ w'.cell? ⟨w1.heap.size, 6, none⟩ = some (.int .i64 50) ∧ w'.cell? ⟨w1.heap.size, 7, none⟩ = some (.int .i64 0) ∧ w'.cell? ⟨w1.heap.size, 8, none⟩ = some (.slice none 0 0)) (first | (go_keep; done) | ((repeat' apply And.intro) <;> go_simp)) (first | (go_at_call 32; refine Calls.mono (ldisc_c 4 1 20 0 10 0 _) ?_; rintro e wr ⟨rfl, hb⟩; have kd0 : wr.cell? ⟨w1.heap.size, 0, none⟩ = some (.int .i64 1) := cell_later hb (by first | (with_reducible assumption) | go_simp); have kd1 : wr.cell? ⟨w1.heap.size, 1, none⟩ = some (.int .i64 2) := cell_later hb (by first | (with_reducible assumption) | go_simp); have kd2 : wr.cell? ⟨w1.heap.size, 2, none⟩ = some (.int .i64 0) := cell_later hb (by first | (with_reducible assumption) | go_simp); have kd3 : wr.cell? ⟨w1.heap.size, 3, none⟩ = some (.int .i64 0) := cell_later hb (by first | (with_reducible assumption) | go_simp); have kd4 : wr.cell? ⟨w1.heap.size, 4, none⟩ = some (.int .i64 10) := cell_later hb (by first | (with_reducible assumption) | go_simp); have kd5 : wr.cell? ⟨w1.heap.size, 5, none⟩ = some (.slice none 0 0) := cell_later hb (by first | (with_reducible assumption) | go_simp); have kd6 : wr.cell? ⟨w1.heap.size, 6, none⟩ = some (.int .i64 50) := cell_later hb (by first | (with_reducible assumption) | go_simp); have kd7 : wr.cell? ⟨w1.heap.size, 7, none⟩ = some (.int .i64 0) := cell_later hb (by first | (with_reducible assumption) | go_simp); have kd8 : wr.cell? ⟨w1.heap.size, 8, none⟩ = some (.slice none 0 0) := cell_later hb (by first | (with_reducible assumption) | go_simp); have zd : w1.heap.size < wr.heap.size := World.block_lt_of_cell? _ _ kd0; have ke0 : wr.cell? ⟨w2.heap.size, 0, none⟩ = some (.int .i64 2) := cell_later hb (by first | (with_reducible assumption) | go_simp); have ke1 : wr.cell? ⟨w2.heap.size, 1, none⟩ = some (.int .i64 1) := cell_later hb (by first | (with_reducible assumption) | go_simp); have ke2 : wr.cell? ⟨w2.heap.size, 2, none⟩ = some (.int .i64 3) := cell_later hb (by first | (with_reducible assumption) | go_simp); have ke3 : wr.cell? ⟨w2.heap.size, 3, none⟩ = some (.int .i64 4) := cell_later hb (by first | (with_reducible assumption) | go_simp); have ke4 : wr.cell? ⟨w2.heap.size, 4, none⟩ = some (.int .i64 5) := cell_later hb (by first | (with_reducible assumption) | go_simp); have ke5 : wr.cell? ⟨w2.heap.size, 5, none⟩ = some (.slice none 0 0) := cell_later hb (by first | (with_reducible assumption) | go_simp); have ke6 : wr.cell? ⟨w2.heap.size, 6, none⟩ = some (.int .i64 60) := cell_later hb (by first | (with_reducible assumption) | go_simp); have ke7 : wr.cell? ⟨w2.heap.size, 7, none⟩ = some (.int .i64 0) := cell_later hb (by first | (with_reducible assumption) | go_simp); have ke8 : wr.cell? ⟨w2.heap.size, 8, none⟩ = some (.slice none 0 0) := cell_later hb (by first | (with_reducible assumption) | go_simp); have ze : w2.heap.size < wr.heap.size := World.block_lt_of_cell? _ _ ke0; have ks0 : wr.cell? ⟨w2.heap.size + 1, 0, none⟩ = some (.int .i64 (-20)) := cell_later hb (by first | (with_reducible assumption) | go_simp); have ks1 : wr.cell? ⟨w2.heap.size + 1, 1, none⟩ = some (.int .i64 (-20)) := cell_later hb (by first | (with_reducible assumption) | go_simp); have ks2 : wr.cell? ⟨w2.heap.size + 1, 2, none⟩ = some (.int .i64 20) := cell_later hb (by first | (with_reducible assumption) | go_simp); have ks3 : wr.cell? ⟨w2.heap.size + 1, 3, none⟩ = some (.int .i64 (-20)) := cell_later hb (by first | (with_reducible assumption) | go_simp); have ks4 : wr.cell? ⟨w2.heap.size + 1, 4, none⟩ = some (.int .i64 20) := cell_later hb (by first | (with_reducible assumption) | go_simp); have ks5 : wr.cell? ⟨w2.heap.size + 1, 5, none⟩ = some (.int .i64 20) := cell_later hb (by first | (with_reducible assumption) | go_simp); have ks6 : wr.cell? ⟨w2.heap.size + 1, 6, none⟩ = some (.int .i64 (-20)) := cell_later hb (by first | (with_reducible assumption) | go_simp); have ks7 : wr.cell? ⟨w2.heap.size + 1, 7, none⟩ = some (.int .i64 20) := cell_later hb (by first | (with_reducible assumption) | go_simp); have zs : w2.heap.size + 1 < wr.heap.size := World.block_lt_of_cell? _ _ ks0; have ka0 : wr.cell? ⟨w2.heap.size + 1 + 1, 0, none⟩ = some (.int .i64 3) := cell_later hb (by first | (with_reducible assumption) | go_simp); have ka1 : wr.cell? ⟨w2.heap.size + 1 + 1, 1, none⟩ = some (.int .i64 3) := cell_later hb (by first | (with_reducible assumption) | go_simp); have ka2 : wr.cell? ⟨w2.heap.size + 1 + 1, 2, none⟩ = some (.int .i64 0) := cell_later hb (by first | (with_reducible assumption) | go_simp); have ka3 : wr.cell? ⟨w2.heap.size + 1 + 1, 3, none⟩ = some (.int .i64 0) := cell_later hb (by first | (with_reducible assumption) | go_simp); have ka4 : wr.cell? ⟨w2.heap.size + 1 + 1, 4, none⟩ = some (.int .i64 0) := cell_later hb (by first | (with_reducible assumption) | go_simp); have ka5 : wr.cell? ⟨w2.heap.size + 1 + 1, 5, none⟩ = some (.slice (some ⟨w2.heap.size + 1, 0, none⟩) 4 4) := cell_later hb (by first | (with_reducible assumption) | go_simp); have ka6 : wr.cell? ⟨w2.heap.size + 1 + 1, 6, none⟩ = some (.int .i64 40) := cell_later hb (by first | (with_reducible assumption) | go_simp); have ka7 : wr.cell? ⟨w2.heap.size + 1 + 1, 7, none⟩ = some (.int .i64 0) := cell_later hb (by first | (with_reducible assumption) | go_simp); have ka8 : wr.cell? ⟨w2.heap.size + 1 + 1, 8, none⟩ = some (.slice none 0 0) := cell_later hb (by first | (with_reducible assumption) | go_simp); have za : w2.heap.size + 1 + 1 < wr.heap.size := World.block_lt_of_cell? _ _ ka0; have kx0 : wr.cell? ⟨w10.heap.size, 0, none⟩ = some (.int .i64 1) := cell_later hb (by first | (with_reducible assumption) | go_simp); have kx1 : wr.cell? ⟨w10.heap.size, 1, none⟩ = some (.int .i64 2) := cell_later hb (by first | (with_reducible assumption) | go_simp); have kx2 : wr.cell? ⟨w10.heap.size, 2, none⟩ = some (.int .i64 0) := cell_later hb (by first | (with_reducible assumption) | go_simp); have kx3 : wr.cell? ⟨w10.heap.size, 3, none⟩ = some (.int .i64 0) := cell_later hb (by first | (with_reducible assumption) | go_simp); have kx4 : wr.cell? ⟨w10.heap.size, 4, none⟩ = some (.int .i64 10) := cell_later hb (by first | (with_reducible assumption) | go_simp); have kx5 : wr.cell? ⟨w10.heap.size, 5, none⟩ = some (.slice none 0 0) := cell_later hb (by first | (with_reducible assumption) | go_simp); have kx6 : wr.cell? ⟨w10.heap.size, 6, none⟩ = some (.int .i64 50) := cell_later hb (by first | (with_reducible assumption) | go_simp); have kx7 : wr.cell? ⟨w10.heap.size, 7, none⟩ = some (.int .i64 0) := cell_later hb (by first | (with_reducible assumption) | go_simp); have kx8 : wr.cell? ⟨w10.heap.size, 8, none⟩ = some (.slice none 0 0) := cell_later hb (by first | (with_reducible assumption) | go_simp); have kx9 : wr.cell? ⟨w10.heap.size, 9, none⟩ = some (.int .i64 2) := cell_later hb (by first | (with_reducible assumption) | go_simp); have kx10 : wr.cell? ⟨w10.heap.size, 10, none⟩ = some (.int .i64 1) := cell_later hb (by first | (with_reducible assumption) | go_simp); have kx11 : wr.cell? ⟨w10.heap.size, 11, none⟩ = some (.int .i64 3) := cell_later hb (by first | (with_reducible assumption) | go_simp); have kx12 : wr.cell? ⟨w10.heap.size, 12, none⟩ = some (.int .i64 4) := cell_later hb (by first | (with_reducible assumption) | go_simp); have kx13 : wr.cell? ⟨w10.heap.size, 13, none⟩ = some (.int .i64 5) := cell_later hb (by first | (with_reducible assumption) | go_simp); have kx14 : wr.cell? ⟨w10.heap.size, 14, none⟩ = some (.slice none 0 0) := cell_later hb (by first | (with_reducible assumption) | go_simp); have kx15 : wr.cell? ⟨w10.heap.size, 15, none⟩ = some (.int .i64 60) := cell_later hb (by first | (with_reducible assumption) | go_simp); have kx16 : wr.cell? ⟨w10.heap.size, 16, none⟩ = some (.int .i64 0) := cell_later hb (by first | (with_reducible assumption) | go_simp); have kx17 : wr.cell? ⟨w10.heap.size, 17, none⟩ = some (.slice none 0 0) := cell_later hb (by first | (with_reducible assumption) | go_simp); have zx : w10.heap.size < wr.heap.size := World.block_lt_of_cell? _ _ kx0; have ky0 : wr.cell? ⟨w11.heap.size, 0, none⟩ = some (.int .i64 1) := cell_later hb (by first | (with_reducible assumption) | go_simp); have ky1 : wr.cell? ⟨w11.heap.size, 1, none⟩ = some (.int .i64 2) := cell_later hb (by first | (with_reducible assumption) | go_simp); have ky2 : wr.cell? ⟨w11.heap.size, 2, none⟩ = some (.int .i64 0) := cell_later hb (by first | (with_reducible assumption) | go_simp); have ky3 : wr.cell? ⟨w11.heap.size, 3, none⟩ = some (.int .i64 0) := cell_later hb (by first | (with_reducible assumption) | go_simp); have ky4 : wr.cell? ⟨w11.heap.size, 4, none⟩ = some (.int .i64 10) := cell_later hb (by first | (with_reducible assumption) | go_simp); have ky5 : wr.cell? ⟨w11.heap.size, 5, none⟩ = some (.slice none 0 0) := cell_later hb (by first | (with_reducible assumption) | go_simp); have ky6 : wr.cell? ⟨w11.heap.size, 6, none⟩ = some (.int .i64 50) := cell_later hb (by first | (with_reducible assumption) | go_simp); have ky7 : wr.cell? ⟨w11.heap.size, 7, none⟩ = some (.int .i64 0) := cell_later hb (by first | (with_reducible assumption) | go_simp); have ky8 : wr.cell? ⟨w11.heap.size, 8, none⟩ = some (.slice none 0 0) := cell_later hb (by first | (with_reducible assumption) | go_simp); have ky9 : wr.cell? ⟨w11.heap.size, 9, none⟩ = some (.int .i64 2) := cell_later hb (by first | (with_reducible assumption) | go_simp); have ky10 : wr.cell? ⟨w11.heap.size, 10, none⟩ = some (.int .i64 1) := cell_later hb (by first | (with_reducible assumption) | go_simp); have ky11 : wr.cell? ⟨w11.heap.size, 11, none⟩ = some (.int .i64 3) := cell_later hb (by first | (with_reducible assumption) | go_simp); have ky12 : wr.cell? ⟨w11.heap.size, 12, none⟩ = some (.int .i64 4) := cell_later hb (by first | (with_reducible assumption) | go_simp); have ky13 : wr.cell? ⟨w11.heap.size, 13, none⟩ = some (.int .i64 5) := cell_later hb (by first | (with_reducible assumption) | go_simp); have ky14 : wr.cell? ⟨w11.heap.size, 14, none⟩ = some (.slice none 0 0) := cell_later hb (by first | (with_reducible assumption) | go_simp); have ky15 : wr.cell? ⟨w11.heap.size, 15, none⟩ = some (.int .i64 60) := cell_later hb (by first | (with_reducible assumption) | go_simp); have ky16 : wr.cell? ⟨w11.heap.size, 16, none⟩ = some (.int .i64 0) := cell_later hb (by first | (with_reducible assumption) | go_simp); have ky17 : wr.cell? ⟨w11.heap.size, 17, none⟩ = some (.slice none 0 0) := cell_later hb (by first | (with_reducible assumption) | go_simp); have zy : w11.heap.size < wr.heap.size := World.block_lt_of_cell? _ _ ky0; have kbx0 : wr.cell? ⟨w13.heap.size, 0, none⟩ = some (.int .i64 (-2)) := cell_later hb (by first | (with_reducible assumption) | go_simp); have kbx1 : wr.cell? ⟨w13.heap.size, 1, none⟩ = some (.int .i64 8) := cell_later hb (by first | (with_reducible assumption) | go_simp); have kbx2 : wr.cell? ⟨w13.heap.size, 2, none⟩ = some (.int .i64 (-1)) := cell_later hb (by first | (with_reducible assumption) | go_simp); have kbx3 : wr.cell? ⟨w13.heap.size, 3, none⟩ = some (.int .i64 9) := cell_later hb (by first | (with_reducible assumption) | go_simp); have zbx : w13.heap.size < wr.heap.size := World.block_lt_of_cell? _ _ kbx0; have hb0 : Below w.heap.size w wr := (by repeat (first | with_reducible exact Below.refl _ _ | with_reducible assumption | with_reducible refine Below.setCell ?_ (by first | omega | (simp <;> omega)) _ | with_reducible refine balloc ?_ _ | with_reducible refine Below.drew ?_ | with_reducible refine bstep ?_ (by with_reducible assumption))); clear hb) | (go_at_call 24; refine Calls.mono (to_1 _) ?_; rintro e wr ⟨rfl, hb⟩; have kd0 : wr.cell? ⟨w1.heap.size, 0, none⟩ = some (.int .i64 1) := cell_later hb (by first | (with_reducible assumption) | go_simp); have kd1 : wr.cell? ⟨w1.heap.size, 1, none⟩ = some (.int .i64 2) := cell_later hb (by first | (with_reducible assumption) | go_simp); have kd2 : wr.cell? ⟨w1.heap.size, 2, none⟩ = some (.int .i64 0) := cell_later hb (by first | (with_reducible assumption) | go_simp); have kd3 : wr.cell? ⟨w1.heap.size, 3, none⟩ = some (.int .i64 0) := cell_later hb (by first | (with_reducible assumption) | go_simp); have kd4 : wr.cell? ⟨w1.heap.size, 4, none⟩ = some (.int .i64 10) := cell_later hb (by first | (with_reducible assumption) | go_simp); have kd5 : wr.cell? ⟨w1.heap.size, 5, none⟩ = some (.slice none 0 0) := cell_later hb (by first | (with_reducible assumption) | go_simp); have kd6 : wr.cell? ⟨w1.heap.size, 6, none⟩ = some (.int .i64 50) := cell_later hb (by first | (with_reducible assumption) | go_simp); have kd7 : wr.cell? ⟨w1.heap.size, 7, none⟩ = some (.int .i64 0) := cell_later hb (by first | (with_reducible assumption) | go_simp); have kd8 : wr.cell? ⟨w1.heap.size, 8, none⟩ = some (.slice none 0 0) := cell_later hb (by first | (with_reducible assumption) | go_simp); have zd : w1.heap.size < wr.heap.size := World.block_lt_of_cell? _ _ kd0; have ke0 : wr.cell? ⟨w2.heap.size, 0, none⟩ = some (.int .i64 2) := cell_later hb (by first | (with_reducible assumption) | go_simp); have ke1 : wr.cell? ⟨w2.heap.size, 1, none⟩ = some (.int .i64 1) := cell_later hb (by first | (with_reducible assumption) | go_simp); have ke2 : wr.cell? ⟨w2.heap.size, 2, none⟩ = some (.int .i64 3) := cell_later hb (by first | (with_reducible assumption) | go_simp); have ke3 : wr.cell? ⟨w2.heap.size, 3, none⟩ = some (.int .i64 4) := cell_later hb (by first | (with_reducible assumption) | go_simp); have ke4 : wr.cell? ⟨w2.heap.size, 4, none⟩ = some (.int .i64 5) := cell_later hb (by first | (with_reducible assumption) | go_simp); have ke5 : wr.cell? ⟨w2.heap.size, 5, none⟩ = some (.slice none 0 0) := cell_later hb (by first | (with_reducible assumption) | go_simp); have ke6 : wr.cell? ⟨w2.heap.size, 6, none⟩ = some (.int .i64 60) := cell_later hb (by first | (with_reducible assumption) | go_simp); have ke7 : wr.cell? ⟨w2.heap.size, 7, none⟩ = some (.int .i64 0) := cell_later hb (by first | (with_reducible assumption) | go_simp); have ke8 : wr.cell? ⟨w2.heap.size, 8, none⟩ = some (.slice none 0 0) := cell_later hb (by first | (with_reducible assumption) | go_simp); have ze : w2.heap.size < wr.heap.size := World.block_lt_of_cell? _ _ ke0; have ks0 : wr.cell? ⟨w2.heap.size + 1, 0, none⟩ = some (.int .i64 (-20)) := cell_later hb (by first | (with_reducible assumption) | go_simp); have ks1 : wr.cell? ⟨w2.heap.size + 1, 1, none⟩ = some (.int .i64 (-20)) := cell_later hb (by first | (with_reducible assumption) | go_simp); have ks2 : wr.cell? ⟨w2.heap.size + 1, 2, none⟩ = some (.int .i64 20) := cell_later hb (by first | (with_reducible assumption) | go_simp); have ks3 : wr.cell? ⟨w2.heap.size + 1, 3, none⟩ = some (.int .i64 (-20)) := cell_later hb (by first | (with_reducible assumption) | go_simp); have ks4 : wr.cell? ⟨w2.heap.size + 1, 4, none⟩ = some (.int .i64 20) := cell_later hb (by first | (with_reducible assumption) | go_simp); have ks5 : wr.cell? ⟨w2.heap.size + 1, 5, none⟩ = some (.int .i64 20) := cell_later hb (by first | (with_reducible assumption) | go_simp); have ks6 : wr.cell? ⟨w2.heap.size + 1, 6, none⟩ = some (.int .i64 (-20)) := cell_later hb (by first | (with_reducible assumption) | go_simp); have ks7 : wr.cell? ⟨w2.heap.size + 1, 7, none⟩ = some (.int .i64 20) := cell_later hb (by first | (with_reducible assumption) | go_simp); have zs : w2.heap.size + 1 < wr.heap.size := World.block_lt_of_cell? _ _ ks0; have ka0 : wr.cell? ⟨w2.heap.size + 1 + 1, 0, none⟩ = some (.int .i64 3) := cell_later hb (by first | (with_reducible assumption) | go_simp); have ka1 : wr.cell? ⟨w2.heap.size + 1 + 1, 1, none⟩ = some (.int .i64 3) := cell_later hb (by first | (with_reducible assumption) | go_simp); have ka2 : wr.cell? ⟨w2.heap.size + 1 + 1, 2, none⟩ = some (.int .i64 0) := cell_later hb (by first | (with_reducible assumption) | go_simp); have ka3 : wr.cell? ⟨w2.heap.size + 1 + 1, 3, none⟩ = some (.int .i64 0) := cell_later hb (by first | (with_reducible assumption) | go_simp); have ka4 : wr.cell? ⟨w2.heap.size + 1 + 1, 4, none⟩ = some (.int .i64 0) := cell_later hb (by first | (with_reducible assumption) | go_simp); have ka5 : wr.cell? ⟨w2.heap.size + 1 + 1, 5, none⟩ = some (.slice (some ⟨w2.heap.size + 1, 0, none⟩) 4 4) := cell_later hb (by first | (with_reducible assumption) | go_simp); have ka6 : wr.cell? ⟨w2.heap.size + 1 + 1, 6, none⟩ = some (.int .i64 40) := cell_later hb (by first | (with_reducible assumption) | go_simp); have ka7 : wr.cell? ⟨w2.heap.size + 1 + 1, 7, none⟩ = some (.int .i64 0) := cell_later hb (by first | (with_reducible assumption) | go_simp); have ka8 : wr.cell? ⟨w2.heap.size + 1 + 1, 8, none⟩ = some (.slice none 0 0) := cell_later hb (by first | (with_reducible assumption) | go_simp); have za : w2.heap.size + 1 + 1 < wr.heap.size := World.block_lt_of_cell? _ _ ka0; have kx0 : wr.cell? ⟨w10.heap.size, 0, none⟩ = some (.int .i64 1) := cell_later hb (by first | (with_reducible assumption) | go_simp); have kx1 : wr.cell? ⟨w10.heap.size, 1, none⟩ = some (.int .i64 2) := cell_later hb (by first | (with_reducible assumption) | go_simp); have kx2 : wr.cell? ⟨w10.heap.size, 2, none⟩ = some (.int .i64 0) := cell_later hb (by first | (with_reducible assumption) | go_simp); have kx3 : wr.cell? ⟨w10.heap.size, 3, none⟩ = some (.int .i64 0) := cell_later hb (by first | (with_reducible assumption) | go_simp); have kx4 : wr.cell? ⟨w10.heap.size, 4, none⟩ = some (.int .i64 10) := cell_later hb (by first | (with_reducible assumption) | go_simp); have kx5 : wr.cell? ⟨w10.heap.size, 5, none⟩ = some (.slice none 0 0) := cell_later hb (by first | (with_reducible assumption) | go_simp); have kx6 : wr.cell? ⟨w10.heap.size, 6, none⟩ = some (.int .i64 50) := cell_later hb (by first | (with_reducible assumption) | go_simp); have kx7 : wr.cell? ⟨w10.heap.size, 7, none⟩ = some (.int .i64 0) := cell_later hb (by first | (with_reducible assumption) | go_simp); have kx8 : wr.cell? ⟨w10.heap.size, 8, none⟩ = some (.slice none 0 0) := cell_later hb (by first | (with_reducible assumption) | go_simp); have kx9 : wr.cell? ⟨w10.heap.size, 9, none⟩ = some (.int .i64 2) := cell_later hb (by first | (with_reducible assumption) | go_simp); have kx10 : wr.cell? ⟨w10.heap.size, 10, none⟩ = some (.int .i64 1) := cell_later hb (by first | (with_reducible assumption) | go_simp); have kx11 : wr.cell? ⟨w10.heap.size, 11, none⟩ = some (.int .i64 3) := cell_later hb (by first | (with_reducible assumption) | go_simp); have kx12 : wr.cell? ⟨w10.heap.size, 12, none⟩ = some (.int .i64 4) := cell_later hb (by first | (with_reducible assumption) | go_simp); have kx13 : wr.cell? ⟨w10.heap.size, 13, none⟩ = some (.int .i64 5) := cell_later hb (by first | (with_reducible assumption) | go_simp); have kx14 : wr.cell? ⟨w10.heap.size, 14, none⟩ = some (.slice none 0 0) := cell_later hb (by first | (with_reducible assumption) | go_simp); have kx15 : wr.cell? ⟨w10.heap.size, 15, none⟩ = some (.int .i64 60) := cell_later hb (by first | (with_reducible assumption) | go_simp); have kx16 : wr.cell? ⟨w10.heap.size, 16, none⟩ = some (.int .i64 0) := cell_later hb (by first | (with_reducible assumption) | go_simp); have kx17 : wr.cell? ⟨w10.heap.size, 17, none⟩ = some (.slice none 0 0) := cell_later hb (by first | (with_reducible assumption) | go_simp); have zx : w10.heap.size < wr.heap.size := World.block_lt_of_cell? _ _ kx0; have ky0 : wr.cell? ⟨w11.heap.size, 0, none⟩ = some (.int .i64 1) := cell_later hb (by first | (with_reducible assumption) | go_simp); have ky1 : wr.cell? ⟨w11.heap.size, 1, none⟩ = some (.int .i64 2) := cell_later hb (by first | (with_reducible assumption) | go_simp); have ky2 : wr.cell? ⟨w11.heap.size, 2, none⟩ = some (.int .i64 0) := cell_later hb (by first | (with_reducible assumption) | go_simp); have ky3 : wr.cell? ⟨w11.heap.size, 3, none⟩ = some (.int .i64 0) := cell_later hb (by first | (with_reducible assumption) | go_simp); have ky4 : wr.cell? ⟨w11.heap.size, 4, none⟩ = some (.int .i64 10) := cell_later hb (by first | (with_reducible assumption) | go_simp); have ky5 : wr.cell? ⟨w11.heap.size, 5, none⟩ = some (.slice none 0 0) := cell_later hb (by first | (with_reducible assumption) | go_simp); have ky6 : wr.cell? ⟨w11.heap.size, 6, none⟩ = some (.int .i64 50) := cell_later hb (by first | (with_reducible assumption) | go_simp); have ky7 : wr.cell? ⟨w11.heap.size, 7, none⟩ = some (.int .i64 0) := cell_later hb (by first | (with_reducible assumption) | go_simp); have ky8 : wr.cell? ⟨w11.heap.size, 8, none⟩ = some (.slice none 0 0) := cell_later hb (by first | (with_reducible assumption) | go_simp); have ky9 : wr.cell? ⟨w11.heap.size, 9, none⟩ = some (.int .i64 2) := cell_later hb (by first | (with_reducible assumption) | go_simp); have ky10 : wr.cell? ⟨w11.heap.size, 10, none⟩ = some (.int .i64 1) := cell_later hb (by first | (with_reducible assumption) | go_simp); have ky11 : wr.cell? ⟨w11.heap.size, 11, none⟩ = some (.int .i64 3) := cell_later hb (by first | (with_reducible assumption) | go_simp); have ky12 : wr.cell? ⟨w11.heap.size, 12, none⟩ = some (.int .i64 4) := cell_later hb (by first | (with_reducible assumption) | go_simp); have ky13 : wr.cell? ⟨w11.heap.size, 13, none⟩ = some (.int .i64 5) := cell_later hb (by first | (with_reducible assumption) | go_simp); have ky14 : wr.cell? ⟨w11.heap.size, 14, none⟩ = some (.slice none 0 0) := cell_later hb (by first | (with_reducible assumption) | go_simp); have ky15 : wr.cell? ⟨w11.heap.size, 15, none⟩ = some (.int .i64 60) := cell_later hb (by first | (with_reducible assumption) | go_simp); have ky16 : wr.cell? ⟨w11.heap.size, 16, none⟩ = some (.int .i64 0) := cell_later hb (by first | (with_reducible assumption) | go_simp); have ky17 : wr.cell? ⟨w11.heap.size, 17, none⟩ = some (.slice none 0 0) := cell_later hb (by first | (with_reducible assumption) | go_simp); have zy : w11.heap.size < wr.heap.size := World.block_lt_of_cell? _ _ ky0; have kbx0 : wr.cell? ⟨w13.heap.size, 0, none⟩ = some (.int .i64 (-2)) := cell_later hb (by first | (with_reducible assumption) | go_simp); have kbx1 : wr.cell? ⟨w13.heap.size, 1, none⟩ = some (.int .i64 8) := cell_later hb (by first | (with_reducible assumption) | go_simp); have kbx2 : wr.cell? ⟨w13.heap.size, 2, none⟩ = some (.int .i64 (-1)) := cell_later hb (by first | (with_reducible assumption) | go_simp); have kbx3 : wr.cell? ⟨w13.heap.size, 3, none⟩ = some (.int .i64 9) := cell_later hb (by first | (with_reducible assumption) | go_simp); have zbx : w13.heap.size < wr.heap.size := World.block_lt_of_cell? _ _ kbx0; have hb0 : Below w.heap.size w wr := (by repeat (first | with_reducible exact Below.refl _ _ | with_reducible assumption | with_reducible refine Below.setCell ?_ (by first | omega | (simp <;> omega)) _ | with_reducible refine balloc ?_ _ | with_reducible refine Below.drew ?_ | with_reducible refine bstep ?_ (by with_reducible assumption))); clear hb))
  go_wp2_with fail
  go_region_held3 (fun w' => w'.cell? ⟨w1.heap.size, 0, none⟩ = some (.int .i64 1) ∧ w'.cell? ⟨w1.heap.size, 1, none⟩ = some (.int .i64 2) ∧ w'.cell? ⟨w1.heap.size, 2, none⟩ = some (.int .i64 0) ∧ w'.cell? ⟨w1.heap.size, 3, none⟩ = some (.int .i64 0) ∧ w'.cell? ⟨w1.heap.size, 4, none⟩ = some (.int .i64 10) ∧ w'.cell? ⟨w1.heap.size, 5, none⟩ = some (.slice none 0 0) ∧ w'.cell? ⟨w1.heap.size, 6, none⟩ = some (.int .i64 50) ∧ w'.cell? ⟨w1.heap.size, 7, none⟩ = some (.int .i64 0) ∧ w'.cell? ⟨w1.heap.size, 8, none⟩ = some (.slice none 0 0)) (first | (go_keep; done) | ((repeat' apply And.intro) <;> go_simp)) (first | (go_at_call 32; refine Calls.mono (ldisc_c 4 1 20 0 9 0 _) ?_; rintro e wq ⟨rfl, hb⟩; have kd0 : wq.cell? ⟨w1.heap.size, 0, none⟩ = some (.int .i64 1) := cell_later hb (by first | (with_reducible assumption) | go_simp); have kd1 : wq.cell? ⟨w1.heap.size, 1, none⟩ = some (.int .i64 2) := cell_later hb (by first | (with_reducible assumption) | go_simp); have kd2 : wq.cell? ⟨w1.heap.size, 2, none⟩ = some (.int .i64 0) := cell_later hb (by first | (with_reducible assumption) | go_simp); have kd3 : wq.cell? ⟨w1.heap.size, 3, none⟩ = some (.int .i64 0) := cell_later hb (by first | (with_reducible assumption) | go_simp); have kd4 : wq.cell? ⟨w1.heap.size, 4, none⟩ = some (.int .i64 10) := cell_later hb (by first | (with_reducible assumption) | go_simp); have kd5 : wq.cell? ⟨w1.heap.size, 5, none⟩ = some (.slice none 0 0) := cell_later hb (by first | (with_reducible assumption) | go_simp); have kd6 : wq.cell? ⟨w1.heap.size, 6, none⟩ = some (.int .i64 50) := cell_later hb (by first | (with_reducible assumption) | go_simp); have kd7 : wq.cell? ⟨w1.heap.size, 7, none⟩ = some (.int .i64 0) := cell_later hb (by first | (with_reducible assumption) | go_simp); have kd8 : wq.cell? ⟨w1.heap.size, 8, none⟩ = some (.slice none 0 0) := cell_later hb (by first | (with_reducible assumption) | go_simp); have zd : w1.heap.size < wq.heap.size := World.block_lt_of_cell? _ _ kd0; have ke0 : wq.cell? ⟨w2.heap.size, 0, none⟩ = some (.int .i64 2) := cell_later hb (by first | (with_reducible assumption) | go_simp); have ke1 : wq.cell? ⟨w2.heap.size, 1, none⟩ = some (.int .i64 1) := cell_later hb (by first | (with_reducible assumption) | go_simp); have ke2 : wq.cell? ⟨w2.heap.size, 2, none⟩ = some (.int .i64 3) := cell_later hb (by first | (with_reducible assumption) | go_simp); have ke3 : wq.cell? ⟨w2.heap.size, 3, none⟩ = some (.int .i64 4) := cell_later hb (by first | (with_reducible assumption) | go_simp); have ke4 : wq.cell? ⟨w2.heap.size, 4, none⟩ = some (.int .i64 5) := cell_later hb (by first | (with_reducible assumption) | go_simp); have ke5 : wq.cell? ⟨w2.heap.size, 5, none⟩ = some (.slice none 0 0) := cell_later hb (by first | (with_reducible assumption) | go_simp); have ke6 : wq.cell? ⟨w2.heap.size, 6, none⟩ = some (.int .i64 60) := cell_later hb (by first | (with_reducible assumption) | go_simp); have ke7 : wq.cell? ⟨w2.heap.size, 7, none⟩ = some (.int .i64 0) := cell_later hb (by first | (with_reducible assumption) | go_simp); have ke8 : wq.cell? ⟨w2.heap.size, 8, none⟩ = some (.slice none 0 0) := cell_later hb (by first | (with_reducible assumption) | go_simp); have ze : w2.heap.size < wq.heap.size := World.block_lt_of_cell? _ _ ke0; have ks0 : wq.cell? ⟨w2.heap.size + 1, 0, none⟩ = some (.int .i64 (-20)) := cell_later hb (by first | (with_reducible assumption) | go_simp); have ks1 : wq.cell? ⟨w2.heap.size + 1, 1, none⟩ = some (.int .i64 (-20)) := cell_later hb (by first | (with_reducible assumption) | go_simp); have ks2 : wq.cell? ⟨w2.heap.size + 1, 2, none⟩ = some (.int .i64 20) := cell_later hb (by first | (with_reducible assumption) | go_simp); have ks3 : wq.cell? ⟨w2.heap.size + 1, 3, none⟩ = some (.int .i64 (-20)) := cell_later hb (by first | (with_reducible assumption) | go_simp); have ks4 : wq.cell? ⟨w2.heap.size + 1, 4, none⟩ = some (.int .i64 20) := cell_later hb (by first | (with_reducible assumption) | go_simp); have ks5 : wq.cell? ⟨w2.heap.size + 1, 5, none⟩ = some (.int .i64 20) := cell_later hb (by first | (with_reducible assumption) | go_simp); have ks6 : wq.cell? ⟨w2.heap.size + 1, 6, none⟩ = some (.int .i64 (-20)) := cell_later hb (by first | (with_reducible assumption) | go_simp); have ks7 : wq.cell? ⟨w2.heap.size + 1, 7, none⟩ = some (.int .i64 20) := cell_later hb (by first | (with_reducible assumption) | go_simp); have zs : w2.heap.size + 1 < wq.heap.size := World.block_lt_of_cell? _ _ ks0; have ka0 : wq.cell? ⟨w2.heap.size + 1 + 1, 0, none⟩ = some (.int .i64 3) := cell_later hb (by first | (with_reducible assumption) | go_simp); have ka1 : wq.cell? ⟨w2.heap.size + 1 + 1, 1, none⟩ = some (.int .i64 3) := cell_later hb (by first | (with_reducible assumption) | go_simp); have ka2 : wq.cell? ⟨w2.heap.size + 1 + 1, 2, none⟩ = some (.int .i64 0) := cell_later hb (by first | (with_reducible assumption) | go_simp); have ka3 : wq.cell? ⟨w2.heap.size + 1 + 1, 3, none⟩ = some (.int .i64 0) := cell_later hb (by first | (with_reducible assumption) | go_simp); have ka4 : wq.cell? ⟨w2.heap.size + 1 + 1, 4, none⟩ = some (.int .i64 0) := cell_later hb (by first | (with_reducible assumption) | go_simp); have ka5 : wq.cell? ⟨w2.heap.size + 1 + 1, 5, none⟩ = some (.slice (some ⟨w2.heap.size + 1, 0, none⟩) 4 4) := cell_later hb (by first | (with_reducible assumption) | go_simp); have ka6 : wq.cell? ⟨w2.heap.size + 1 + 1, 6, none⟩ = some (.int .i64 40) := cell_later hb (by first | (with_reducible assumption) | go_simp); have ka7 : wq.cell? ⟨w2.heap.size + 1 + 1, 7, none⟩ = some (.int .i64 0) := cell_later hb (by first | (with_reducible assumption) | go_simp); have ka8 : wq.cell? ⟨w2.heap.size + 1 + 1, 8, none⟩ = some (.slice none 0 0) := cell_later hb (by first | (with_reducible assumption) | go_simp); have za : w2.heap.size + 1 + 1 < wq.heap.size := World.block_lt_of_cell? _ _ ka0; have kx0 : wq.cell? ⟨w10.heap.size, 0, none⟩ = some (.int .i64 1) := cell_later hb (by first | (with_reducible assumption) | go_simp); have kx1 : wq.cell? ⟨w10.heap.size, 1, none⟩ = some (.int .i64 2) := cell_later hb (by first | (with_reducible assumption) | go_simp); have kx2 : wq.cell? ⟨w10.heap.size, 2, none⟩ = some (.int .i64 0) := cell_later hb (by first | (with_reducible assumption) | go_simp); have kx3 : wq.cell? ⟨w10.heap.size, 3, none⟩ = some (.int .i64 0) := cell_later hb (by first | (with_reducible assumption) | go_simp); have kx4 : wq.cell? ⟨w10.heap.size, 4, none⟩ = some (.int .i64 10) := cell_later hb (by first | (with_reducible assumption) | go_simp); have kx5 : wq.cell? ⟨w10.heap.size, 5, none⟩ = some (.slice none 0 0) := cell_later hb (by first | (with_reducible assumption) | go_simp); have kx6 : wq.cell? ⟨w10.heap.size, 6, none⟩ = some (.int .i64 50) := cell_later hb (by first | (with_reducible assumption) | go_simp); have kx7 : wq.cell? ⟨w10.heap.size, 7, none⟩ = some (.int .i64 0) := cell_later hb (by first | (with_reducible assumption) | go_simp); have kx8 : wq.cell? ⟨w10.heap.size, 8, none⟩ = some (.slice none 0 0) := cell_later hb (by first | (with_reducible assumption) | go_simp); have kx9 : wq.cell? ⟨w10.heap.size, 9, none⟩ = some (.int .i64 2) := cell_later hb (by first | (with_reducible assumption) | go_simp); have kx10 : wq.cell? ⟨w10.heap.size, 10, none⟩ = some (.int .i64 1) := cell_later hb (by first | (with_reducible assumption) | go_simp); have kx11 : wq.cell? ⟨w10.heap.size, 11, none⟩ = some (.int .i64 3) := cell_later hb (by first | (with_reducible assumption) | go_simp); have kx12 : wq.cell? ⟨w10.heap.size, 12, none⟩ = some (.int .i64 4) := cell_later hb (by first | (with_reducible assumption) | go_simp); have kx13 : wq.cell? ⟨w10.heap.size, 13, none⟩ = some (.int .i64 5) := cell_later hb (by first | (with_reducible assumption) | go_simp); have kx14 : wq.cell? ⟨w10.heap.size, 14, none⟩ = some (.slice none 0 0) := cell_later hb (by first | (with_reducible assumption) | go_simp); have kx15 : wq.cell? ⟨w10.heap.size, 15, none⟩ = some (.int .i64 60) := cell_later hb (by first | (with_reducible assumption) | go_simp); have kx16 : wq.cell? ⟨w10.heap.size, 16, none⟩ = some (.int .i64 0) := cell_later hb (by first | (with_reducible assumption) | go_simp); have kx17 : wq.cell? ⟨w10.heap.size, 17, none⟩ = some (.slice none 0 0) := cell_later hb (by first | (with_reducible assumption) | go_simp); have zx : w10.heap.size < wq.heap.size := World.block_lt_of_cell? _ _ kx0; have ky0 : wq.cell? ⟨w11.heap.size, 0, none⟩ = some (.int .i64 1) := cell_later hb (by first | (with_reducible assumption) | go_simp); have ky1 : wq.cell? ⟨w11.heap.size, 1, none⟩ = some (.int .i64 2) := cell_later hb (by first | (with_reducible assumption) | go_simp); have ky2 : wq.cell? ⟨w11.heap.size, 2, none⟩ = some (.int .i64 0) := cell_later hb (by first | (with_reducible assumption) | go_simp); have ky3 : wq.cell? ⟨w11.heap.size, 3, none⟩ = some (.int .i64 0) := cell_later hb (by first | (with_reducible assumption) | go_simp); have ky4 : wq.cell? ⟨w11.heap.size, 4, none⟩ = some (.int .i64 10) := cell_later hb (by first | (with_reducible assumption) | go_simp); have ky5 : wq.cell? ⟨w11.heap.size, 5, none⟩ = some (.slice none 0 0) := cell_later hb (by first | (with_reducible assumption) | go_simp); have ky6 : wq.cell? ⟨w11.heap.size, 6, none⟩ = some (.int .i64 50) := cell_later hb (by first | (with_reducible assumption) | go_simp); have ky7 : wq.cell? ⟨w11.heap.size, 7, none⟩ = some (.int .i64 0) := cell_later hb (by first | (with_reducible assumption) | go_simp); have ky8 : wq.cell? ⟨w11.heap.size, 8, none⟩ = some (.slice none 0 0) := cell_later hb (by first | (with_reducible assumption) | go_simp); have ky9 : wq.cell? ⟨w11.heap.size, 9, none⟩ = some (.int .i64 2) := cell_later hb (by first | (with_reducible assumption) | go_simp); have ky10 : wq.cell? ⟨w11.heap.size, 10, none⟩ = some (.int .i64 1) := cell_later hb (by first | (with_reducible assumption) | go_simp); have ky11 : wq.cell? ⟨w11.heap.size, 11, none⟩ = some (.int .i64 3) := cell_later hb (by first | (with_reducible assumption) | go_simp); have ky12 : wq.cell? ⟨w11.heap.size, 12, none⟩ = some (.int .i64 4) := cell_later hb (by first | (with_reducible assumption) | go_simp); have ky13 : wq.cell? ⟨w11.heap.size, 13, none⟩ = some (.int .i64 5) := cell_later hb (by first | (with_reducible assumption) | go_simp); have ky14 : wq.cell? ⟨w11.heap.size, 14, none⟩ = some (.slice none 0 0) := cell_later hb (by first | (with_reducible assumption) | go_simp); have ky15 : wq.cell? ⟨w11.heap.size, 15, none⟩ = some (.int .i64 60) := cell_later hb (by first | (with_reducible assumption) | go_simp); have ky16 : wq.cell? ⟨w11.heap.size, 16, none⟩ = some (.int .i64 0) := cell_later hb (by first | (with_reducible assumption) | go_simp); have ky17 : wq.cell? ⟨w11.heap.size, 17, none⟩ = some (.slice none 0 0) := cell_later hb (by first | (with_reducible assumption) | go_simp); have zy : w11.heap.size < wq.heap.size := World.block_lt_of_cell? _ _ ky0; have kbx0 : wq.cell? ⟨w13.heap.size, 0, none⟩ = some (.int .i64 (-2)) := cell_later hb (by first | (with_reducible assumption) | go_simp); have kbx1 : wq.cell? ⟨w13.heap.size, 1, none⟩ = some (.int .i64 8) := cell_later hb (by first | (with_reducible assumption) | go_simp); have kbx2 : wq.cell? ⟨w13.heap.size, 2, none⟩ = some (.int .i64 (-1)) := cell_later hb (by first | (with_reducible assumption) | go_simp); have kbx3 : wq.cell? ⟨w13.heap.size, 3, none⟩ = some (.int .i64 9) := cell_later hb (by first | (with_reducible assumption) | go_simp); have zbx : w13.heap.size < wq.heap.size := World.block_lt_of_cell? _ _ kbx0; have hb0 : Below w.heap.size w wq := (by repeat (first | with_reducible exact Below.refl _ _ | with_reducible assumption | with_reducible refine Below.setCell ?_ (by first | omega | (simp <;> omega)) _ | with_reducible refine balloc ?_ _ | with_reducible refine Below.drew ?_ | with_reducible refine bstep ?_ (by with_reducible assumption))); clear hb) | (go_at_call 24; refine Calls.mono (to_2 _) ?_; rintro e wq ⟨rfl, hb⟩; have kd0 : wq.cell? ⟨w1.heap.size, 0, none⟩ = some (.int .i64 1) := cell_later hb (by first | (with_reducible assumption) | go_simp); have kd1 : wq.cell? ⟨w1.heap.size, 1, none⟩ = some (.int .i64 2) := cell_later hb (by first | (with_reducible assumption) | go_simp); have kd2 : wq.cell? ⟨w1.heap.size, 2, none⟩ = some (.int .i64 0) := cell_later hb (by first | (with_reducible assumption) | go_simp); have kd3 : wq.cell? ⟨w1.heap.size, 3, none⟩ = some (.int .i64 0) := cell_later hb (by first | (with_reducible assumption) | go_simp); have kd4 : wq.cell? ⟨w1.heap.size, 4, none⟩ = some (.int .i64 10) := cell_later hb (by first | (with_reducible assumption) | go_simp); have kd5 : wq.cell? ⟨w1.heap.size, 5, none⟩ = some (.slice none 0 0) := cell_later hb (by first | (with_reducible assumption) | go_simp); have kd6 : wq.cell? ⟨w1.heap.size, 6, none⟩ = some (.int .i64 50) := cell_later hb (by first | (with_reducible assumption) | go_simp); have kd7 : wq.cell? ⟨w1.heap.size, 7, none⟩ = some (.int .i64 0) := cell_later hb (by first | (with_reducible assumption) | go_simp); have kd8 : wq.cell? ⟨w1.heap.size, 8, none⟩ = some (.slice none 0 0) := cell_later hb (by first | (with_reducible assumption) | go_simp); have zd : w1.heap.size < wq.heap.size := World.block_lt_of_cell? _ _ kd0; have ke0 : wq.cell? ⟨w2.heap.size, 0, none⟩ = some (.int .i64 2) := cell_later hb (by first | (with_reducible assumption) | go_simp); have ke1 : wq.cell? ⟨w2.heap.size, 1, none⟩ = some (.int .i64 1) := cell_later hb (by first | (with_reducible assumption) | go_simp); have ke2 : wq.cell? ⟨w2.heap.size, 2, none⟩ = some (.int .i64 3) := cell_later hb (by first | (with_reducible assumption) | go_simp); have ke3 : wq.cell? ⟨w2.heap.size, 3, none⟩ = some (.int .i64 4) := cell_later hb (by first | (with_reducible assumption) | go_simp); have ke4 : wq.cell? ⟨w2.heap.size, 4, none⟩ = some (.int .i64 5) := cell_later hb (by first | (with_reducible assumption) | go_simp); have ke5 : wq.cell? ⟨w2.heap.size, 5, none⟩ = some (.slice none 0 0) := cell_later hb (by first | (with_reducible assumption) | go_simp); have ke6 : wq.cell? ⟨w2.heap.size, 6, none⟩ = some (.int .i64 60) := cell_later hb (by first | (with_reducible assumption) | go_simp); have ke7 : wq.cell? ⟨w2.heap.size, 7, none⟩ = some (.int .i64 0) := cell_later hb (by first | (with_reducible assumption) | go_simp); have ke8 : wq.cell? ⟨w2.heap.size, 8, none⟩ = some (.slice none 0 0) := cell_later hb (by first | (with_reducible assumption) | go_simp); have ze : w2.heap.size < wq.heap.size := World.block_lt_of_cell? _ _ ke0; have ks0 : wq.cell? ⟨w2.heap.size + 1, 0, none⟩ = some (.int .i64 (-20)) := cell_later hb (by first | (with_reducible assumption) | go_simp); have ks1 : wq.cell? ⟨w2.heap.size + 1, 1, none⟩ = some (.int .i64 (-20)) := cell_later hb (by first | (with_reducible assumption) | go_simp); have ks2 : wq.cell? ⟨w2.heap.size + 1, 2, none⟩ = some (.int .i64 20) := cell_later hb (by first | (with_reducible assumption) | go_simp); have ks3 : wq.cell? ⟨w2.heap.size + 1, 3, none⟩ = some (.int .i64 (-20)) := cell_later hb (by first | (with_reducible assumption) | go_simp); have ks4 : wq.cell? ⟨w2.heap.size + 1, 4, none⟩ = some (.int .i64 20) := cell_later hb (by first | (with_reducible assumption) | go_simp); have ks5 : wq.cell? ⟨w2.heap.size + 1, 5, none⟩ = some (.int .i64 20) := cell_later hb (by first | (with_reducible assumption) | go_simp); have ks6 : wq.cell? ⟨w2.heap.size + 1, 6, none⟩ = some (.int .i64 (-20)) := cell_later hb (by first | (with_reducible assumption) | go_simp); have ks7 : wq.cell? ⟨w2.heap.size + 1, 7, none⟩ = some (.int .i64 20) := cell_later hb (by first | (with_reducible assumption) | go_simp); have zs : w2.heap.size + 1 < wq.heap.size := World.block_lt_of_cell? _ _ ks0; have ka0 : wq.cell? ⟨w2.heap.size + 1 + 1, 0, none⟩ = some (.int .i64 3) := cell_later hb (by first | (with_reducible assumption) | go_simp); have ka1 : wq.cell? ⟨w2.heap.size + 1 + 1, 1, none⟩ = some (.int .i64 3) := cell_later hb (by first | (with_reducible assumption) | go_simp); have ka2 : wq.cell? ⟨w2.heap.size + 1 + 1, 2, none⟩ = some (.int .i64 0) := cell_later hb (by first | (with_reducible assumption) | go_simp); have ka3 : wq.cell? ⟨w2.heap.size + 1 + 1, 3, none⟩ = some (.int .i64 0) := cell_later hb (by first | (with_reducible assumption) | go_simp); have ka4 : wq.cell? ⟨w2.heap.size + 1 + 1, 4, none⟩ = some (.int .i64 0) := cell_later hb (by first | (with_reducible assumption) | go_simp); have ka5 : wq.cell? ⟨w2.heap.size + 1 + 1, 5, none⟩ = some (.slice (some ⟨w2.heap.size + 1, 0, none⟩) 4 4) := cell_later hb (by first | (with_reducible assumption) | go_simp); have ka6 : wq.cell? ⟨w2.heap.size + 1 + 1, 6, none⟩ = some (.int .i64 40) := cell_later hb (by first | (with_reducible assumption) | go_simp); have ka7 : wq.cell? ⟨w2.heap.size + 1 + 1, 7, none⟩ = some (.int .i64 0) := cell_later hb (by first | (with_reducible assumption) | go_simp); have ka8 : wq.cell? ⟨w2.heap.size + 1 + 1, 8, none⟩ = some (.slice none 0 0) := cell_later hb (by first | (with_reducible assumption) | go_simp); have za : w2.heap.size + 1 + 1 < wq.heap.size := World.block_lt_of_cell? _ _ ka0; have kx0 : wq.cell? ⟨w10.heap.size, 0, none⟩ = some (.int .i64 1) := cell_later hb (by first | (with_reducible assumption) | go_simp); have kx1 : wq.cell? ⟨w10.heap.size, 1, none⟩ = some (.int .i64 2) := cell_later hb (by first | (with_reducible assumption) | go_simp); have kx2 : wq.cell? ⟨w10.heap.size, 2, none⟩ = some (.int .i64 0) := cell_later hb (by first | (with_reducible assumption) | go_simp); have kx3 : wq.cell? ⟨w10.heap.size, 3, none⟩ = some (.int .i64 0) := cell_later hb (by first | (with_reducible assumption) | go_simp); have kx4 : wq.cell? ⟨w10.heap.size, 4, none⟩ = some (.int .i64 10) := cell_later hb (by first | (with_reducible assumption) | go_simp); have kx5 : wq.cell? ⟨w10.heap.size, 5, none⟩ = some (.slice none 0 0) := cell_later hb (by first | (with_reducible assumption) | go_simp); have kx6 : wq.cell? ⟨w10.heap.size, 6, none⟩ = some (.int .i64 50) := cell_later hb (by first | (with_reducible assumption) | go_simp); have kx7 : wq.cell? ⟨w10.heap.size, 7, none⟩ = some (.int .i64 0) := cell_later hb (by first | (with_reducible assumption) | go_simp); have kx8 : wq.cell? ⟨w10.heap.size, 8, none⟩ = some (.slice none 0 0) := cell_later hb (by first | (with_reducible assumption) | go_simp); have kx9 : wq.cell? ⟨w10.heap.size, 9, none⟩ = some (.int .i64 2) := cell_later hb (by first | (with_reducible assumption) | go_simp); have kx10 : wq.cell? ⟨w10.heap.size, 10, none⟩ = some (.int .i64 1) := cell_later hb (by first | (with_reducible assumption) | go_simp); have kx11 : wq.cell? ⟨w10.heap.size, 11, none⟩ = some (.int .i64 3) := cell_later hb (by first | (with_reducible assumption) | go_simp); have kx12 : wq.cell? ⟨w10.heap.size, 12, none⟩ = some (.int .i64 4) := cell_later hb (by first | (with_reducible assumption) | go_simp); have kx13 : wq.cell? ⟨w10.heap.size, 13, none⟩ = some (.int .i64 5) := cell_later hb (by first | (with_reducible assumption) | go_simp); have kx14 : wq.cell? ⟨w10.heap.size, 14, none⟩ = some (.slice none 0 0) := cell_later hb (by first | (with_reducible assumption) | go_simp); have kx15 : wq.cell? ⟨w10.heap.size, 15, none⟩ = some (.int .i64 60) := cell_later hb (by first | (with_reducible assumption) | go_simp); have kx16 : wq.cell? ⟨w10.heap.size, 16, none⟩ = some (.int .i64 0) := cell_later hb (by first | (with_reducible assumption) | go_simp); have kx17 : wq.cell? ⟨w10.heap.size, 17, none⟩ = some (.slice none 0 0) := cell_later hb (by first | (with_reducible assumption) | go_simp); have zx : w10.heap.size < wq.heap.size := World.block_lt_of_cell? _ _ kx0; have ky0 : wq.cell? ⟨w11.heap.size, 0, none⟩ = some (.int .i64 1) := cell_later hb (by first | (with_reducible assumption) | go_simp); have ky1 : wq.cell? ⟨w11.heap.size, 1, none⟩ = some (.int .i64 2) := cell_later hb (by first | (with_reducible assumption) | go_simp); have ky2 : wq.cell? ⟨w11.heap.size, 2, none⟩ = some (.int .i64 0) := cell_later hb (by first | (with_reducible assumption) | go_simp); have ky3 : wq.cell? ⟨w11.heap.size, 3, none⟩ = some (.int .i64 0) := cell_later hb (by first | (with_reducible assumption) | go_simp); have ky4 : wq.cell? ⟨w11.heap.size, 4, none⟩ = some (.int .i64 10) := cell_later hb (by first | (with_reducible assumption) | go_simp); have ky5 : wq.cell? ⟨w11.heap.size, 5, none⟩ = some (.slice none 0 0) := cell_later hb (by first | (with_reducible assumption) | go_simp); have ky6 : wq.cell? ⟨w11.heap.size, 6, none⟩ = some (.int .i64 50) := cell_later hb (by first | (with_reducible assumption) | go_simp); have ky7 : wq.cell? ⟨w11.heap.size, 7, none⟩ = some (.int .i64 0) := cell_later hb (by first | (with_reducible assumption) | go_simp); have ky8 : wq.cell? ⟨w11.heap.size, 8, none⟩ = some (.slice none 0 0) := cell_later hb (by first | (with_reducible assumption) | go_simp); have ky9 : wq.cell? ⟨w11.heap.size, 9, none⟩ = some (.int .i64 2) := cell_later hb (by first | (with_reducible assumption) | go_simp); have ky10 : wq.cell? ⟨w11.heap.size, 10, none⟩ = some (.int .i64 1) := cell_later hb (by first | (with_reducible assumption) | go_simp); have ky11 : wq.cell? ⟨w11.heap.size, 11, none⟩ = some (.int .i64 3) := cell_later hb (by first | (with_reducible assumption) | go_simp); have ky12 : wq.cell? ⟨w11.heap.size, 12, none⟩ = some (.int .i64 4) := cell_later hb (by first | (with_reducible assumption) | go_simp); have ky13 : wq.cell? ⟨w11.heap.size, 13, none⟩ = some (.int .i64 5) := cell_later hb (by first | (with_reducible assumption) | go_simp); have ky14 : wq.cell? ⟨w11.heap.size, 14, none⟩ = some (.slice none 0 0) := cell_later hb (by first | (with_reducible assumption) | go_simp); have ky15 : wq.cell? ⟨w11.heap.size, 15, none⟩ = some (.int .i64 60) := cell_later hb (by first | (with_reducible assumption) | go_simp); have ky16 : wq.cell? ⟨w11.heap.size, 16, none⟩ = some (.int .i64 0) := cell_later hb (by first | (with_reducible assumption) | go_simp); have ky17 : wq.cell? ⟨w11.heap.size, 17, none⟩ = some (.slice none 0 0) := cell_later hb (by first | (with_reducible assumption) | go_simp); have zy : w11.heap.size < wq.heap.size := World.block_lt_of_cell? _ _ ky0; have kbx0 : wq.cell? ⟨w13.heap.size, 0, none⟩ = some (.int .i64 (-2)) := cell_later hb (by first | (with_reducible assumption) | go_simp); have kbx1 : wq.cell? ⟨w13.heap.size, 1, none⟩ = some (.int .i64 8) := cell_later hb (by first | (with_reducible assumption) | go_simp); have kbx2 : wq.cell? ⟨w13.heap.size, 2, none⟩ = some (.int .i64 (-1)) := cell_later hb (by first | (with_reducible assumption) | go_simp); have kbx3 : wq.cell? ⟨w13.heap.size, 3, none⟩ = some (.int .i64 9) := cell_later hb (by first | (with_reducible assumption) | go_simp); have zbx : w13.heap.size < wq.heap.size := World.block_lt_of_cell? _ _ kbx0; have hb0 : Below w.heap.size w wq := (by repeat (first | with_reducible exact Below.refl _ _ | with_reducible assumption | with_reducible refine Below.setCell ?_ (by first | omega | (simp <;> omega)) _ | with_reducible refine balloc ?_ _ | with_reducible refine Below.drew ?_ | with_reducible refine bstep ?_ (by with_reducible assumption))); clear hb))
  go_wp2_with fail
  refine Calls.mono (va_1 _ _ (rowA ks0 ks1 ks2 ks3 ks4 ks5 ks6 ks7)) ?_
  rintro e w14 ⟨rfl, hb⟩
  replace kd0 := cell_later hb kd0
  replace kd1 := cell_later hb kd1
  replace kd2 := cell_later hb kd2
  replace kd3 := cell_later hb kd3
  replace kd4 := cell_later hb kd4
  replace kd5 := cell_later hb kd5
  replace kd6 := cell_later hb kd6
  replace kd7 := cell_later hb kd7
  replace kd8 := cell_later hb kd8
  replace ke0 := cell_later hb ke0
  replace ke1 := cell_later hb ke1
  replace ke2 := cell_later hb ke2
  replace ke3 := cell_later hb ke3
  replace ke4 := cell_later hb ke4
  replace ke5 := cell_later hb ke5
  replace ke6 := cell_later hb ke6
  replace ke7 := cell_later hb ke7
  replace ke8 := cell_later hb ke8
  replace ks0 := cell_later hb ks0
  replace ks1 := cell_later hb ks1
  replace ks2 := cell_later hb ks2
  replace ks3 := cell_later hb ks3
  replace ks4 := cell_later hb ks4
  replace ks5 := cell_later hb ks5
  replace ks6 := cell_later hb ks6
  replace ks7 := cell_later hb ks7
  replace ka0 := cell_later hb ka0
  replace ka1 := cell_later hb ka1
  replace ka2 := cell_later hb ka2
  replace ka3 := cell_later hb ka3
  replace ka4 := cell_later hb ka4
  replace ka5 := cell_later hb ka5
  replace ka6 := cell_later hb ka6
  replace ka7 := cell_later hb ka7
  replace ka8 := cell_later hb ka8
  replace kx0 := cell_later hb kx0
  replace kx1 := cell_later hb kx1
  replace kx2 := cell_later hb kx2
  replace kx3 := cell_later hb kx3
  replace kx4 := cell_later hb kx4
  replace kx5 := cell_later hb kx5
  replace kx6 := cell_later hb kx6
  replace kx7 := cell_later hb kx7
  replace kx8 := cell_later hb kx8
  replace kx9 := cell_later hb kx9
  replace kx10 := cell_later hb kx10
  replace kx11 := cell_later hb kx11
  replace kx12 := cell_later hb kx12
  replace kx13 := cell_later hb kx13
  replace kx14 := cell_later hb kx14
  replace kx15 := cell_later hb kx15
  replace kx16 := cell_later hb kx16
  replace kx17 := cell_later hb kx17
  replace ky0 := cell_later hb ky0
  replace ky1 := cell_later hb ky1
  replace ky2 := cell_later hb ky2
  replace ky3 := cell_later hb ky3
  replace ky4 := cell_later hb ky4
  replace ky5 := cell_later hb ky5
  replace ky6 := cell_later hb ky6
  replace ky7 := cell_later hb ky7
  replace ky8 := cell_later hb ky8
  replace ky9 := cell_later hb ky9
  replace ky10 := cell_later hb ky10
  replace ky11 := cell_later hb ky11
  replace ky12 := cell_later hb ky12
  replace ky13 := cell_later hb ky13
  replace ky14 := cell_later hb ky14
  replace ky15 := cell_later hb ky15
  replace ky16 := cell_later hb ky16
  replace ky17 := cell_later hb ky17
  replace kbx0 := cell_later hb kbx0
  replace kbx1 := cell_later hb kbx1
  replace kbx2 := cell_later hb kbx2
  replace kbx3 := cell_later hb kbx3
  replace zd : w1.heap.size < w14.heap.size := World.block_lt_of_cell? _ _ kd0
  replace ze : w2.heap.size < w14.heap.size := World.block_lt_of_cell? _ _ ke0
  replace zs : w2.heap.size + 1 < w14.heap.size := World.block_lt_of_cell? _ _ ks0
  replace za : w2.heap.size + 1 + 1 < w14.heap.size := World.block_lt_of_cell? _ _ ka0
  replace zx : w10.heap.size < w14.heap.size := World.block_lt_of_cell? _ _ kx0
  replace zy : w11.heap.size < w14.heap.size := World.block_lt_of_cell? _ _ ky0
  replace zbx : w13.heap.size < w14.heap.size := World.block_lt_of_cell? _ _ kbx0
  replace hb0 : Below w.heap.size w w14 := bstep hb0 hb
  clear hb
  go_wp2_with fail
  refine Calls.mono (li_1 _ _ (rowA ks0 ks1 ks2 ks3 ks4 ks5 ks6 ks7)) ?_
  rintro e wz ⟨rfl, hb⟩
  go_wp2
  go_ret
  exact ⟨rfl, (by repeat (first | with_reducible exact Below.refl _ _ | with_reducible assumption | with_reducible refine Below.setCell ?_ (by first | omega | (simp <;> omega)) _ | with_reducible refine balloc ?_ _ | with_reducible refine Below.drew ?_ | with_reducible refine bstep ?_ (by with_reducible assumption)))⟩

end Go.Proofs.YtfgajejhjbfhjaaGreat.Fe

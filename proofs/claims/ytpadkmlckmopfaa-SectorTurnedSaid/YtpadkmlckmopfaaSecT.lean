/- SecT: In, Color. -/
import Derived.Test.YtpadkmlckmopfaaSecL
import Derived.Test.YtpadkmlckmopfaaSecI
import Derived.Test.YtpadkmlckmopfaaRows
import Derived.WalkKit
import Derived.WalkSpells
import Derived.WalkLawsBesides
import Derived.Lib.Hide
import Derived.Deep.QuietTactic
import Derived.BigQuiet
import Derived.RegionTactic
import Derived.ChangeAlike
import Derived.BigRegion
import Derived.Deep.RegionHeld3
import Derived.Deep.RegionWith
import Derived.Outline
import Derived.IntWalk
import Derived.Deep.DeepCutAuto
namespace Go.Proofs.Ytpadkmlckmopfaa.Se
open Go.RowKit
set_option linter.unusedSimpArgs false
set_option linter.unusedVariables false

set_option maxRecDepth 20000 in
set_option maxHeartbeats 3200000 in
theorem In_ok (s1 s2 s3 s4 s5 s6 v1 v2 : Int) (w : World) (hs : vaS ⟨s1, s2, s3, s4, s5, s6⟩ = true) (hv : okD (v1, v2) = true) : Calls Try.prog 14 #[(.agg #[(.int .i64 s1), (.int .i64 s2), (.int .i64 s3), (.int .i64 s4), (.int .i64 s5), (.int .i64 s6)]), (.agg #[(.int .i64 v1), (.int .i64 v2)])] w (Ret w (.tuple #[(.bool (hasS ⟨s1, s2, s3, s4, s5, s6⟩ (v1, v2))), (.int .i64 0)])) := by
  have hv1 := okD_W hv
  have hs1 := vaS_ok hs
  have hE : hasS ⟨s1, s2, s3, s4, s5, s6⟩ (v1, v2) = hasV (s1, s2) (s3, s4) (v1, v2) := rfl
  rw [hE]
  clear hE
  have C1 : ∀ w, Calls Try.prog 35 #[.agg #[(.int .i64 s1), (.int .i64 s2), (.int .i64 s3), (.int .i64 s4), (.int .i64 s5), (.int .i64 s6)]] w (Ret w (.bool true)) := fun w => by have := vs_c s1 s2 s3 s4 s5 s6 w; rwa [hs] at this
  have C2 : ∀ w, Calls Try.prog 36 #[(.agg #[.int .i64 v1, .int .i64 v2])] w (Ret w (.bool true)) := fun w => by have := vd_c v1 v2 w; rwa [hv] at this
  go_enter Try.func14, Try.ntmps14
  go_wp2_with fail
  refine Calls.mono (C1 _) ?_
  rintro e w1 ⟨rfl, hb⟩
  have ks0 : w1.cell? ⟨w.heap.size, 0, none⟩ = some (.int .i64 s1) := cell_later hb (by go_simp)
  have ks1 : w1.cell? ⟨w.heap.size, 1, none⟩ = some (.int .i64 s2) := cell_later hb (by go_simp)
  have ks2 : w1.cell? ⟨w.heap.size, 2, none⟩ = some (.int .i64 s3) := cell_later hb (by go_simp)
  have ks3 : w1.cell? ⟨w.heap.size, 3, none⟩ = some (.int .i64 s4) := cell_later hb (by go_simp)
  have ks4 : w1.cell? ⟨w.heap.size, 4, none⟩ = some (.int .i64 s5) := cell_later hb (by go_simp)
  have ks5 : w1.cell? ⟨w.heap.size, 5, none⟩ = some (.int .i64 s6) := cell_later hb (by go_simp)
  have kv0 : w1.cell? ⟨w.heap.size + 1, 0, none⟩ = some (.int .i64 v1) := cell_later hb (by go_simp)
  have kv1 : w1.cell? ⟨w.heap.size + 1, 1, none⟩ = some (.int .i64 v2) := cell_later hb (by go_simp)
  have zs : w.heap.size < w1.heap.size := World.block_lt_of_cell? _ _ ks0
  have zs_w1 := zs
  have zv : w.heap.size + 1 < w1.heap.size := World.block_lt_of_cell? _ _ kv0
  have zv_w1 := zv
  have hb0 : Below w.heap.size w w1 := (by repeat (first | with_reducible exact Below.refl _ _ | with_reducible assumption | with_reducible refine Below.setCell ?_ (by first | omega | (simp <;> omega)) _ | with_reducible refine balloc ?_ _ | with_reducible refine Below.drew ?_ | with_reducible refine bstep ?_ (by with_reducible assumption)))
  have hs_w1 := hb.size; (try simp only [World.size_alloc, World.size_setCell] at hs_w1)
  clear hb
  go_wp2_with fail
  refine Calls.mono (C2 _) ?_
  rintro e w2 ⟨rfl, hb⟩
  replace ks0 := cell_later hb ks0
  replace ks1 := cell_later hb ks1
  replace ks2 := cell_later hb ks2
  replace ks3 := cell_later hb ks3
  replace ks4 := cell_later hb ks4
  replace ks5 := cell_later hb ks5
  replace kv0 := cell_later hb kv0
  replace kv1 := cell_later hb kv1
  replace zs : w.heap.size < w2.heap.size := World.block_lt_of_cell? _ _ ks0
  have zs_w2 := zs
  replace zv : w.heap.size + 1 < w2.heap.size := World.block_lt_of_cell? _ _ kv0
  have zv_w2 := zv
  replace hb0 : Below w.heap.size w w2 := (by repeat (first | with_reducible exact Below.refl _ _ | with_reducible assumption | with_reducible refine Below.setCell ?_ (by first | omega | (simp <;> omega)) _ | with_reducible refine balloc ?_ _ | with_reducible refine Below.drew ?_ | with_reducible refine bstep ?_ (by with_reducible assumption)))
  have hs_w2 : w1.heap.size ≤ w2.heap.size := hb.size
  clear hb
  go_wp2_with fail
  refine Calls.mono (has_c s1 s2 s3 s4 s5 s6 v1 v2 _ hs1.1 hs1.2 hv1) ?_
  rintro e w3 ⟨rfl, hb⟩
  replace ks0 := cell_later hb ks0
  replace ks1 := cell_later hb ks1
  replace ks2 := cell_later hb ks2
  replace ks3 := cell_later hb ks3
  replace ks4 := cell_later hb ks4
  replace ks5 := cell_later hb ks5
  replace kv0 := cell_later hb kv0
  replace kv1 := cell_later hb kv1
  replace zs : w.heap.size < w3.heap.size := World.block_lt_of_cell? _ _ ks0
  have zs_w3 := zs
  replace zv : w.heap.size + 1 < w3.heap.size := World.block_lt_of_cell? _ _ kv0
  have zv_w3 := zv
  replace hb0 : Below w.heap.size w w3 := (by repeat (first | with_reducible exact Below.refl _ _ | with_reducible assumption | with_reducible refine Below.setCell ?_ (by first | omega | (simp <;> omega)) _ | with_reducible refine balloc ?_ _ | with_reducible refine Below.drew ?_ | with_reducible refine bstep ?_ (by with_reducible assumption)))
  have hs_w3 : w2.heap.size ≤ w3.heap.size := hb.size
  clear hb
  go_wp2
  go_ret2
  exact ⟨rfl, (by repeat (first | with_reducible exact Below.refl _ _ | with_reducible assumption | with_reducible refine Below.setCell ?_ (by first | omega | (simp <;> omega)) _ | with_reducible refine balloc ?_ _ | with_reducible refine Below.drew ?_ | with_reducible refine bstep ?_ (by with_reducible assumption)))⟩

set_option maxRecDepth 20000 in
set_option maxHeartbeats 3200000 in
theorem In_no (s1 s2 s3 s4 s5 s6 v1 v2 : Int) (w : World) (h : (vaS ⟨s1, s2, s3, s4, s5, s6⟩ && okD (v1, v2)) = false) : Calls Try.prog 14 #[(.agg #[(.int .i64 s1), (.int .i64 s2), (.int .i64 s3), (.int .i64 s4), (.int .i64 s5), (.int .i64 s6)]), (.agg #[(.int .i64 v1), (.int .i64 v2)])] w (Ret w (.tuple #[(.bool false), (.int .i64 1)])) := by
  cases hs : vaS ⟨s1, s2, s3, s4, s5, s6⟩
  · have C1 : ∀ w, Calls Try.prog 35 #[.agg #[(.int .i64 s1), (.int .i64 s2), (.int .i64 s3), (.int .i64 s4), (.int .i64 s5), (.int .i64 s6)]] w (Ret w (.bool false)) := fun w => by have := vs_c s1 s2 s3 s4 s5 s6 w; rwa [hs] at this
    go_enter Try.func14, Try.ntmps14
    go_wp2_with fail
    refine Calls.mono (C1 _) ?_
    rintro e w1 ⟨rfl, hb⟩
    have ks0 : w1.cell? ⟨w.heap.size, 0, none⟩ = some (.int .i64 s1) := cell_later hb (by go_simp)
    have ks1 : w1.cell? ⟨w.heap.size, 1, none⟩ = some (.int .i64 s2) := cell_later hb (by go_simp)
    have ks2 : w1.cell? ⟨w.heap.size, 2, none⟩ = some (.int .i64 s3) := cell_later hb (by go_simp)
    have ks3 : w1.cell? ⟨w.heap.size, 3, none⟩ = some (.int .i64 s4) := cell_later hb (by go_simp)
    have ks4 : w1.cell? ⟨w.heap.size, 4, none⟩ = some (.int .i64 s5) := cell_later hb (by go_simp)
    have ks5 : w1.cell? ⟨w.heap.size, 5, none⟩ = some (.int .i64 s6) := cell_later hb (by go_simp)
    have kv0 : w1.cell? ⟨w.heap.size + 1, 0, none⟩ = some (.int .i64 v1) := cell_later hb (by go_simp)
    have kv1 : w1.cell? ⟨w.heap.size + 1, 1, none⟩ = some (.int .i64 v2) := cell_later hb (by go_simp)
    have zs : w.heap.size < w1.heap.size := World.block_lt_of_cell? _ _ ks0
    have zs_w1 := zs
    have zv : w.heap.size + 1 < w1.heap.size := World.block_lt_of_cell? _ _ kv0
    have zv_w1 := zv
    have hb0 : Below w.heap.size w w1 := (by repeat (first | with_reducible exact Below.refl _ _ | with_reducible assumption | with_reducible refine Below.setCell ?_ (by first | omega | (simp <;> omega)) _ | with_reducible refine balloc ?_ _ | with_reducible refine Below.drew ?_ | with_reducible refine bstep ?_ (by with_reducible assumption)))
    have hs_w1 := hb.size; (try simp only [World.size_alloc, World.size_setCell] at hs_w1)
    clear hb
    go_wp2
    go_ret2
    exact ⟨rfl, (by repeat (first | with_reducible exact Below.refl _ _ | with_reducible assumption | with_reducible refine Below.setCell ?_ (by first | omega | (simp <;> omega)) _ | with_reducible refine balloc ?_ _ | with_reducible refine Below.drew ?_ | with_reducible refine bstep ?_ (by with_reducible assumption)))⟩
  · have hv : okD (v1, v2) = false := by rw [hs] at h; simpa using h
    have C1 : ∀ w, Calls Try.prog 35 #[.agg #[(.int .i64 s1), (.int .i64 s2), (.int .i64 s3), (.int .i64 s4), (.int .i64 s5), (.int .i64 s6)]] w (Ret w (.bool true)) := fun w => by have := vs_c s1 s2 s3 s4 s5 s6 w; rwa [hs] at this
    have C2 : ∀ w, Calls Try.prog 36 #[(.agg #[.int .i64 v1, .int .i64 v2])] w (Ret w (.bool false)) := fun w => by have := vd_c v1 v2 w; rwa [hv] at this
    go_enter Try.func14, Try.ntmps14
    go_wp2_with fail
    refine Calls.mono (C1 _) ?_
    rintro e w1 ⟨rfl, hb⟩
    have ks0 : w1.cell? ⟨w.heap.size, 0, none⟩ = some (.int .i64 s1) := cell_later hb (by go_simp)
    have ks1 : w1.cell? ⟨w.heap.size, 1, none⟩ = some (.int .i64 s2) := cell_later hb (by go_simp)
    have ks2 : w1.cell? ⟨w.heap.size, 2, none⟩ = some (.int .i64 s3) := cell_later hb (by go_simp)
    have ks3 : w1.cell? ⟨w.heap.size, 3, none⟩ = some (.int .i64 s4) := cell_later hb (by go_simp)
    have ks4 : w1.cell? ⟨w.heap.size, 4, none⟩ = some (.int .i64 s5) := cell_later hb (by go_simp)
    have ks5 : w1.cell? ⟨w.heap.size, 5, none⟩ = some (.int .i64 s6) := cell_later hb (by go_simp)
    have kv0 : w1.cell? ⟨w.heap.size + 1, 0, none⟩ = some (.int .i64 v1) := cell_later hb (by go_simp)
    have kv1 : w1.cell? ⟨w.heap.size + 1, 1, none⟩ = some (.int .i64 v2) := cell_later hb (by go_simp)
    have zs : w.heap.size < w1.heap.size := World.block_lt_of_cell? _ _ ks0
    have zs_w1 := zs
    have zv : w.heap.size + 1 < w1.heap.size := World.block_lt_of_cell? _ _ kv0
    have zv_w1 := zv
    have hb0 : Below w.heap.size w w1 := (by repeat (first | with_reducible exact Below.refl _ _ | with_reducible assumption | with_reducible refine Below.setCell ?_ (by first | omega | (simp <;> omega)) _ | with_reducible refine balloc ?_ _ | with_reducible refine Below.drew ?_ | with_reducible refine bstep ?_ (by with_reducible assumption)))
    have hs_w1 := hb.size; (try simp only [World.size_alloc, World.size_setCell] at hs_w1)
    clear hb
    go_wp2_with fail
    refine Calls.mono (C2 _) ?_
    rintro e w2 ⟨rfl, hb⟩
    replace ks0 := cell_later hb ks0
    replace ks1 := cell_later hb ks1
    replace ks2 := cell_later hb ks2
    replace ks3 := cell_later hb ks3
    replace ks4 := cell_later hb ks4
    replace ks5 := cell_later hb ks5
    replace kv0 := cell_later hb kv0
    replace kv1 := cell_later hb kv1
    replace zs : w.heap.size < w2.heap.size := World.block_lt_of_cell? _ _ ks0
    have zs_w2 := zs
    replace zv : w.heap.size + 1 < w2.heap.size := World.block_lt_of_cell? _ _ kv0
    have zv_w2 := zv
    replace hb0 : Below w.heap.size w w2 := (by repeat (first | with_reducible exact Below.refl _ _ | with_reducible assumption | with_reducible refine Below.setCell ?_ (by first | omega | (simp <;> omega)) _ | with_reducible refine balloc ?_ _ | with_reducible refine Below.drew ?_ | with_reducible refine bstep ?_ (by with_reducible assumption)))
    have hs_w2 : w1.heap.size ≤ w2.heap.size := hb.size
    clear hb
    go_wp2
    go_ret2
    exact ⟨rfl, (by repeat (first | with_reducible exact Below.refl _ _ | with_reducible assumption | with_reducible refine Below.setCell ?_ (by first | omega | (simp <;> omega)) _ | with_reducible refine balloc ?_ _ | with_reducible refine Below.drew ?_ | with_reducible refine bstep ?_ (by with_reducible assumption)))⟩

set_option maxRecDepth 20000 in
set_option maxHeartbeats 3200000 in
theorem Color_ok (a : Value) (l : List Sec) (v1 v2 : Int) (w : World) (ha : Secs w a l) (va : vaL l = true) (hv : okD (v1, v2) = true) : Calls Try.prog 16 #[a, (.agg #[.int .i64 v1, .int .i64 v2])] w (Ret w (.tuple #[(.int .i64 ((shL l (v1, v2)).1)), (.int .i64 ((shL l (v1, v2)).2)), (.int .i64 0)])) := by
  obtain ⟨pa, ca, rfl⟩ : ∃ p c, a = .slice p l.length c := by obtain ⟨⟨p, c, h, _⟩, _⟩ := ha; exact ⟨p, c, h⟩
  have C1 : ∀ W, Below w.heap.size w W → Calls Try.prog 12 #[(.slice pa l.length ca)] W (Ret W (.bool true)) := fun W h => by have := Valid_c _ l W (ha.below h); rwa [va] at this
  have hal := vaL_all va
  have C2 : ∀ w, Calls Try.prog 36 #[(.agg #[.int .i64 v1, .int .i64 v2])] w (Ret w (.bool true)) := fun w => by have := vd_c v1 v2 w; rwa [hv] at this
  have C3 : ∀ W, Below w.heap.size w W → Calls Try.prog 39 #[(.slice pa l.length ca), (.agg #[.int .i64 v1, .int .i64 v2])] W (Ret W (.agg #[(.int .i64 0), (.int .i64 0), (.int .i64 0), (.int .i64 0), (.int .i64 ((shL l (v1, v2)).1)), (.int .i64 ((shL l (v1, v2)).2))])) := fun W h => shown_s v1 v2 (ha.below h) (by omega) hal.2 (okD_W hv)
  generalize shL l (v1, v2) = q at *
  obtain ⟨q1, q2⟩ := q
  dsimp only at C3
  dsimp only
  have H1 := Lib.hid C1
  have H3 := Lib.hid C3
  clear C1 C3 ha
  go_enter Try.func16, Try.ntmps16
  go_wp2_with fail
  refine Calls.mono (H1.out _ (by repeat (first | with_reducible exact Below.refl _ _ | with_reducible assumption | with_reducible refine Below.setCell ?_ (by first | omega | (simp <;> omega)) _ | with_reducible refine balloc ?_ _ | with_reducible refine Below.drew ?_ | with_reducible refine bstep ?_ (by with_reducible assumption)))) ?_
  rintro e w1 ⟨rfl, hb⟩
  have kv0 : w1.cell? ⟨w.heap.size, 0, none⟩ = some (.int .i64 v1) := cell_later hb (by go_simp)
  have kv1 : w1.cell? ⟨w.heap.size, 1, none⟩ = some (.int .i64 v2) := cell_later hb (by go_simp)
  have zv : w.heap.size < w1.heap.size := World.block_lt_of_cell? _ _ kv0
  have zv_w1 := zv
  have hb0 : Below w.heap.size w w1 := (by repeat (first | with_reducible exact Below.refl _ _ | with_reducible assumption | with_reducible refine Below.setCell ?_ (by first | omega | (simp <;> omega)) _ | with_reducible refine balloc ?_ _ | with_reducible refine Below.drew ?_ | with_reducible refine bstep ?_ (by with_reducible assumption)))
  have hs_w1 := hb.size; (try simp only [World.size_alloc, World.size_setCell] at hs_w1)
  clear hb
  go_wp2_with fail
  refine Calls.mono (C2 _) ?_
  rintro e w2 ⟨rfl, hb⟩
  replace kv0 := cell_later hb kv0
  replace kv1 := cell_later hb kv1
  replace zv : w.heap.size < w2.heap.size := World.block_lt_of_cell? _ _ kv0
  have zv_w2 := zv
  replace hb0 : Below w.heap.size w w2 := (by repeat (first | with_reducible exact Below.refl _ _ | with_reducible assumption | with_reducible refine Below.setCell ?_ (by first | omega | (simp <;> omega)) _ | with_reducible refine balloc ?_ _ | with_reducible refine Below.drew ?_ | with_reducible refine bstep ?_ (by with_reducible assumption)))
  have hs_w2 : w1.heap.size ≤ w2.heap.size := hb.size
  clear hb
  go_wp2_with fail
  refine Calls.mono (H3.out _ (by repeat (first | with_reducible exact Below.refl _ _ | with_reducible assumption | with_reducible refine Below.setCell ?_ (by first | omega | (simp <;> omega)) _ | with_reducible refine balloc ?_ _ | with_reducible refine Below.drew ?_ | with_reducible refine bstep ?_ (by with_reducible assumption)))) ?_
  rintro e w3 ⟨rfl, hb⟩
  replace kv0 := cell_later hb kv0
  replace kv1 := cell_later hb kv1
  replace zv : w.heap.size < w3.heap.size := World.block_lt_of_cell? _ _ kv0
  have zv_w3 := zv
  replace hb0 : Below w.heap.size w w3 := (by repeat (first | with_reducible exact Below.refl _ _ | with_reducible assumption | with_reducible refine Below.setCell ?_ (by first | omega | (simp <;> omega)) _ | with_reducible refine balloc ?_ _ | with_reducible refine Below.drew ?_ | with_reducible refine bstep ?_ (by with_reducible assumption)))
  have hs_w3 : w2.heap.size ≤ w3.heap.size := hb.size
  clear hb
  go_wp2_with fail
  go_region
  all_goals
    go_wp2
    refine bodyPost_ret ?_ rfl ⟨rfl, (by repeat (first | with_reducible exact Below.refl _ _ | with_reducible assumption | with_reducible refine Below.setCell ?_ (by first | omega | (simp <;> omega)) _ | with_reducible refine balloc ?_ _ | with_reducible refine Below.drew ?_ | with_reducible refine bstep ?_ (by with_reducible assumption)))⟩
    simp [results, Try.results16, go_sem]

set_option maxRecDepth 20000 in
set_option maxHeartbeats 3200000 in
theorem Color_no (a : Value) (l : List Sec) (v1 v2 : Int) (w : World) (ha : Secs w a l) (h : (vaL l && okD (v1, v2)) = false) : Calls Try.prog 16 #[a, (.agg #[.int .i64 v1, .int .i64 v2])] w (Ret w (.tuple #[(.int .i64 0), (.int .i64 0), (.int .i64 1)])) := by
  obtain ⟨pa, ca, rfl⟩ : ∃ p c, a = .slice p l.length c := by obtain ⟨⟨p, c, h, _⟩, _⟩ := ha; exact ⟨p, c, h⟩
  cases va : vaL l
  · have C1 : ∀ W, Below w.heap.size w W → Calls Try.prog 12 #[(.slice pa l.length ca)] W (Ret W (.bool false)) := fun W h => by have := Valid_c _ l W (ha.below h); rwa [va] at this
    have H1 := Lib.hid C1
    clear C1 ha
    go_enter Try.func16, Try.ntmps16
    go_wp2_with fail
    refine Calls.mono (H1.out _ (by repeat (first | with_reducible exact Below.refl _ _ | with_reducible assumption | with_reducible refine Below.setCell ?_ (by first | omega | (simp <;> omega)) _ | with_reducible refine balloc ?_ _ | with_reducible refine Below.drew ?_ | with_reducible refine bstep ?_ (by with_reducible assumption)))) ?_
    rintro e w1 ⟨rfl, hb⟩
    have kv0 : w1.cell? ⟨w.heap.size, 0, none⟩ = some (.int .i64 v1) := cell_later hb (by go_simp)
    have kv1 : w1.cell? ⟨w.heap.size, 1, none⟩ = some (.int .i64 v2) := cell_later hb (by go_simp)
    have zv : w.heap.size < w1.heap.size := World.block_lt_of_cell? _ _ kv0
    have zv_w1 := zv
    have hb0 : Below w.heap.size w w1 := (by repeat (first | with_reducible exact Below.refl _ _ | with_reducible assumption | with_reducible refine Below.setCell ?_ (by first | omega | (simp <;> omega)) _ | with_reducible refine balloc ?_ _ | with_reducible refine Below.drew ?_ | with_reducible refine bstep ?_ (by with_reducible assumption)))
    have hs_w1 := hb.size; (try simp only [World.size_alloc, World.size_setCell] at hs_w1)
    clear hb
    go_wp2
    refine bodyPost_ret ?_ rfl ⟨rfl, (by repeat (first | with_reducible exact Below.refl _ _ | with_reducible assumption | with_reducible refine Below.setCell ?_ (by first | omega | (simp <;> omega)) _ | with_reducible refine balloc ?_ _ | with_reducible refine Below.drew ?_ | with_reducible refine bstep ?_ (by with_reducible assumption)))⟩
    simp [results, Try.results16, go_sem]
  · have hv : okD (v1, v2) = false := by rw [va] at h; simpa using h
    have C1 : ∀ W, Below w.heap.size w W → Calls Try.prog 12 #[(.slice pa l.length ca)] W (Ret W (.bool true)) := fun W h => by have := Valid_c _ l W (ha.below h); rwa [va] at this
    have C2 : ∀ w, Calls Try.prog 36 #[(.agg #[.int .i64 v1, .int .i64 v2])] w (Ret w (.bool false)) := fun w => by have := vd_c v1 v2 w; rwa [hv] at this
    have H1 := Lib.hid C1
    clear C1 ha
    go_enter Try.func16, Try.ntmps16
    go_wp2_with fail
    refine Calls.mono (H1.out _ (by repeat (first | with_reducible exact Below.refl _ _ | with_reducible assumption | with_reducible refine Below.setCell ?_ (by first | omega | (simp <;> omega)) _ | with_reducible refine balloc ?_ _ | with_reducible refine Below.drew ?_ | with_reducible refine bstep ?_ (by with_reducible assumption)))) ?_
    rintro e w1 ⟨rfl, hb⟩
    have kv0 : w1.cell? ⟨w.heap.size, 0, none⟩ = some (.int .i64 v1) := cell_later hb (by go_simp)
    have kv1 : w1.cell? ⟨w.heap.size, 1, none⟩ = some (.int .i64 v2) := cell_later hb (by go_simp)
    have zv : w.heap.size < w1.heap.size := World.block_lt_of_cell? _ _ kv0
    have zv_w1 := zv
    have hb0 : Below w.heap.size w w1 := (by repeat (first | with_reducible exact Below.refl _ _ | with_reducible assumption | with_reducible refine Below.setCell ?_ (by first | omega | (simp <;> omega)) _ | with_reducible refine balloc ?_ _ | with_reducible refine Below.drew ?_ | with_reducible refine bstep ?_ (by with_reducible assumption)))
    have hs_w1 := hb.size; (try simp only [World.size_alloc, World.size_setCell] at hs_w1)
    clear hb
    go_wp2_with fail
    refine Calls.mono (C2 _) ?_
    rintro e w2 ⟨rfl, hb⟩
    replace kv0 := cell_later hb kv0
    replace kv1 := cell_later hb kv1
    replace zv : w.heap.size < w2.heap.size := World.block_lt_of_cell? _ _ kv0
    have zv_w2 := zv
    replace hb0 : Below w.heap.size w w2 := (by repeat (first | with_reducible exact Below.refl _ _ | with_reducible assumption | with_reducible refine Below.setCell ?_ (by first | omega | (simp <;> omega)) _ | with_reducible refine balloc ?_ _ | with_reducible refine Below.drew ?_ | with_reducible refine bstep ?_ (by with_reducible assumption)))
    have hs_w2 : w1.heap.size ≤ w2.heap.size := hb.size
    clear hb
    go_wp2
    refine bodyPost_ret ?_ rfl ⟨rfl, (by repeat (first | with_reducible exact Below.refl _ _ | with_reducible assumption | with_reducible refine Below.setCell ?_ (by first | omega | (simp <;> omega)) _ | with_reducible refine balloc ?_ _ | with_reducible refine Below.drew ?_ | with_reducible refine bstep ?_ (by with_reducible assumption)))⟩
    simp [results, Try.results16, go_sem]


end Go.Proofs.Ytpadkmlckmopfaa.Se

/- SecC: validSector, has, overlap. -/
import Derived.Test.YtpadkmlckmopfaaSecB
import Derived.Test.YtpadkmlckmopfaaRows
import Derived.WalkKit
import Derived.WalkSpells
import Derived.WalkLawsBesides
import Derived.Lib.Hide
import Derived.Deep.QuietTactic
import Derived.BigQuiet
import Derived.RegionTactic
import Derived.ChangeAlike
import Derived.BigRegion
import Derived.Deep.RegionHeld3
import Derived.Deep.RegionWith
import Derived.Outline
import Derived.IntWalk
import Derived.Deep.DeepCutAuto
namespace Go.Proofs.Ytpadkmlckmopfaa.Se
open Go.RowKit
set_option linter.unusedSimpArgs false
set_option linter.unusedVariables false

set_option maxHeartbeats 3200000 in
theorem vs_c (s1 s2 s3 s4 s5 s6 : Int) (w : World)  : Calls Try.prog 35 #[(.agg #[(.int .i64 s1), (.int .i64 s2), (.int .i64 s3), (.int .i64 s4), (.int .i64 s5), (.int .i64 s6)])] w (Ret w (.bool (vaS ⟨s1, s2, s3, s4, s5, s6⟩))) := by
  have C1 : ∀ w, Calls Try.prog 36 #[.agg #[(.int .i64 s1), (.int .i64 s2)]] w (Ret w (.bool (okD (s1, s2)))) := fun w => vd_c _ _ w
  have C2 : ∀ w, Calls Try.prog 36 #[.agg #[(.int .i64 s3), (.int .i64 s4)]] w (Ret w (.bool (okD (s3, s4)))) := fun w => vd_c _ _ w
  have C3 : ∀ w, Calls Try.prog 41 #[(.int .i64 s5), (.int .i64 1), (.int .i64 3)] w (Same w (.bool (btB s5 1 3))) := fun w => bt_c _ _ _ w
  have C4 : ∀ w, Calls Try.prog 41 #[(.int .i64 s6), (.int .i64 1), (.int .i64 3000000)] w (Same w (.bool (btB s6 1 3000000))) := fun w => bt_c _ _ _ w
  have hE : vaS ⟨s1, s2, s3, s4, s5, s6⟩ = (okD (s1, s2) && (okD (s3, s4) && (btB s5 1 3 && btB s6 1 3000000))) := rfl
  rw [hE]
  clear hE
  generalize okD (s1, s2) = x at *
  generalize okD (s3, s4) = y at *
  generalize btB s5 1 3 = z at *
  generalize btB s6 1 3000000 = u at *
  cases x
  · go_enter Try.func35, Try.ntmps35
    go_wp2_with fail
    refine Calls.mono (C1 _) ?_
    rintro e w1 ⟨rfl, hb⟩
    have ks0 : w1.cell? ⟨w.heap.size, 0, none⟩ = some (.int .i64 s1) := cell_later hb (by go_simp)
    have ks1 : w1.cell? ⟨w.heap.size, 1, none⟩ = some (.int .i64 s2) := cell_later hb (by go_simp)
    have ks2 : w1.cell? ⟨w.heap.size, 2, none⟩ = some (.int .i64 s3) := cell_later hb (by go_simp)
    have ks3 : w1.cell? ⟨w.heap.size, 3, none⟩ = some (.int .i64 s4) := cell_later hb (by go_simp)
    have ks4 : w1.cell? ⟨w.heap.size, 4, none⟩ = some (.int .i64 s5) := cell_later hb (by go_simp)
    have ks5 : w1.cell? ⟨w.heap.size, 5, none⟩ = some (.int .i64 s6) := cell_later hb (by go_simp)
    have zs : w.heap.size < w1.heap.size := World.block_lt_of_cell? _ _ ks0
    have zs_w1 := zs
    have hb0 : Below w.heap.size w w1 := (by repeat (first | with_reducible exact Below.refl _ _ | with_reducible assumption | with_reducible refine Below.setCell ?_ (by first | omega | (simp <;> omega)) _ | with_reducible refine balloc ?_ _ | with_reducible refine Below.drew ?_ | with_reducible refine bstep ?_ (by with_reducible assumption)))
    have hs_w1 := hb.size; (try simp only [World.size_alloc, World.size_setCell] at hs_w1)
    clear hb
    go_wp2
    go_ret
    exact ret_bool (by simp) (by repeat (first | with_reducible exact Below.refl _ _ | with_reducible assumption | with_reducible refine Below.setCell ?_ (by first | omega | (simp <;> omega)) _ | with_reducible refine balloc ?_ _ | with_reducible refine Below.drew ?_ | with_reducible refine bstep ?_ (by with_reducible assumption)))
  · cases y
    · go_enter Try.func35, Try.ntmps35
      go_wp2_with fail
      refine Calls.mono (C1 _) ?_
      rintro e w1 ⟨rfl, hb⟩
      have ks0 : w1.cell? ⟨w.heap.size, 0, none⟩ = some (.int .i64 s1) := cell_later hb (by go_simp)
      have ks1 : w1.cell? ⟨w.heap.size, 1, none⟩ = some (.int .i64 s2) := cell_later hb (by go_simp)
      have ks2 : w1.cell? ⟨w.heap.size, 2, none⟩ = some (.int .i64 s3) := cell_later hb (by go_simp)
      have ks3 : w1.cell? ⟨w.heap.size, 3, none⟩ = some (.int .i64 s4) := cell_later hb (by go_simp)
      have ks4 : w1.cell? ⟨w.heap.size, 4, none⟩ = some (.int .i64 s5) := cell_later hb (by go_simp)
      have ks5 : w1.cell? ⟨w.heap.size, 5, none⟩ = some (.int .i64 s6) := cell_later hb (by go_simp)
      have zs : w.heap.size < w1.heap.size := World.block_lt_of_cell? _ _ ks0
      have zs_w1 := zs
      have hb0 : Below w.heap.size w w1 := (by repeat (first | with_reducible exact Below.refl _ _ | with_reducible assumption | with_reducible refine Below.setCell ?_ (by first | omega | (simp <;> omega)) _ | with_reducible refine balloc ?_ _ | with_reducible refine Below.drew ?_ | with_reducible refine bstep ?_ (by with_reducible assumption)))
      have hs_w1 := hb.size; (try simp only [World.size_alloc, World.size_setCell] at hs_w1)
      clear hb
      go_wp2_with fail
      refine Calls.mono (C2 _) ?_
      rintro e w2 ⟨rfl, hb⟩
      replace ks0 := cell_later hb ks0
      replace ks1 := cell_later hb ks1
      replace ks2 := cell_later hb ks2
      replace ks3 := cell_later hb ks3
      replace ks4 := cell_later hb ks4
      replace ks5 := cell_later hb ks5
      replace zs : w.heap.size < w2.heap.size := World.block_lt_of_cell? _ _ ks0
      have zs_w2 := zs
      replace hb0 : Below w.heap.size w w2 := (by repeat (first | with_reducible exact Below.refl _ _ | with_reducible assumption | with_reducible refine Below.setCell ?_ (by first | omega | (simp <;> omega)) _ | with_reducible refine balloc ?_ _ | with_reducible refine Below.drew ?_ | with_reducible refine bstep ?_ (by with_reducible assumption)))
      have hs_w2 : w1.heap.size ≤ w2.heap.size := hb.size
      clear hb
      go_wp2
      go_ret
      exact ret_bool (by simp) (by repeat (first | with_reducible exact Below.refl _ _ | with_reducible assumption | with_reducible refine Below.setCell ?_ (by first | omega | (simp <;> omega)) _ | with_reducible refine balloc ?_ _ | with_reducible refine Below.drew ?_ | with_reducible refine bstep ?_ (by with_reducible assumption)))
    · cases z
      · go_enter Try.func35, Try.ntmps35
        go_wp2_with fail
        refine Calls.mono (C1 _) ?_
        rintro e w1 ⟨rfl, hb⟩
        have ks0 : w1.cell? ⟨w.heap.size, 0, none⟩ = some (.int .i64 s1) := cell_later hb (by go_simp)
        have ks1 : w1.cell? ⟨w.heap.size, 1, none⟩ = some (.int .i64 s2) := cell_later hb (by go_simp)
        have ks2 : w1.cell? ⟨w.heap.size, 2, none⟩ = some (.int .i64 s3) := cell_later hb (by go_simp)
        have ks3 : w1.cell? ⟨w.heap.size, 3, none⟩ = some (.int .i64 s4) := cell_later hb (by go_simp)
        have ks4 : w1.cell? ⟨w.heap.size, 4, none⟩ = some (.int .i64 s5) := cell_later hb (by go_simp)
        have ks5 : w1.cell? ⟨w.heap.size, 5, none⟩ = some (.int .i64 s6) := cell_later hb (by go_simp)
        have zs : w.heap.size < w1.heap.size := World.block_lt_of_cell? _ _ ks0
        have zs_w1 := zs
        have hb0 : Below w.heap.size w w1 := (by repeat (first | with_reducible exact Below.refl _ _ | with_reducible assumption | with_reducible refine Below.setCell ?_ (by first | omega | (simp <;> omega)) _ | with_reducible refine balloc ?_ _ | with_reducible refine Below.drew ?_ | with_reducible refine bstep ?_ (by with_reducible assumption)))
        have hs_w1 := hb.size; (try simp only [World.size_alloc, World.size_setCell] at hs_w1)
        clear hb
        go_wp2_with fail
        refine Calls.mono (C2 _) ?_
        rintro e w2 ⟨rfl, hb⟩
        replace ks0 := cell_later hb ks0
        replace ks1 := cell_later hb ks1
        replace ks2 := cell_later hb ks2
        replace ks3 := cell_later hb ks3
        replace ks4 := cell_later hb ks4
        replace ks5 := cell_later hb ks5
        replace zs : w.heap.size < w2.heap.size := World.block_lt_of_cell? _ _ ks0
        have zs_w2 := zs
        replace hb0 : Below w.heap.size w w2 := (by repeat (first | with_reducible exact Below.refl _ _ | with_reducible assumption | with_reducible refine Below.setCell ?_ (by first | omega | (simp <;> omega)) _ | with_reducible refine balloc ?_ _ | with_reducible refine Below.drew ?_ | with_reducible refine bstep ?_ (by with_reducible assumption)))
        have hs_w2 : w1.heap.size ≤ w2.heap.size := hb.size
        clear hb
        go_wp2_with fail
        refine Calls.mono (C3 _) ?_
        rintro e wx ⟨rfl, rfl⟩
        go_wp2
        go_ret
        exact ret_bool (by simp) (by repeat (first | with_reducible exact Below.refl _ _ | with_reducible assumption | with_reducible refine Below.setCell ?_ (by first | omega | (simp <;> omega)) _ | with_reducible refine balloc ?_ _ | with_reducible refine Below.drew ?_ | with_reducible refine bstep ?_ (by with_reducible assumption)))
      · cases u
        · go_enter Try.func35, Try.ntmps35
          go_wp2_with fail
          refine Calls.mono (C1 _) ?_
          rintro e w1 ⟨rfl, hb⟩
          have ks0 : w1.cell? ⟨w.heap.size, 0, none⟩ = some (.int .i64 s1) := cell_later hb (by go_simp)
          have ks1 : w1.cell? ⟨w.heap.size, 1, none⟩ = some (.int .i64 s2) := cell_later hb (by go_simp)
          have ks2 : w1.cell? ⟨w.heap.size, 2, none⟩ = some (.int .i64 s3) := cell_later hb (by go_simp)
          have ks3 : w1.cell? ⟨w.heap.size, 3, none⟩ = some (.int .i64 s4) := cell_later hb (by go_simp)
          have ks4 : w1.cell? ⟨w.heap.size, 4, none⟩ = some (.int .i64 s5) := cell_later hb (by go_simp)
          have ks5 : w1.cell? ⟨w.heap.size, 5, none⟩ = some (.int .i64 s6) := cell_later hb (by go_simp)
          have zs : w.heap.size < w1.heap.size := World.block_lt_of_cell? _ _ ks0
          have zs_w1 := zs
          have hb0 : Below w.heap.size w w1 := (by repeat (first | with_reducible exact Below.refl _ _ | with_reducible assumption | with_reducible refine Below.setCell ?_ (by first | omega | (simp <;> omega)) _ | with_reducible refine balloc ?_ _ | with_reducible refine Below.drew ?_ | with_reducible refine bstep ?_ (by with_reducible assumption)))
          have hs_w1 := hb.size; (try simp only [World.size_alloc, World.size_setCell] at hs_w1)
          clear hb
          go_wp2_with fail
          refine Calls.mono (C2 _) ?_
          rintro e w2 ⟨rfl, hb⟩
          replace ks0 := cell_later hb ks0
          replace ks1 := cell_later hb ks1
          replace ks2 := cell_later hb ks2
          replace ks3 := cell_later hb ks3
          replace ks4 := cell_later hb ks4
          replace ks5 := cell_later hb ks5
          replace zs : w.heap.size < w2.heap.size := World.block_lt_of_cell? _ _ ks0
          have zs_w2 := zs
          replace hb0 : Below w.heap.size w w2 := (by repeat (first | with_reducible exact Below.refl _ _ | with_reducible assumption | with_reducible refine Below.setCell ?_ (by first | omega | (simp <;> omega)) _ | with_reducible refine balloc ?_ _ | with_reducible refine Below.drew ?_ | with_reducible refine bstep ?_ (by with_reducible assumption)))
          have hs_w2 : w1.heap.size ≤ w2.heap.size := hb.size
          clear hb
          go_wp2_with fail
          refine Calls.mono (C3 _) ?_
          rintro e wx ⟨rfl, rfl⟩
          go_wp2_with fail
          refine Calls.mono (C4 _) ?_
          rintro e wx ⟨rfl, rfl⟩
          go_wp2
          go_ret
          exact ret_bool (by simp) (by repeat (first | with_reducible exact Below.refl _ _ | with_reducible assumption | with_reducible refine Below.setCell ?_ (by first | omega | (simp <;> omega)) _ | with_reducible refine balloc ?_ _ | with_reducible refine Below.drew ?_ | with_reducible refine bstep ?_ (by with_reducible assumption)))
        · go_enter Try.func35, Try.ntmps35
          go_wp2_with fail
          refine Calls.mono (C1 _) ?_
          rintro e w1 ⟨rfl, hb⟩
          have ks0 : w1.cell? ⟨w.heap.size, 0, none⟩ = some (.int .i64 s1) := cell_later hb (by go_simp)
          have ks1 : w1.cell? ⟨w.heap.size, 1, none⟩ = some (.int .i64 s2) := cell_later hb (by go_simp)
          have ks2 : w1.cell? ⟨w.heap.size, 2, none⟩ = some (.int .i64 s3) := cell_later hb (by go_simp)
          have ks3 : w1.cell? ⟨w.heap.size, 3, none⟩ = some (.int .i64 s4) := cell_later hb (by go_simp)
          have ks4 : w1.cell? ⟨w.heap.size, 4, none⟩ = some (.int .i64 s5) := cell_later hb (by go_simp)
          have ks5 : w1.cell? ⟨w.heap.size, 5, none⟩ = some (.int .i64 s6) := cell_later hb (by go_simp)
          have zs : w.heap.size < w1.heap.size := World.block_lt_of_cell? _ _ ks0
          have zs_w1 := zs
          have hb0 : Below w.heap.size w w1 := (by repeat (first | with_reducible exact Below.refl _ _ | with_reducible assumption | with_reducible refine Below.setCell ?_ (by first | omega | (simp <;> omega)) _ | with_reducible refine balloc ?_ _ | with_reducible refine Below.drew ?_ | with_reducible refine bstep ?_ (by with_reducible assumption)))
          have hs_w1 := hb.size; (try simp only [World.size_alloc, World.size_setCell] at hs_w1)
          clear hb
          go_wp2_with fail
          refine Calls.mono (C2 _) ?_
          rintro e w2 ⟨rfl, hb⟩
          replace ks0 := cell_later hb ks0
          replace ks1 := cell_later hb ks1
          replace ks2 := cell_later hb ks2
          replace ks3 := cell_later hb ks3
          replace ks4 := cell_later hb ks4
          replace ks5 := cell_later hb ks5
          replace zs : w.heap.size < w2.heap.size := World.block_lt_of_cell? _ _ ks0
          have zs_w2 := zs
          replace hb0 : Below w.heap.size w w2 := (by repeat (first | with_reducible exact Below.refl _ _ | with_reducible assumption | with_reducible refine Below.setCell ?_ (by first | omega | (simp <;> omega)) _ | with_reducible refine balloc ?_ _ | with_reducible refine Below.drew ?_ | with_reducible refine bstep ?_ (by with_reducible assumption)))
          have hs_w2 : w1.heap.size ≤ w2.heap.size := hb.size
          clear hb
          go_wp2_with fail
          refine Calls.mono (C3 _) ?_
          rintro e wx ⟨rfl, rfl⟩
          go_wp2_with fail
          refine Calls.mono (C4 _) ?_
          rintro e wx ⟨rfl, rfl⟩
          go_wp2
          go_ret
          exact ret_bool (by simp) (by repeat (first | with_reducible exact Below.refl _ _ | with_reducible assumption | with_reducible refine Below.setCell ?_ (by first | omega | (simp <;> omega)) _ | with_reducible refine balloc ?_ _ | with_reducible refine Below.drew ?_ | with_reducible refine bstep ?_ (by with_reducible assumption)))

set_option maxRecDepth 20000 in
set_option maxHeartbeats 3200000 in
theorem has_c (s1 s2 s3 s4 s5 s6 v1 v2 : Int) (w : World) (hf : okW (s1, s2)) (ht : okW (s3, s4)) (hv : okW (v1, v2)) : Calls Try.prog 37 #[(.agg #[(.int .i64 s1), (.int .i64 s2), (.int .i64 s3), (.int .i64 s4), (.int .i64 s5), (.int .i64 s6)]), (.agg #[(.int .i64 v1), (.int .i64 v2)])] w (Ret w (.bool (hasV (s1, s2) (s3, s4) (v1, v2)))) := by
  have C1 : ∀ w, Calls Try.prog 54 #[.agg #[(.int .i64 s1), (.int .i64 s2)], (.agg #[.int .i64 v1, .int .i64 v2])] w (Ret w (.int .i64 (cmV (s1, s2) (v1, v2)))) := fun w => compare_c _ _ _ _ w hf hv
  have C2 : ∀ w, Calls Try.prog 54 #[.agg #[(.int .i64 s3), (.int .i64 s4)], (.agg #[.int .i64 v1, .int .i64 v2])] w (Ret w (.int .i64 (cmV (s3, s4) (v1, v2)))) := fun w => compare_c _ _ _ _ w ht hv
  have C3 : ∀ w, Calls Try.prog 54 #[.agg #[(.int .i64 s1), (.int .i64 s2)], .agg #[(.int .i64 s3), (.int .i64 s4)]] w (Ret w (.int .i64 (cmV (s1, s2) (s3, s4)))) := fun w => compare_c _ _ _ _ w hf ht
  have hR : hasV (s1, s2) (s3, s4) (v1, v2) = (if cmV (s1, s2) (s3, s4) < 0 then decide (cmV (s1, s2) (v1, v2) ≤ 0) && !decide (cmV (s3, s4) (v1, v2) ≤ 0) else decide (cmV (s1, s2) (v1, v2) ≤ 0) || !decide (cmV (s3, s4) (v1, v2) ≤ 0)) := rfl
  generalize hasV (s1, s2) (s3, s4) (v1, v2) = R at *
  generalize cmV (s1, s2) (v1, v2) = cv at *
  generalize cmV (s3, s4) (v1, v2) = cw at *
  generalize cmV (s1, s2) (s3, s4) = ct at *
  have HR := Lib.hid hR
  clear hR
  go_enter Try.func37, Try.ntmps37
  go_upto_region 1 with fail
  go_cut [5, 6] (fun q5 q6 wx => ∃ ga gb : Nat, q5 = .pointer (some ⟨ga, 0, none⟩) ∧ q6 = .pointer (some ⟨gb, 0, none⟩) ∧ wx.cell? ⟨ga, 0, none⟩ = some (.int .i64 s1) ∧ wx.cell? ⟨ga, 1, none⟩ = some (.int .i64 s2) ∧ wx.cell? ⟨gb, 0, none⟩ = some (.int .i64 s3) ∧ wx.cell? ⟨gb, 1, none⟩ = some (.int .i64 s4) ∧ wx.cell? ⟨w.heap.size, 0, none⟩ = some (.int .i64 s1) ∧ wx.cell? ⟨w.heap.size, 1, none⟩ = some (.int .i64 s2) ∧ wx.cell? ⟨w.heap.size, 2, none⟩ = some (.int .i64 s3) ∧ wx.cell? ⟨w.heap.size, 3, none⟩ = some (.int .i64 s4) ∧ wx.cell? ⟨w.heap.size, 4, none⟩ = some (.int .i64 s5) ∧ wx.cell? ⟨w.heap.size, 5, none⟩ = some (.int .i64 s6) ∧ wx.cell? ⟨w.heap.size + 1, 0, none⟩ = some (.int .i64 v1) ∧ wx.cell? ⟨w.heap.size + 1, 1, none⟩ = some (.int .i64 v2) ∧ Below w.heap.size w wx)
  case first =>
    go_region
    all_goals
      go_wp2_with fail
      go_meet
      refine ⟨_, _, rfl, rfl, ?_, ?_, ?_, ?_, ?_, ?_, ?_, ?_, ?_, ?_, ?_, ?_, (by repeat (first | with_reducible exact Below.refl _ _ | with_reducible assumption | with_reducible refine Below.setCell ?_ (by first | omega | (simp <;> omega)) _ | with_reducible refine balloc ?_ _ | with_reducible refine Below.drew ?_ | with_reducible refine bstep ?_ (by with_reducible assumption)))⟩
      all_goals first | (with_reducible assumption) | go_simp
  case rest =>
    obtain ⟨ga, gb, rfl, rfl, ka0, ka1, kb0, kb1, ks0, ks1, ks2, ks3, ks4, ks5, kv0, kv1, hb0⟩ := hcut
    have za : ga < wc.heap.size := World.block_lt_of_cell? _ _ ka0
    have zb : gb < wc.heap.size := World.block_lt_of_cell? _ _ kb0
    have zs : w.heap.size < wc.heap.size := World.block_lt_of_cell? _ _ ks0
    have zv : w.heap.size + 1 < wc.heap.size := World.block_lt_of_cell? _ _ kv0
    go_wp2_with fail
    refine wp_region_held_drew (S := fun w' => w'.cell? ⟨ga, 0, none⟩ = some (.int .i64 s1) ∧ w'.cell? ⟨ga, 1, none⟩ = some (.int .i64 s2) ∧ w'.cell? ⟨gb, 0, none⟩ = some (.int .i64 s3) ∧ w'.cell? ⟨gb, 1, none⟩ = some (.int .i64 s4) ∧ w'.cell? ⟨w.heap.size + 1, 0, none⟩ = some (.int .i64 v1) ∧ w'.cell? ⟨w.heap.size + 1, 1, none⟩ = some (.int .i64 v2)) (by kernel_rfl) (by first | (go_keep; done) | ((repeat' apply And.intro) <;> go_simp)) (fun hHeld => ?_)
    refine wpAnyH_take (i := 0) (oi := ⟨some 13, _, _, _, _, _⟩) (v := ?_) rfl (by kernel_rfl) (by kernel_rfl) (by kernel_rfl) (fun _ _ _ h => h) (Or.inl ⟨by rfl, ?_⟩) (by assumption) ?_
    rotate_left
    · intro w hSw; (try dsimp only at hSw); go_simp; try with_reducible rfl
    try simp only [Act.put, List.setIfInBounds_toArray, List.set_cons_zero, List.set_cons_succ]
    refine wpAnyH_take (i := 1) (oi := ⟨some 14, _, _, _, _, _⟩) (v := ?_) rfl (by kernel_rfl) (by kernel_rfl) (by kernel_rfl) (fun _ _ _ h => h) (Or.inl ⟨by rfl, ?_⟩) (by assumption) ?_
    rotate_left
    · intro w hSw; (try dsimp only at hSw); go_simp; try with_reducible rfl
    try simp only [Act.put, List.setIfInBounds_toArray, List.set_cons_zero, List.set_cons_succ]
    refine wpAnyH_take (i := 4) (oi := ⟨some 17, _, _, _, _, _⟩) (v := ?_) rfl (by kernel_rfl) (by kernel_rfl) (by kernel_rfl) (fun _ _ _ h => h) (Or.inl ⟨by rfl, ?_⟩) (by assumption) ?_
    rotate_left
    · intro w hSw; (try dsimp only at hSw); go_simp; try with_reducible rfl
    try simp only [Act.put, List.setIfInBounds_toArray, List.set_cons_zero, List.set_cons_succ]
    refine wpAnyH_take (i := 5) (oi := ⟨some 18, _, _, _, _, _⟩) (v := ?_) rfl (by kernel_rfl) (by kernel_rfl) (by kernel_rfl) (fun _ _ _ h => h) (Or.inl ⟨by rfl, ?_⟩) (by assumption) ?_
    rotate_left
    · intro w hSw; (try dsimp only at hSw); go_simp; try with_reducible rfl
    try simp only [Act.put, List.setIfInBounds_toArray, List.set_cons_zero, List.set_cons_succ]
    refine wpAnyH_ready (rs := [2]) (by kernel_rfl) (by simp) ?_
    refine AllReadyH.cons (o := ⟨some 15, _, _, _, _, _⟩) rfl (fun KK hKK => ?_) AllReadyH.nil
    go_simp
    refine Calls.mono (C1 _) ?_
    rintro e wt1 ⟨rfl, hb⟩
    replace ka0 := cell_later hb ka0
    replace ka1 := cell_later hb ka1
    replace kb0 := cell_later hb kb0
    replace kb1 := cell_later hb kb1
    replace ks0 := cell_later hb ks0
    replace ks1 := cell_later hb ks1
    replace ks2 := cell_later hb ks2
    replace ks3 := cell_later hb ks3
    replace ks4 := cell_later hb ks4
    replace ks5 := cell_later hb ks5
    replace kv0 := cell_later hb kv0
    replace kv1 := cell_later hb kv1
    replace za : ga < wt1.heap.size := World.block_lt_of_cell? _ _ ka0
    have za_wt1 := za
    replace zb : gb < wt1.heap.size := World.block_lt_of_cell? _ _ kb0
    have zb_wt1 := zb
    replace zs : w.heap.size < wt1.heap.size := World.block_lt_of_cell? _ _ ks0
    have zs_wt1 := zs
    replace zv : w.heap.size + 1 < wt1.heap.size := World.block_lt_of_cell? _ _ kv0
    have zv_wt1 := zv
    replace hb0 : Below w.heap.size w wt1 := (by repeat (first | with_reducible exact Below.refl _ _ | with_reducible assumption | with_reducible refine Below.setCell ?_ (by first | omega | (simp <;> omega)) _ | with_reducible refine balloc ?_ _ | with_reducible refine Below.drew ?_ | with_reducible refine bstep ?_ (by with_reducible assumption)))
    have hs_wt1 : wc.heap.size ≤ wt1.heap.size := hb.size
    clear hb
    (try go_wp2_with fail)
    refine hKK.out _ _ (by first | (go_keep; done) | ((repeat' apply And.intro) <;> go_simp)) (fun hHeld => ?_)
    clear hKK KK
    try simp only [Act.put, List.setIfInBounds_toArray, List.set_cons_zero, List.set_cons_succ]
    refine wpAnyH_take (i := 3) (oi := ⟨some 16, _, _, _, _, _⟩) (v := ?_) rfl (by kernel_rfl) (by kernel_rfl) (by kernel_rfl) (fun _ _ _ h => h) (Or.inl ⟨by rfl, ?_⟩) (by assumption) ?_
    rotate_left
    · intro w hSw; (try dsimp only at hSw); go_simp; try with_reducible rfl
    try simp only [Act.put, List.setIfInBounds_toArray, List.set_cons_zero, List.set_cons_succ]
    refine wpAnyH_ready (rs := [6]) (by kernel_rfl) (by simp) ?_
    refine AllReadyH.cons (o := ⟨some 19, _, _, _, _, _⟩) rfl (fun KK hKK => ?_) AllReadyH.nil
    go_simp
    refine Calls.mono (C2 _) ?_
    rintro e wt2 ⟨rfl, hb⟩
    replace ka0 := cell_later hb ka0
    replace ka1 := cell_later hb ka1
    replace kb0 := cell_later hb kb0
    replace kb1 := cell_later hb kb1
    replace ks0 := cell_later hb ks0
    replace ks1 := cell_later hb ks1
    replace ks2 := cell_later hb ks2
    replace ks3 := cell_later hb ks3
    replace ks4 := cell_later hb ks4
    replace ks5 := cell_later hb ks5
    replace kv0 := cell_later hb kv0
    replace kv1 := cell_later hb kv1
    replace za : ga < wt2.heap.size := World.block_lt_of_cell? _ _ ka0
    have za_wt2 := za
    replace zb : gb < wt2.heap.size := World.block_lt_of_cell? _ _ kb0
    have zb_wt2 := zb
    replace zs : w.heap.size < wt2.heap.size := World.block_lt_of_cell? _ _ ks0
    have zs_wt2 := zs
    replace zv : w.heap.size + 1 < wt2.heap.size := World.block_lt_of_cell? _ _ kv0
    have zv_wt2 := zv
    replace hb0 : Below w.heap.size w wt2 := (by repeat (first | with_reducible exact Below.refl _ _ | with_reducible assumption | with_reducible refine Below.setCell ?_ (by first | omega | (simp <;> omega)) _ | with_reducible refine balloc ?_ _ | with_reducible refine Below.drew ?_ | with_reducible refine bstep ?_ (by with_reducible assumption)))
    have hs_wt2 : wt1.heap.size ≤ wt2.heap.size := hb.size
    clear hb
    (try go_wp2_with fail)
    refine hKK.out _ _ (by first | (go_keep; done) | ((repeat' apply And.intro) <;> go_simp)) (fun hHeld => ?_)
    clear hKK KK
    try simp only [Act.put, List.setIfInBounds_toArray, List.set_cons_zero, List.set_cons_succ]
    refine wpAnyH_take (i := 7) (oi := ⟨some 20, _, _, _, _, _⟩) (v := ?_) rfl (by kernel_rfl) (by kernel_rfl) (by kernel_rfl) (fun _ _ _ h => h) (Or.inl ⟨by rfl, ?_⟩) (by assumption) ?_
    rotate_left
    · intro w hSw; (try dsimp only at hSw); go_simp; try with_reducible rfl
    try simp only [Act.put, List.setIfInBounds_toArray, List.set_cons_zero, List.set_cons_succ]
    refine wpAnyH_take (i := 8) (oi := ⟨some 7, _, _, _, _, _⟩) (v := ?_) rfl (by kernel_rfl) (by kernel_rfl) (by kernel_rfl) (fun _ _ _ h => h) (Or.inl ⟨by rfl, ?_⟩) (by assumption) ?_
    rotate_left
    · intro w hSw; (try dsimp only at hSw); go_simp; try with_reducible rfl
    try simp only [Act.put, List.setIfInBounds_toArray, List.set_cons_zero, List.set_cons_succ]
    refine wpAnyH_take (i := 9) (oi := ⟨some 8, _, _, _, _, _⟩) (v := ?_) rfl (by kernel_rfl) (by kernel_rfl) (by kernel_rfl) (fun _ _ _ h => h) (Or.inl ⟨by rfl, ?_⟩) (by assumption) ?_
    rotate_left
    · intro w hSw; (try dsimp only at hSw); go_simp; try with_reducible rfl
    try simp only [Act.put, List.setIfInBounds_toArray, List.set_cons_zero, List.set_cons_succ]
    refine wpAnyH_done (by kernel_rfl) ?_ _
    (try dsimp only [Exit.then, Met])
    go_wp2_with fail
    refine Calls.mono (C3 _) ?_
    rintro e w3 ⟨rfl, hb⟩
    replace ka0 := cell_later hb ka0
    replace ka1 := cell_later hb ka1
    replace kb0 := cell_later hb kb0
    replace kb1 := cell_later hb kb1
    replace ks0 := cell_later hb ks0
    replace ks1 := cell_later hb ks1
    replace ks2 := cell_later hb ks2
    replace ks3 := cell_later hb ks3
    replace ks4 := cell_later hb ks4
    replace ks5 := cell_later hb ks5
    replace kv0 := cell_later hb kv0
    replace kv1 := cell_later hb kv1
    replace za : ga < w3.heap.size := World.block_lt_of_cell? _ _ ka0
    have za_w3 := za
    replace zb : gb < w3.heap.size := World.block_lt_of_cell? _ _ kb0
    have zb_w3 := zb
    replace zs : w.heap.size < w3.heap.size := World.block_lt_of_cell? _ _ ks0
    have zs_w3 := zs
    replace zv : w.heap.size + 1 < w3.heap.size := World.block_lt_of_cell? _ _ kv0
    have zv_w3 := zv
    replace hb0 : Below w.heap.size w w3 := (by repeat (first | with_reducible exact Below.refl _ _ | with_reducible assumption | with_reducible refine Below.setCell ?_ (by first | omega | (simp <;> omega)) _ | with_reducible refine balloc ?_ _ | with_reducible refine Below.drew ?_ | with_reducible refine bstep ?_ (by with_reducible assumption)))
    have hs_w3 : wt2.heap.size ≤ w3.heap.size := hb.size
    clear hb
    go_wp2
    all_goals
      go_ret
      exact ret_bool (by rw [HR.out]; simp [*] <;> omega) (by repeat (first | with_reducible exact Below.refl _ _ | with_reducible assumption | with_reducible refine Below.setCell ?_ (by first | omega | (simp <;> omega)) _ | with_reducible refine balloc ?_ _ | with_reducible refine Below.drew ?_ | with_reducible refine bstep ?_ (by with_reducible assumption)))

set_option maxRecDepth 20000 in
set_option maxHeartbeats 3200000 in
theorem ov_c (s1 s2 s3 s4 s5 s6 t1 t2 t3 t4 t5 t6 : Int) (w : World) (hs : okW (s1, s2)) (hs2 : okW (s3, s4)) (ht : okW (t1, t2)) (ht2 : okW (t3, t4)) : Calls Try.prog 50 #[(.agg #[(.int .i64 s1), (.int .i64 s2), (.int .i64 s3), (.int .i64 s4), (.int .i64 s5), (.int .i64 s6)]), (.agg #[(.int .i64 t1), (.int .i64 t2), (.int .i64 t3), (.int .i64 t4), (.int .i64 t5), (.int .i64 t6)])] w (Ret w (.bool (ovS ⟨s1, s2, s3, s4, s5, s6⟩ ⟨t1, t2, t3, t4, t5, t6⟩))) := by
  have C1 : ∀ w, Calls Try.prog 37 #[.agg #[(.int .i64 s1), (.int .i64 s2), (.int .i64 s3), (.int .i64 s4), (.int .i64 s5), (.int .i64 s6)], .agg #[(.int .i64 t1), (.int .i64 t2)]] w (Ret w (.bool (hasV (s1, s2) (s3, s4) (t1, t2)))) := fun w => has_c _ _ _ _ _ _ _ _ w hs hs2 ht
  have C2 : ∀ w, Calls Try.prog 37 #[.agg #[(.int .i64 t1), (.int .i64 t2), (.int .i64 t3), (.int .i64 t4), (.int .i64 t5), (.int .i64 t6)], .agg #[(.int .i64 s1), (.int .i64 s2)]] w (Ret w (.bool (hasV (t1, t2) (t3, t4) (s1, s2)))) := fun w => has_c _ _ _ _ _ _ _ _ w ht ht2 hs
  have hE : ovS ⟨s1, s2, s3, s4, s5, s6⟩ ⟨t1, t2, t3, t4, t5, t6⟩ = (hasV (s1, s2) (s3, s4) (t1, t2) || hasV (t1, t2) (t3, t4) (s1, s2)) := rfl
  rw [hE]
  clear hE
  generalize hasV (s1, s2) (s3, s4) (t1, t2) = x at *
  generalize hasV (t1, t2) (t3, t4) (s1, s2) = y at *
  cases x
  · go_enter Try.func50, Try.ntmps50
    go_wp2_with fail
    refine Calls.mono (C1 _) ?_
    rintro e w1 ⟨rfl, hb⟩
    have ks0 : w1.cell? ⟨w.heap.size, 0, none⟩ = some (.int .i64 s1) := cell_later hb (by go_simp)
    have ks1 : w1.cell? ⟨w.heap.size, 1, none⟩ = some (.int .i64 s2) := cell_later hb (by go_simp)
    have ks2 : w1.cell? ⟨w.heap.size, 2, none⟩ = some (.int .i64 s3) := cell_later hb (by go_simp)
    have ks3 : w1.cell? ⟨w.heap.size, 3, none⟩ = some (.int .i64 s4) := cell_later hb (by go_simp)
    have ks4 : w1.cell? ⟨w.heap.size, 4, none⟩ = some (.int .i64 s5) := cell_later hb (by go_simp)
    have ks5 : w1.cell? ⟨w.heap.size, 5, none⟩ = some (.int .i64 s6) := cell_later hb (by go_simp)
    have kt0 : w1.cell? ⟨w.heap.size + 1, 0, none⟩ = some (.int .i64 t1) := cell_later hb (by go_simp)
    have kt1 : w1.cell? ⟨w.heap.size + 1, 1, none⟩ = some (.int .i64 t2) := cell_later hb (by go_simp)
    have kt2 : w1.cell? ⟨w.heap.size + 1, 2, none⟩ = some (.int .i64 t3) := cell_later hb (by go_simp)
    have kt3 : w1.cell? ⟨w.heap.size + 1, 3, none⟩ = some (.int .i64 t4) := cell_later hb (by go_simp)
    have kt4 : w1.cell? ⟨w.heap.size + 1, 4, none⟩ = some (.int .i64 t5) := cell_later hb (by go_simp)
    have kt5 : w1.cell? ⟨w.heap.size + 1, 5, none⟩ = some (.int .i64 t6) := cell_later hb (by go_simp)
    have zs : w.heap.size < w1.heap.size := World.block_lt_of_cell? _ _ ks0
    have zs_w1 := zs
    have zt : w.heap.size + 1 < w1.heap.size := World.block_lt_of_cell? _ _ kt0
    have zt_w1 := zt
    have hb0 : Below w.heap.size w w1 := (by repeat (first | with_reducible exact Below.refl _ _ | with_reducible assumption | with_reducible refine Below.setCell ?_ (by first | omega | (simp <;> omega)) _ | with_reducible refine balloc ?_ _ | with_reducible refine Below.drew ?_ | with_reducible refine bstep ?_ (by with_reducible assumption)))
    have hs_w1 := hb.size; (try simp only [World.size_alloc, World.size_setCell] at hs_w1)
    clear hb
    go_wp2_with fail
    refine Calls.mono (C2 _) ?_
    rintro e w2 ⟨rfl, hb⟩
    replace ks0 := cell_later hb ks0
    replace ks1 := cell_later hb ks1
    replace ks2 := cell_later hb ks2
    replace ks3 := cell_later hb ks3
    replace ks4 := cell_later hb ks4
    replace ks5 := cell_later hb ks5
    replace kt0 := cell_later hb kt0
    replace kt1 := cell_later hb kt1
    replace kt2 := cell_later hb kt2
    replace kt3 := cell_later hb kt3
    replace kt4 := cell_later hb kt4
    replace kt5 := cell_later hb kt5
    replace zs : w.heap.size < w2.heap.size := World.block_lt_of_cell? _ _ ks0
    have zs_w2 := zs
    replace zt : w.heap.size + 1 < w2.heap.size := World.block_lt_of_cell? _ _ kt0
    have zt_w2 := zt
    replace hb0 : Below w.heap.size w w2 := (by repeat (first | with_reducible exact Below.refl _ _ | with_reducible assumption | with_reducible refine Below.setCell ?_ (by first | omega | (simp <;> omega)) _ | with_reducible refine balloc ?_ _ | with_reducible refine Below.drew ?_ | with_reducible refine bstep ?_ (by with_reducible assumption)))
    have hs_w2 : w1.heap.size ≤ w2.heap.size := hb.size
    clear hb
    go_wp2
    go_ret
    exact ret_bool (by simp) (by repeat (first | with_reducible exact Below.refl _ _ | with_reducible assumption | with_reducible refine Below.setCell ?_ (by first | omega | (simp <;> omega)) _ | with_reducible refine balloc ?_ _ | with_reducible refine Below.drew ?_ | with_reducible refine bstep ?_ (by with_reducible assumption)))
  · go_enter Try.func50, Try.ntmps50
    go_wp2_with fail
    refine Calls.mono (C1 _) ?_
    rintro e w1 ⟨rfl, hb⟩
    have ks0 : w1.cell? ⟨w.heap.size, 0, none⟩ = some (.int .i64 s1) := cell_later hb (by go_simp)
    have ks1 : w1.cell? ⟨w.heap.size, 1, none⟩ = some (.int .i64 s2) := cell_later hb (by go_simp)
    have ks2 : w1.cell? ⟨w.heap.size, 2, none⟩ = some (.int .i64 s3) := cell_later hb (by go_simp)
    have ks3 : w1.cell? ⟨w.heap.size, 3, none⟩ = some (.int .i64 s4) := cell_later hb (by go_simp)
    have ks4 : w1.cell? ⟨w.heap.size, 4, none⟩ = some (.int .i64 s5) := cell_later hb (by go_simp)
    have ks5 : w1.cell? ⟨w.heap.size, 5, none⟩ = some (.int .i64 s6) := cell_later hb (by go_simp)
    have kt0 : w1.cell? ⟨w.heap.size + 1, 0, none⟩ = some (.int .i64 t1) := cell_later hb (by go_simp)
    have kt1 : w1.cell? ⟨w.heap.size + 1, 1, none⟩ = some (.int .i64 t2) := cell_later hb (by go_simp)
    have kt2 : w1.cell? ⟨w.heap.size + 1, 2, none⟩ = some (.int .i64 t3) := cell_later hb (by go_simp)
    have kt3 : w1.cell? ⟨w.heap.size + 1, 3, none⟩ = some (.int .i64 t4) := cell_later hb (by go_simp)
    have kt4 : w1.cell? ⟨w.heap.size + 1, 4, none⟩ = some (.int .i64 t5) := cell_later hb (by go_simp)
    have kt5 : w1.cell? ⟨w.heap.size + 1, 5, none⟩ = some (.int .i64 t6) := cell_later hb (by go_simp)
    have zs : w.heap.size < w1.heap.size := World.block_lt_of_cell? _ _ ks0
    have zs_w1 := zs
    have zt : w.heap.size + 1 < w1.heap.size := World.block_lt_of_cell? _ _ kt0
    have zt_w1 := zt
    have hb0 : Below w.heap.size w w1 := (by repeat (first | with_reducible exact Below.refl _ _ | with_reducible assumption | with_reducible refine Below.setCell ?_ (by first | omega | (simp <;> omega)) _ | with_reducible refine balloc ?_ _ | with_reducible refine Below.drew ?_ | with_reducible refine bstep ?_ (by with_reducible assumption)))
    have hs_w1 := hb.size; (try simp only [World.size_alloc, World.size_setCell] at hs_w1)
    clear hb
    go_wp2
    go_ret
    exact ret_bool (by simp) (by repeat (first | with_reducible exact Below.refl _ _ | with_reducible assumption | with_reducible refine Below.setCell ?_ (by first | omega | (simp <;> omega)) _ | with_reducible refine balloc ?_ _ | with_reducible refine Below.drew ?_ | with_reducible refine bstep ?_ (by with_reducible assumption)))


end Go.Proofs.Ytpadkmlckmopfaa.Se

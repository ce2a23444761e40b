/- LawRef: the law SpanMatchesReference. -/
import Derived.Test.YtendnhmobhicmaaHeadA
import Derived.Test.YtendnhmobhicmaaRefC
import Derived.Test.YtendnhmobhicmaaRefD
import Derived.Test.YtendnhmobhicmaaRows
import Derived.WalkKit
import Derived.WalkSpells
import Derived.WalkLawsBesides
import Derived.Lib.Hide
import Derived.Deep.QuietTactic
import Derived.BigQuiet
import Derived.RegionTactic
import Derived.ChangeAlike
import Derived.BigRegion
import Derived.Deep.RegionHeld3
import Derived.Deep.RegionWith
import Derived.Outline
import Derived.Deep.DeepCutAuto
namespace Go.Proofs.Ytendnhmobhicmaa
open Go.RowKit
set_option linter.unusedSimpArgs false
set_option linter.unusedVariables false

set_option maxRecDepth 100000 in
set_option maxHeartbeats 25600000 in
theorem ref_law (s1 s2 t1 t2 n d a1 a2 a3 a4 b1 b2 b3 b4 k p1 p2 : Int) (w : World)  : Calls Try.prog 3 #[(.agg #[(.int .i64 s1), (.int .i64 s2)]), (.agg #[(.int .i64 t1), (.int .i64 t2)]), (.int .i64 n), (.int .i64 d), (.agg #[(.int .i64 a1), (.int .i64 a2), (.int .i64 a3), (.int .i64 a4)]), (.agg #[(.int .i64 b1), (.int .i64 b2), (.int .i64 b3), (.int .i64 b4)]), (.int .i64 k), (.agg #[(.int .i64 p1), (.int .i64 p2)])] w (Ret w (.bool true)) := by
  have PAdd := fun w => Add_c s1 s2 t1 t2 w
  have RAdd := fun w => RAdd_c s1 s2 t1 t2 w
  obtain ⟨oAdd0, hAdd0⟩ : ∃ q, selI ((vAdd s1 s2 t1 t2) && (rAdd s1 s2 t1 t2)) (s1 + t1) = q := ⟨_, rfl⟩
  obtain ⟨oAdd1, hAdd1⟩ : ∃ q, selI ((vAdd s1 s2 t1 t2) && (rAdd s1 s2 t1 t2)) (s2 + t2) = q := ⟨_, rfl⟩
  obtain ⟨oAdd2, hAdd2⟩ : ∃ q, erv (vAdd s1 s2 t1 t2) (rAdd s1 s2 t1 t2) 3 = q := ⟨_, rfl⟩
  rw [hAdd0, hAdd1, hAdd2] at PAdd RAdd
  clear hAdd0 hAdd1 hAdd2
  have PSub := fun w => Sub_c s1 s2 t1 t2 w
  have RSub := fun w => RSub_c s1 s2 t1 t2 w
  obtain ⟨oSub0, hSub0⟩ : ∃ q, selI ((vSub s1 s2 t1 t2) && (rSub s1 s2 t1 t2)) (s1 - t2) = q := ⟨_, rfl⟩
  obtain ⟨oSub1, hSub1⟩ : ∃ q, selI ((vSub s1 s2 t1 t2) && (rSub s1 s2 t1 t2)) (s2 - t1) = q := ⟨_, rfl⟩
  obtain ⟨oSub2, hSub2⟩ : ∃ q, erv (vSub s1 s2 t1 t2) (rSub s1 s2 t1 t2) 3 = q := ⟨_, rfl⟩
  rw [hSub0, hSub1, hSub2] at PSub RSub
  clear hSub0 hSub1 hSub2
  have PScale := fun w => Scale_c s1 s2 n d w
  have RScale := fun w => RScale_c s1 s2 n d w
  obtain ⟨oScale0, hScale0⟩ : ∃ q, selI ((vScale s1 s2 n d) && (rScale s1 s2 n d)) (dn (min (s1 * n) (s2 * n)) d) = q := ⟨_, rfl⟩
  obtain ⟨oScale1, hScale1⟩ : ∃ q, selI ((vScale s1 s2 n d) && (rScale s1 s2 n d)) (upd (max (s1 * n) (s2 * n)) d) = q := ⟨_, rfl⟩
  obtain ⟨oScale2, hScale2⟩ : ∃ q, erv (vScale s1 s2 n d) (rScale s1 s2 n d) 3 = q := ⟨_, rfl⟩
  rw [hScale0, hScale1, hScale2] at PScale RScale
  clear hScale0 hScale1 hScale2
  have PMeet := fun w => Meet_c s1 s2 t1 t2 w
  have RMeet := fun w => RMeet_c s1 s2 t1 t2 w
  obtain ⟨oMeet0, hMeet0⟩ : ∃ q, selI ((vMeet s1 s2 t1 t2) && (rMeet s1 s2 t1 t2)) (max s1 t1) = q := ⟨_, rfl⟩
  obtain ⟨oMeet1, hMeet1⟩ : ∃ q, selI ((vMeet s1 s2 t1 t2) && (rMeet s1 s2 t1 t2)) (min s2 t2) = q := ⟨_, rfl⟩
  obtain ⟨oMeet2, hMeet2⟩ : ∃ q, erv (vMeet s1 s2 t1 t2) (rMeet s1 s2 t1 t2) 4 = q := ⟨_, rfl⟩
  rw [hMeet0, hMeet1, hMeet2] at PMeet RMeet
  clear hMeet0 hMeet1 hMeet2
  have PJoin := fun w => Join_c s1 s2 t1 t2 w
  have RJoin := fun w => RJoin_c s1 s2 t1 t2 w
  obtain ⟨oJoin0, hJoin0⟩ : ∃ q, selI (vJoin s1 s2 t1 t2) (min s1 t1) = q := ⟨_, rfl⟩
  obtain ⟨oJoin1, hJoin1⟩ : ∃ q, selI (vJoin s1 s2 t1 t2) (max s2 t2) = q := ⟨_, rfl⟩
  obtain ⟨oJoin2, hJoin2⟩ : ∃ q, erv (vJoin s1 s2 t1 t2) true 4 = q := ⟨_, rfl⟩
  rw [hJoin0, hJoin1, hJoin2] at PJoin RJoin
  clear hJoin0 hJoin1 hJoin2
  have PWithin := fun w => Within_c s1 s2 t1 t2 w
  have RWithin := fun w => RWithin_c s1 s2 t1 t2 w
  obtain ⟨oWithin0, hWithin0⟩ : ∃ q, selB (vWithin s1 s2 t1 t2) (wI s1 s2 t1 t2) = q := ⟨_, rfl⟩
  obtain ⟨oWithin1, hWithin1⟩ : ∃ q, erv (vWithin s1 s2 t1 t2) true 4 = q := ⟨_, rfl⟩
  rw [hWithin0, hWithin1] at PWithin RWithin
  clear hWithin0 hWithin1
  have PMeetBox := fun w => MeetBox_c a1 a2 a3 a4 b1 b2 b3 b4 w
  have RMeetBox := fun w => RMeetBox_c a1 a2 a3 a4 b1 b2 b3 b4 w
  obtain ⟨oMeetBox0, hMeetBox0⟩ : ∃ q, selI ((vMeetBox a1 a2 a3 a4 b1 b2 b3 b4) && (rMeetBox a1 a2 a3 a4 b1 b2 b3 b4)) (max a1 b1) = q := ⟨_, rfl⟩
  obtain ⟨oMeetBox1, hMeetBox1⟩ : ∃ q, selI ((vMeetBox a1 a2 a3 a4 b1 b2 b3 b4) && (rMeetBox a1 a2 a3 a4 b1 b2 b3 b4)) (min a2 b2) = q := ⟨_, rfl⟩
  obtain ⟨oMeetBox2, hMeetBox2⟩ : ∃ q, selI ((vMeetBox a1 a2 a3 a4 b1 b2 b3 b4) && (rMeetBox a1 a2 a3 a4 b1 b2 b3 b4)) (max a3 b3) = q := ⟨_, rfl⟩
  obtain ⟨oMeetBox3, hMeetBox3⟩ : ∃ q, selI ((vMeetBox a1 a2 a3 a4 b1 b2 b3 b4) && (rMeetBox a1 a2 a3 a4 b1 b2 b3 b4)) (min a4 b4) = q := ⟨_, rfl⟩
  obtain ⟨oMeetBox4, hMeetBox4⟩ : ∃ q, erv (vMeetBox a1 a2 a3 a4 b1 b2 b3 b4) (rMeetBox a1 a2 a3 a4 b1 b2 b3 b4) 4 = q := ⟨_, rfl⟩
  rw [hMeetBox0, hMeetBox1, hMeetBox2, hMeetBox3, hMeetBox4] at PMeetBox RMeetBox
  clear hMeetBox0 hMeetBox1 hMeetBox2 hMeetBox3 hMeetBox4
  have PJoinBox := fun w => JoinBox_c a1 a2 a3 a4 b1 b2 b3 b4 w
  have RJoinBox := fun w => RJoinBox_c a1 a2 a3 a4 b1 b2 b3 b4 w
  obtain ⟨oJoinBox0, hJoinBox0⟩ : ∃ q, selI (vJoinBox a1 a2 a3 a4 b1 b2 b3 b4) (min a1 b1) = q := ⟨_, rfl⟩
  obtain ⟨oJoinBox1, hJoinBox1⟩ : ∃ q, selI (vJoinBox a1 a2 a3 a4 b1 b2 b3 b4) (max a2 b2) = q := ⟨_, rfl⟩
  obtain ⟨oJoinBox2, hJoinBox2⟩ : ∃ q, selI (vJoinBox a1 a2 a3 a4 b1 b2 b3 b4) (min a3 b3) = q := ⟨_, rfl⟩
  obtain ⟨oJoinBox3, hJoinBox3⟩ : ∃ q, selI (vJoinBox a1 a2 a3 a4 b1 b2 b3 b4) (max a4 b4) = q := ⟨_, rfl⟩
  obtain ⟨oJoinBox4, hJoinBox4⟩ : ∃ q, erv (vJoinBox a1 a2 a3 a4 b1 b2 b3 b4) true 4 = q := ⟨_, rfl⟩
  rw [hJoinBox0, hJoinBox1, hJoinBox2, hJoinBox3, hJoinBox4] at PJoinBox RJoinBox
  clear hJoinBox0 hJoinBox1 hJoinBox2 hJoinBox3 hJoinBox4
  have PGrowBox := fun w => GrowBox_c a1 a2 a3 a4 k w
  have RGrowBox := fun w => RGrowBox_c a1 a2 a3 a4 k w
  obtain ⟨oGrowBox0, hGrowBox0⟩ : ∃ q, selI ((vGrowBox a1 a2 a3 a4 k) && (rGrowBox a1 a2 a3 a4 k)) (a1 - k) = q := ⟨_, rfl⟩
  obtain ⟨oGrowBox1, hGrowBox1⟩ : ∃ q, selI ((vGrowBox a1 a2 a3 a4 k) && (rGrowBox a1 a2 a3 a4 k)) (a2 + k) = q := ⟨_, rfl⟩
  obtain ⟨oGrowBox2, hGrowBox2⟩ : ∃ q, selI ((vGrowBox a1 a2 a3 a4 k) && (rGrowBox a1 a2 a3 a4 k)) (a3 - k) = q := ⟨_, rfl⟩
  obtain ⟨oGrowBox3, hGrowBox3⟩ : ∃ q, selI ((vGrowBox a1 a2 a3 a4 k) && (rGrowBox a1 a2 a3 a4 k)) (a4 + k) = q := ⟨_, rfl⟩
  obtain ⟨oGrowBox4, hGrowBox4⟩ : ∃ q, erv (vGrowBox a1 a2 a3 a4 k) (rGrowBox a1 a2 a3 a4 k) 3 = q := ⟨_, rfl⟩
  rw [hGrowBox0, hGrowBox1, hGrowBox2, hGrowBox3, hGrowBox4] at PGrowBox RGrowBox
  clear hGrowBox0 hGrowBox1 hGrowBox2 hGrowBox3 hGrowBox4
  have PInBox := fun w => InBox_c p1 p2 a1 a2 a3 a4 w
  have RInBox := fun w => RInBox_c p1 p2 a1 a2 a3 a4 w
  obtain ⟨oInBox0, hInBox0⟩ : ∃ q, selB (vInBox p1 p2 a1 a2 a3 a4) (wI p1 p1 a1 a2 && wI p2 p2 a3 a4) = q := ⟨_, rfl⟩
  obtain ⟨oInBox1, hInBox1⟩ : ∃ q, erv (vInBox p1 p2 a1 a2 a3 a4) true 4 = q := ⟨_, rfl⟩
  rw [hInBox0, hInBox1] at PInBox RInBox
  clear hInBox0 hInBox1
  have PWithinBox := fun w => WithinBox_c a1 a2 a3 a4 b1 b2 b3 b4 w
  have RWithinBox := fun w => RWithinBox_c a1 a2 a3 a4 b1 b2 b3 b4 w
  obtain ⟨oWithinBox0, hWithinBox0⟩ : ∃ q, selB (vWithinBox a1 a2 a3 a4 b1 b2 b3 b4) (wI a1 a2 b1 b2 && wI a3 a4 b3 b4) = q := ⟨_, rfl⟩
  obtain ⟨oWithinBox1, hWithinBox1⟩ : ∃ q, erv (vWithinBox a1 a2 a3 a4 b1 b2 b3 b4) true 4 = q := ⟨_, rfl⟩
  rw [hWithinBox0, hWithinBox1] at PWithinBox RWithinBox
  clear hWithinBox0 hWithinBox1
  go_enter Try.func3, Try.ntmps3
  go_wp2_with fail
  refine Calls.mono (head_c _) ?_
  rintro e w1 ⟨rfl, hb⟩
  have ks0 : w1.cell? ⟨w.heap.size, 0, none⟩ = some (.int .i64 s1) := cell_later hb (by go_simp)
  have ks1 : w1.cell? ⟨w.heap.size, 1, none⟩ = some (.int .i64 s2) := cell_later hb (by go_simp)
  have kt0 : w1.cell? ⟨w.heap.size + 1, 0, none⟩ = some (.int .i64 t1) := cell_later hb (by go_simp)
  have kt1 : w1.cell? ⟨w.heap.size + 1, 1, none⟩ = some (.int .i64 t2) := cell_later hb (by go_simp)
  have ka0 : w1.cell? ⟨w.heap.size + 1 + 1, 0, none⟩ = some (.int .i64 a1) := cell_later hb (by go_simp)
  have ka1 : w1.cell? ⟨w.heap.size + 1 + 1, 1, none⟩ = some (.int .i64 a2) := cell_later hb (by go_simp)
  have ka2 : w1.cell? ⟨w.heap.size + 1 + 1, 2, none⟩ = some (.int .i64 a3) := cell_later hb (by go_simp)
  have ka3 : w1.cell? ⟨w.heap.size + 1 + 1, 3, none⟩ = some (.int .i64 a4) := cell_later hb (by go_simp)
  have kb0 : w1.cell? ⟨w.heap.size + 1 + 1 + 1, 0, none⟩ = some (.int .i64 b1) := cell_later hb (by go_simp)
  have kb1 : w1.cell? ⟨w.heap.size + 1 + 1 + 1, 1, none⟩ = some (.int .i64 b2) := cell_later hb (by go_simp)
  have kb2 : w1.cell? ⟨w.heap.size + 1 + 1 + 1, 2, none⟩ = some (.int .i64 b3) := cell_later hb (by go_simp)
  have kb3 : w1.cell? ⟨w.heap.size + 1 + 1 + 1, 3, none⟩ = some (.int .i64 b4) := cell_later hb (by go_simp)
  have kp0 : w1.cell? ⟨w.heap.size + 1 + 1 + 1 + 1, 0, none⟩ = some (.int .i64 p1) := cell_later hb (by go_simp)
  have kp1 : w1.cell? ⟨w.heap.size + 1 + 1 + 1 + 1, 1, none⟩ = some (.int .i64 p2) := cell_later hb (by go_simp)
  have zs : w.heap.size < w1.heap.size := World.block_lt_of_cell? _ _ ks0
  have zt : w.heap.size + 1 < w1.heap.size := World.block_lt_of_cell? _ _ kt0
  have za : w.heap.size + 1 + 1 < w1.heap.size := World.block_lt_of_cell? _ _ ka0
  have zb : w.heap.size + 1 + 1 + 1 < w1.heap.size := World.block_lt_of_cell? _ _ kb0
  have zp : w.heap.size + 1 + 1 + 1 + 1 < w1.heap.size := World.block_lt_of_cell? _ _ kp0
  have hb0 : Below w.heap.size w w1 := (by repeat (first | exact Below.refl _ _ | assumption | refine bstep ?_ (by assumption) | refine Below.drew ?_ | refine balloc ?_ _ | refine Below.setCell ?_ (by first | omega | (simp <;> omega)) _))
  clear hb
  go_wp2_with fail
  go_region_held3 (fun w' => w'.cell? ⟨w.heap.size, 0, none⟩ = some (.int .i64 s1) ∧ w'.cell? ⟨w.heap.size, 1, none⟩ = some (.int .i64 s2) ∧ w'.cell? ⟨w.heap.size + 1 + 1, 0, none⟩ = some (.int .i64 a1) ∧ w'.cell? ⟨w.heap.size + 1 + 1, 1, none⟩ = some (.int .i64 a2) ∧ w'.cell? ⟨w.heap.size + 1 + 1, 2, none⟩ = some (.int .i64 a3) ∧ w'.cell? ⟨w.heap.size + 1 + 1, 3, none⟩ = some (.int .i64 a4)) (first | (go_keep; done) | ((repeat' apply And.intro) <;> go_simp)) (first | (go_at_call 12; refine Calls.mono (valid_c _ _ _) ?_; rintro e wr ⟨rfl, hb⟩; have ks0 : wr.cell? ⟨w.heap.size, 0, none⟩ = some (.int .i64 s1) := cell_later hb (by first | (with_reducible assumption) | go_simp); have ks1 : wr.cell? ⟨w.heap.size, 1, none⟩ = some (.int .i64 s2) := cell_later hb (by first | (with_reducible assumption) | go_simp); have zs : w.heap.size < wr.heap.size := World.block_lt_of_cell? _ _ ks0; have kt0 : wr.cell? ⟨w.heap.size + 1, 0, none⟩ = some (.int .i64 t1) := cell_later hb (by first | (with_reducible assumption) | go_simp); have kt1 : wr.cell? ⟨w.heap.size + 1, 1, none⟩ = some (.int .i64 t2) := cell_later hb (by first | (with_reducible assumption) | go_simp); have zt : w.heap.size + 1 < wr.heap.size := World.block_lt_of_cell? _ _ kt0; have ka0 : wr.cell? ⟨w.heap.size + 1 + 1, 0, none⟩ = some (.int .i64 a1) := cell_later hb (by first | (with_reducible assumption) | go_simp); have ka1 : wr.cell? ⟨w.heap.size + 1 + 1, 1, none⟩ = some (.int .i64 a2) := cell_later hb (by first | (with_reducible assumption) | go_simp); have ka2 : wr.cell? ⟨w.heap.size + 1 + 1, 2, none⟩ = some (.int .i64 a3) := cell_later hb (by first | (with_reducible assumption) | go_simp); have ka3 : wr.cell? ⟨w.heap.size + 1 + 1, 3, none⟩ = some (.int .i64 a4) := cell_later hb (by first | (with_reducible assumption) | go_simp); have za : w.heap.size + 1 + 1 < wr.heap.size := World.block_lt_of_cell? _ _ ka0; have kb0 : wr.cell? ⟨w.heap.size + 1 + 1 + 1, 0, none⟩ = some (.int .i64 b1) := cell_later hb (by first | (with_reducible assumption) | go_simp); have kb1 : wr.cell? ⟨w.heap.size + 1 + 1 + 1, 1, none⟩ = some (.int .i64 b2) := cell_later hb (by first | (with_reducible assumption) | go_simp); have kb2 : wr.cell? ⟨w.heap.size + 1 + 1 + 1, 2, none⟩ = some (.int .i64 b3) := cell_later hb (by first | (with_reducible assumption) | go_simp); have kb3 : wr.cell? ⟨w.heap.size + 1 + 1 + 1, 3, none⟩ = some (.int .i64 b4) := cell_later hb (by first | (with_reducible assumption) | go_simp); have zb : w.heap.size + 1 + 1 + 1 < wr.heap.size := World.block_lt_of_cell? _ _ kb0; have kp0 : wr.cell? ⟨w.heap.size + 1 + 1 + 1 + 1, 0, none⟩ = some (.int .i64 p1) := cell_later hb (by first | (with_reducible assumption) | go_simp); have kp1 : wr.cell? ⟨w.heap.size + 1 + 1 + 1 + 1, 1, none⟩ = some (.int .i64 p2) := cell_later hb (by first | (with_reducible assumption) | go_simp); have zp : w.heap.size + 1 + 1 + 1 + 1 < wr.heap.size := World.block_lt_of_cell? _ _ kp0; have hb0 : Below w.heap.size w wr := (by repeat (first | exact Below.refl _ _ | assumption | refine bstep ?_ (by assumption) | refine Below.drew ?_ | refine balloc ?_ _ | refine Below.setCell ?_ (by first | omega | (simp <;> omega)) _)); clear hb) | (go_at_call 13; refine Calls.mono (rvalid_c _ _ _) ?_; rintro e wr ⟨rfl, hb⟩; have ks0 : wr.cell? ⟨w.heap.size, 0, none⟩ = some (.int .i64 s1) := cell_later hb (by first | (with_reducible assumption) | go_simp); have ks1 : wr.cell? ⟨w.heap.size, 1, none⟩ = some (.int .i64 s2) := cell_later hb (by first | (with_reducible assumption) | go_simp); have zs : w.heap.size < wr.heap.size := World.block_lt_of_cell? _ _ ks0; have kt0 : wr.cell? ⟨w.heap.size + 1, 0, none⟩ = some (.int .i64 t1) := cell_later hb (by first | (with_reducible assumption) | go_simp); have kt1 : wr.cell? ⟨w.heap.size + 1, 1, none⟩ = some (.int .i64 t2) := cell_later hb (by first | (with_reducible assumption) | go_simp); have zt : w.heap.size + 1 < wr.heap.size := World.block_lt_of_cell? _ _ kt0; have ka0 : wr.cell? ⟨w.heap.size + 1 + 1, 0, none⟩ = some (.int .i64 a1) := cell_later hb (by first | (with_reducible assumption) | go_simp); have ka1 : wr.cell? ⟨w.heap.size + 1 + 1, 1, none⟩ = some (.int .i64 a2) := cell_later hb (by first | (with_reducible assumption) | go_simp); have ka2 : wr.cell? ⟨w.heap.size + 1 + 1, 2, none⟩ = some (.int .i64 a3) := cell_later hb (by first | (with_reducible assumption) | go_simp); have ka3 : wr.cell? ⟨w.heap.size + 1 + 1, 3, none⟩ = some (.int .i64 a4) := cell_later hb (by first | (with_reducible assumption) | go_simp); have za : w.heap.size + 1 + 1 < wr.heap.size := World.block_lt_of_cell? _ _ ka0; have kb0 : wr.cell? ⟨w.heap.size + 1 + 1 + 1, 0, none⟩ = some (.int .i64 b1) := cell_later hb (by first | (with_reducible assumption) | go_simp); have kb1 : wr.cell? ⟨w.heap.size + 1 + 1 + 1, 1, none⟩ = some (.int .i64 b2) := cell_later hb (by first | (with_reducible assumption) | go_simp); have kb2 : wr.cell? ⟨w.heap.size + 1 + 1 + 1, 2, none⟩ = some (.int .i64 b3) := cell_later hb (by first | (with_reducible assumption) | go_simp); have kb3 : wr.cell? ⟨w.heap.size + 1 + 1 + 1, 3, none⟩ = some (.int .i64 b4) := cell_later hb (by first | (with_reducible assumption) | go_simp); have zb : w.heap.size + 1 + 1 + 1 < wr.heap.size := World.block_lt_of_cell? _ _ kb0; have kp0 : wr.cell? ⟨w.heap.size + 1 + 1 + 1 + 1, 0, none⟩ = some (.int .i64 p1) := cell_later hb (by first | (with_reducible assumption) | go_simp); have kp1 : wr.cell? ⟨w.heap.size + 1 + 1 + 1 + 1, 1, none⟩ = some (.int .i64 p2) := cell_later hb (by first | (with_reducible assumption) | go_simp); have zp : w.heap.size + 1 + 1 + 1 + 1 < wr.heap.size := World.block_lt_of_cell? _ _ kp0; have hb0 : Below w.heap.size w wr := (by repeat (first | exact Below.refl _ _ | assumption | refine bstep ?_ (by assumption) | refine Below.drew ?_ | refine balloc ?_ _ | refine Below.setCell ?_ (by first | omega | (simp <;> omega)) _)); clear hb) | (go_at_call 14; refine Calls.mono (validBox_c _ _ _ _ _) ?_; rintro e wr ⟨rfl, hb⟩; have ks0 : wr.cell? ⟨w.heap.size, 0, none⟩ = some (.int .i64 s1) := cell_later hb (by first | (with_reducible assumption) | go_simp); have ks1 : wr.cell? ⟨w.heap.size, 1, none⟩ = some (.int .i64 s2) := cell_later hb (by first | (with_reducible assumption) | go_simp); have zs : w.heap.size < wr.heap.size := World.block_lt_of_cell? _ _ ks0; have kt0 : wr.cell? ⟨w.heap.size + 1, 0, none⟩ = some (.int .i64 t1) := cell_later hb (by first | (with_reducible assumption) | go_simp); have kt1 : wr.cell? ⟨w.heap.size + 1, 1, none⟩ = some (.int .i64 t2) := cell_later hb (by first | (with_reducible assumption) | go_simp); have zt : w.heap.size + 1 < wr.heap.size := World.block_lt_of_cell? _ _ kt0; have ka0 : wr.cell? ⟨w.heap.size + 1 + 1, 0, none⟩ = some (.int .i64 a1) := cell_later hb (by first | (with_reducible assumption) | go_simp); have ka1 : wr.cell? ⟨w.heap.size + 1 + 1, 1, none⟩ = some (.int .i64 a2) := cell_later hb (by first | (with_reducible assumption) | go_simp); have ka2 : wr.cell? ⟨w.heap.size + 1 + 1, 2, none⟩ = some (.int .i64 a3) := cell_later hb (by first | (with_reducible assumption) | go_simp); have ka3 : wr.cell? ⟨w.heap.size + 1 + 1, 3, none⟩ = some (.int .i64 a4) := cell_later hb (by first | (with_reducible assumption) | go_simp); have za : w.heap.size + 1 + 1 < wr.heap.size := World.block_lt_of_cell? _ _ ka0; have kb0 : wr.cell? ⟨w.heap.size + 1 + 1 + 1, 0, none⟩ = some (.int .i64 b1) := cell_later hb (by first | (with_reducible assumption) | go_simp); have kb1 : wr.cell? ⟨w.heap.size + 1 + 1 + 1, 1, none⟩ = some (.int .i64 b2) := cell_later hb (by first | (with_reducible assumption) | go_simp); have kb2 : wr.cell? ⟨w.heap.size + 1 + 1 + 1, 2, none⟩ = some (.int .i64 b3) := cell_later hb (by first | (with_reducible assumption) | go_simp); have kb3 : wr.cell? ⟨w.heap.size + 1 + 1 + 1, 3, none⟩ = some (.int .i64 b4) := cell_later hb (by first | (with_reducible assumption) | go_simp); have zb : w.heap.size + 1 + 1 + 1 < wr.heap.size := World.block_lt_of_cell? _ _ kb0; have kp0 : wr.cell? ⟨w.heap.size + 1 + 1 + 1 + 1, 0, none⟩ = some (.int .i64 p1) := cell_later hb (by first | (with_reducible assumption) | go_simp); have kp1 : wr.cell? ⟨w.heap.size + 1 + 1 + 1 + 1, 1, none⟩ = some (.int .i64 p2) := cell_later hb (by first | (with_reducible assumption) | go_simp); have zp : w.heap.size + 1 + 1 + 1 + 1 < wr.heap.size := World.block_lt_of_cell? _ _ kp0; have hb0 : Below w.heap.size w wr := (by repeat (first | exact Below.refl _ _ | assumption | refine bstep ?_ (by assumption) | refine Below.drew ?_ | refine balloc ?_ _ | refine Below.setCell ?_ (by first | omega | (simp <;> omega)) _)); clear hb) | (go_at_call 15; refine Calls.mono (rvalidBox_c _ _ _ _ _) ?_; rintro e wr ⟨rfl, hb⟩; have ks0 : wr.cell? ⟨w.heap.size, 0, none⟩ = some (.int .i64 s1) := cell_later hb (by first | (with_reducible assumption) | go_simp); have ks1 : wr.cell? ⟨w.heap.size, 1, none⟩ = some (.int .i64 s2) := cell_later hb (by first | (with_reducible assumption) | go_simp); have zs : w.heap.size < wr.heap.size := World.block_lt_of_cell? _ _ ks0; have kt0 : wr.cell? ⟨w.heap.size + 1, 0, none⟩ = some (.int .i64 t1) := cell_later hb (by first | (with_reducible assumption) | go_simp); have kt1 : wr.cell? ⟨w.heap.size + 1, 1, none⟩ = some (.int .i64 t2) := cell_later hb (by first | (with_reducible assumption) | go_simp); have zt : w.heap.size + 1 < wr.heap.size := World.block_lt_of_cell? _ _ kt0; have ka0 : wr.cell? ⟨w.heap.size + 1 + 1, 0, none⟩ = some (.int .i64 a1) := cell_later hb (by first | (with_reducible assumption) | go_simp); have ka1 : wr.cell? ⟨w.heap.size + 1 + 1, 1, none⟩ = some (.int .i64 a2) := cell_later hb (by first | (with_reducible assumption) | go_simp); have ka2 : wr.cell? ⟨w.heap.size + 1 + 1, 2, none⟩ = some (.int .i64 a3) := cell_later hb (by first | (with_reducible assumption) | go_simp); have ka3 : wr.cell? ⟨w.heap.size + 1 + 1, 3, none⟩ = some (.int .i64 a4) := cell_later hb (by first | (with_reducible assumption) | go_simp); have za : w.heap.size + 1 + 1 < wr.heap.size := World.block_lt_of_cell? _ _ ka0; have kb0 : wr.cell? ⟨w.heap.size + 1 + 1 + 1, 0, none⟩ = some (.int .i64 b1) := cell_later hb (by first | (with_reducible assumption) | go_simp); have kb1 : wr.cell? ⟨w.heap.size + 1 + 1 + 1, 1, none⟩ = some (.int .i64 b2) := cell_later hb (by first | (with_reducible assumption) | go_simp); have kb2 : wr.cell? ⟨w.heap.size + 1 + 1 + 1, 2, none⟩ = some (.int .i64 b3) := cell_later hb (by first | (with_reducible assumption) | go_simp); have kb3 : wr.cell? ⟨w.heap.size + 1 + 1 + 1, 3, none⟩ = some (.int .i64 b4) := cell_later hb (by first | (with_reducible assumption) | go_simp); have zb : w.heap.size + 1 + 1 + 1 < wr.heap.size := World.block_lt_of_cell? _ _ kb0; have kp0 : wr.cell? ⟨w.heap.size + 1 + 1 + 1 + 1, 0, none⟩ = some (.int .i64 p1) := cell_later hb (by first | (with_reducible assumption) | go_simp); have kp1 : wr.cell? ⟨w.heap.size + 1 + 1 + 1 + 1, 1, none⟩ = some (.int .i64 p2) := cell_later hb (by first | (with_reducible assumption) | go_simp); have zp : w.heap.size + 1 + 1 + 1 + 1 < wr.heap.size := World.block_lt_of_cell? _ _ kp0; have hb0 : Below w.heap.size w wr := (by repeat (first | exact Below.refl _ _ | assumption | refine bstep ?_ (by assumption) | refine Below.drew ?_ | refine balloc ?_ _ | refine Below.setCell ?_ (by first | omega | (simp <;> omega)) _)); clear hb))
  go_wp2_with fail
  refine Calls.mono (PAdd _) ?_
  rintro e w2 ⟨rfl, hb⟩
  replace ks0 : w2.cell? ⟨w.heap.size, 0, none⟩ = some (.int .i64 s1) := cell_later hb (by first | (with_reducible exact ks0) | (with_reducible exact cell_al _ ks0) | (with_reducible exact cell_al _ (cell_al _ ks0)) | go_simp)
  replace ks1 : w2.cell? ⟨w.heap.size, 1, none⟩ = some (.int .i64 s2) := cell_later hb (by first | (with_reducible exact ks1) | (with_reducible exact cell_al _ ks1) | (with_reducible exact cell_al _ (cell_al _ ks1)) | go_simp)
  replace kt0 : w2.cell? ⟨w.heap.size + 1, 0, none⟩ = some (.int .i64 t1) := cell_later hb (by first | (with_reducible exact kt0) | (with_reducible exact cell_al _ kt0) | (with_reducible exact cell_al _ (cell_al _ kt0)) | go_simp)
  replace kt1 : w2.cell? ⟨w.heap.size + 1, 1, none⟩ = some (.int .i64 t2) := cell_later hb (by first | (with_reducible exact kt1) | (with_reducible exact cell_al _ kt1) | (with_reducible exact cell_al _ (cell_al _ kt1)) | go_simp)
  replace ka0 : w2.cell? ⟨w.heap.size + 1 + 1, 0, none⟩ = some (.int .i64 a1) := cell_later hb (by first | (with_reducible exact ka0) | (with_reducible exact cell_al _ ka0) | (with_reducible exact cell_al _ (cell_al _ ka0)) | go_simp)
  replace ka1 : w2.cell? ⟨w.heap.size + 1 + 1, 1, none⟩ = some (.int .i64 a2) := cell_later hb (by first | (with_reducible exact ka1) | (with_reducible exact cell_al _ ka1) | (with_reducible exact cell_al _ (cell_al _ ka1)) | go_simp)
  replace ka2 : w2.cell? ⟨w.heap.size + 1 + 1, 2, none⟩ = some (.int .i64 a3) := cell_later hb (by first | (with_reducible exact ka2) | (with_reducible exact cell_al _ ka2) | (with_reducible exact cell_al _ (cell_al _ ka2)) | go_simp)
  replace ka3 : w2.cell? ⟨w.heap.size + 1 + 1, 3, none⟩ = some (.int .i64 a4) := cell_later hb (by first | (with_reducible exact ka3) | (with_reducible exact cell_al _ ka3) | (with_reducible exact cell_al _ (cell_al _ ka3)) | go_simp)
  replace kb0 : w2.cell? ⟨w.heap.size + 1 + 1 + 1, 0, none⟩ = some (.int .i64 b1) := cell_later hb (by first | (with_reducible exact kb0) | (with_reducible exact cell_al _ kb0) | (with_reducible exact cell_al _ (cell_al _ kb0)) | go_simp)
  replace kb1 : w2.cell? ⟨w.heap.size + 1 + 1 + 1, 1, none⟩ = some (.int .i64 b2) := cell_later hb (by first | (with_reducible exact kb1) | (with_reducible exact cell_al _ kb1) | (with_reducible exact cell_al _ (cell_al _ kb1)) | go_simp)
  replace kb2 : w2.cell? ⟨w.heap.size + 1 + 1 + 1, 2, none⟩ = some (.int .i64 b3) := cell_later hb (by first | (with_reducible exact kb2) | (with_reducible exact cell_al _ kb2) | (with_reducible exact cell_al _ (cell_al _ kb2)) | go_simp)
  replace kb3 : w2.cell? ⟨w.heap.size + 1 + 1 + 1, 3, none⟩ = some (.int .i64 b4) := cell_later hb (by first | (with_reducible exact kb3) | (with_reducible exact cell_al _ kb3) | (with_reducible exact cell_al _ (cell_al _ kb3)) | go_simp)
  replace kp0 : w2.cell? ⟨w.heap.size + 1 + 1 + 1 + 1, 0, none⟩ = some (.int .i64 p1) := cell_later hb (by first | (with_reducible exact kp0) | (with_reducible exact cell_al _ kp0) | (with_reducible exact cell_al _ (cell_al _ kp0)) | go_simp)
  replace kp1 : w2.cell? ⟨w.heap.size + 1 + 1 + 1 + 1, 1, none⟩ = some (.int .i64 p2) := cell_later hb (by first | (with_reducible exact kp1) | (with_reducible exact cell_al _ kp1) | (with_reducible exact cell_al _ (cell_al _ kp1)) | go_simp)
  replace zs : w.heap.size < w2.heap.size := World.block_lt_of_cell? _ _ ks0
  replace zt : w.heap.size + 1 < w2.heap.size := World.block_lt_of_cell? _ _ kt0
  replace za : w.heap.size + 1 + 1 < w2.heap.size := World.block_lt_of_cell? _ _ ka0
  replace zb : w.heap.size + 1 + 1 + 1 < w2.heap.size := World.block_lt_of_cell? _ _ kb0
  replace zp : w.heap.size + 1 + 1 + 1 + 1 < w2.heap.size := World.block_lt_of_cell? _ _ kp0
  replace hb0 : Below w.heap.size w w2 := (by repeat (first | exact Below.refl _ _ | assumption | refine bstep ?_ (by assumption) | refine Below.drew ?_ | refine balloc ?_ _ | refine Below.setCell ?_ (by first | omega | (simp <;> omega)) _))
  clear hb
  go_wp2_with fail
  refine Calls.mono (RAdd _) ?_
  rintro e w3 ⟨rfl, hb⟩
  have lx : w.heap.size ≤ w2.heap.size := by omega
  have ns_x : w.heap.size ≠ w2.heap.size := by omega
  have nx_s : w2.heap.size ≠ w.heap.size := by omega
  have nt_x : w.heap.size + 1 ≠ w2.heap.size := by omega
  have nx_t : w2.heap.size ≠ w.heap.size + 1 := by omega
  have na_x : w.heap.size + 1 + 1 ≠ w2.heap.size := by omega
  have nx_a : w2.heap.size ≠ w.heap.size + 1 + 1 := by omega
  have nb_x : w.heap.size + 1 + 1 + 1 ≠ w2.heap.size := by omega
  have nx_b : w2.heap.size ≠ w.heap.size + 1 + 1 + 1 := by omega
  have np_x : w.heap.size + 1 + 1 + 1 + 1 ≠ w2.heap.size := by omega
  have nx_p : w2.heap.size ≠ w.heap.size + 1 + 1 + 1 + 1 := by omega
  replace ks0 : w3.cell? ⟨w.heap.size, 0, none⟩ = some (.int .i64 s1) := cell_later hb (by first | (with_reducible exact ks0) | (with_reducible exact cell_al _ ks0) | (with_reducible exact cell_al _ (cell_al _ ks0)) | go_simp)
  replace ks1 : w3.cell? ⟨w.heap.size, 1, none⟩ = some (.int .i64 s2) := cell_later hb (by first | (with_reducible exact ks1) | (with_reducible exact cell_al _ ks1) | (with_reducible exact cell_al _ (cell_al _ ks1)) | go_simp)
  replace kt0 : w3.cell? ⟨w.heap.size + 1, 0, none⟩ = some (.int .i64 t1) := cell_later hb (by first | (with_reducible exact kt0) | (with_reducible exact cell_al _ kt0) | (with_reducible exact cell_al _ (cell_al _ kt0)) | go_simp)
  replace kt1 : w3.cell? ⟨w.heap.size + 1, 1, none⟩ = some (.int .i64 t2) := cell_later hb (by first | (with_reducible exact kt1) | (with_reducible exact cell_al _ kt1) | (with_reducible exact cell_al _ (cell_al _ kt1)) | go_simp)
  replace ka0 : w3.cell? ⟨w.heap.size + 1 + 1, 0, none⟩ = some (.int .i64 a1) := cell_later hb (by first | (with_reducible exact ka0) | (with_reducible exact cell_al _ ka0) | (with_reducible exact cell_al _ (cell_al _ ka0)) | go_simp)
  replace ka1 : w3.cell? ⟨w.heap.size + 1 + 1, 1, none⟩ = some (.int .i64 a2) := cell_later hb (by first | (with_reducible exact ka1) | (with_reducible exact cell_al _ ka1) | (with_reducible exact cell_al _ (cell_al _ ka1)) | go_simp)
  replace ka2 : w3.cell? ⟨w.heap.size + 1 + 1, 2, none⟩ = some (.int .i64 a3) := cell_later hb (by first | (with_reducible exact ka2) | (with_reducible exact cell_al _ ka2) | (with_reducible exact cell_al _ (cell_al _ ka2)) | go_simp)
  replace ka3 : w3.cell? ⟨w.heap.size + 1 + 1, 3, none⟩ = some (.int .i64 a4) := cell_later hb (by first | (with_reducible exact ka3) | (with_reducible exact cell_al _ ka3) | (with_reducible exact cell_al _ (cell_al _ ka3)) | go_simp)
  replace kb0 : w3.cell? ⟨w.heap.size + 1 + 1 + 1, 0, none⟩ = some (.int .i64 b1) := cell_later hb (by first | (with_reducible exact kb0) | (with_reducible exact cell_al _ kb0) | (with_reducible exact cell_al _ (cell_al _ kb0)) | go_simp)
  replace kb1 : w3.cell? ⟨w.heap.size + 1 + 1 + 1, 1, none⟩ = some (.int .i64 b2) := cell_later hb (by first | (with_reducible exact kb1) | (with_reducible exact cell_al _ kb1) | (with_reducible exact cell_al _ (cell_al _ kb1)) | go_simp)
  replace kb2 : w3.cell? ⟨w.heap.size + 1 + 1 + 1, 2, none⟩ = some (.int .i64 b3) := cell_later hb (by first | (with_reducible exact kb2) | (with_reducible exact cell_al _ kb2) | (with_reducible exact cell_al _ (cell_al _ kb2)) | go_simp)
  replace kb3 : w3.cell? ⟨w.heap.size + 1 + 1 + 1, 3, none⟩ = some (.int .i64 b4) := cell_later hb (by first | (with_reducible exact kb3) | (with_reducible exact cell_al _ kb3) | (with_reducible exact cell_al _ (cell_al _ kb3)) | go_simp)
  replace kp0 : w3.cell? ⟨w.heap.size + 1 + 1 + 1 + 1, 0, none⟩ = some (.int .i64 p1) := cell_later hb (by first | (with_reducible exact kp0) | (with_reducible exact cell_al _ kp0) | (with_reducible exact cell_al _ (cell_al _ kp0)) | go_simp)
  replace kp1 : w3.cell? ⟨w.heap.size + 1 + 1 + 1 + 1, 1, none⟩ = some (.int .i64 p2) := cell_later hb (by first | (with_reducible exact kp1) | (with_reducible exact cell_al _ kp1) | (with_reducible exact cell_al _ (cell_al _ kp1)) | go_simp)
  have kx0 : w3.cell? ⟨w2.heap.size, 0, none⟩ = some (.int .i64 oAdd0) := cell_later hb (by go_simp)
  have jx0 : w3.frozen? ⟨w2.heap.size, 0, none⟩ = false := by rw [(bcell hb).2 _ _ (by first | omega | (simp <;> omega))]; go_simp
  have kx1 : w3.cell? ⟨w2.heap.size, 1, none⟩ = some (.int .i64 oAdd1) := cell_later hb (by go_simp)
  have jx1 : w3.frozen? ⟨w2.heap.size, 1, none⟩ = false := by rw [(bcell hb).2 _ _ (by first | omega | (simp <;> omega))]; go_simp
  replace zs : w.heap.size < w3.heap.size := World.block_lt_of_cell? _ _ ks0
  replace zt : w.heap.size + 1 < w3.heap.size := World.block_lt_of_cell? _ _ kt0
  replace za : w.heap.size + 1 + 1 < w3.heap.size := World.block_lt_of_cell? _ _ ka0
  replace zb : w.heap.size + 1 + 1 + 1 < w3.heap.size := World.block_lt_of_cell? _ _ kb0
  replace zp : w.heap.size + 1 + 1 + 1 + 1 < w3.heap.size := World.block_lt_of_cell? _ _ kp0
  have zx : w2.heap.size < w3.heap.size := World.block_lt_of_cell? _ _ kx0
  replace hb0 : Below w.heap.size w w3 := (by repeat (first | exact Below.refl _ _ | assumption | refine bstep ?_ (by assumption) | refine Below.drew ?_ | refine balloc ?_ _ | refine Below.setCell ?_ (by first | omega | (simp <;> omega)) _))
  clear hb
  go_wp2_with fail
  refine Calls.mono (PSub _) ?_
  rintro e w4 ⟨rfl, hb⟩
  have lyq : w.heap.size ≤ w3.heap.size := by omega
  have ns_yq : w.heap.size ≠ w3.heap.size := by omega
  have nyq_s : w3.heap.size ≠ w.heap.size := by omega
  have nt_yq : w.heap.size + 1 ≠ w3.heap.size := by omega
  have nyq_t : w3.heap.size ≠ w.heap.size + 1 := by omega
  have na_yq : w.heap.size + 1 + 1 ≠ w3.heap.size := by omega
  have nyq_a : w3.heap.size ≠ w.heap.size + 1 + 1 := by omega
  have nb_yq : w.heap.size + 1 + 1 + 1 ≠ w3.heap.size := by omega
  have nyq_b : w3.heap.size ≠ w.heap.size + 1 + 1 + 1 := by omega
  have np_yq : w.heap.size + 1 + 1 + 1 + 1 ≠ w3.heap.size := by omega
  have nyq_p : w3.heap.size ≠ w.heap.size + 1 + 1 + 1 + 1 := by omega
  have nx_yq : w2.heap.size ≠ w3.heap.size := by omega
  have nyq_x : w3.heap.size ≠ w2.heap.size := by omega
  replace ks0 : w4.cell? ⟨w.heap.size, 0, none⟩ = some (.int .i64 s1) := cell_later hb (by first | (with_reducible exact ks0) | (with_reducible exact cell_al _ ks0) | (with_reducible exact cell_al _ (cell_al _ ks0)) | go_simp)
  replace ks1 : w4.cell? ⟨w.heap.size, 1, none⟩ = some (.int .i64 s2) := cell_later hb (by first | (with_reducible exact ks1) | (with_reducible exact cell_al _ ks1) | (with_reducible exact cell_al _ (cell_al _ ks1)) | go_simp)
  replace kt0 : w4.cell? ⟨w.heap.size + 1, 0, none⟩ = some (.int .i64 t1) := cell_later hb (by first | (with_reducible exact kt0) | (with_reducible exact cell_al _ kt0) | (with_reducible exact cell_al _ (cell_al _ kt0)) | go_simp)
  replace kt1 : w4.cell? ⟨w.heap.size + 1, 1, none⟩ = some (.int .i64 t2) := cell_later hb (by first | (with_reducible exact kt1) | (with_reducible exact cell_al _ kt1) | (with_reducible exact cell_al _ (cell_al _ kt1)) | go_simp)
  replace ka0 : w4.cell? ⟨w.heap.size + 1 + 1, 0, none⟩ = some (.int .i64 a1) := cell_later hb (by first | (with_reducible exact ka0) | (with_reducible exact cell_al _ ka0) | (with_reducible exact cell_al _ (cell_al _ ka0)) | go_simp)
  replace ka1 : w4.cell? ⟨w.heap.size + 1 + 1, 1, none⟩ = some (.int .i64 a2) := cell_later hb (by first | (with_reducible exact ka1) | (with_reducible exact cell_al _ ka1) | (with_reducible exact cell_al _ (cell_al _ ka1)) | go_simp)
  replace ka2 : w4.cell? ⟨w.heap.size + 1 + 1, 2, none⟩ = some (.int .i64 a3) := cell_later hb (by first | (with_reducible exact ka2) | (with_reducible exact cell_al _ ka2) | (with_reducible exact cell_al _ (cell_al _ ka2)) | go_simp)
  replace ka3 : w4.cell? ⟨w.heap.size + 1 + 1, 3, none⟩ = some (.int .i64 a4) := cell_later hb (by first | (with_reducible exact ka3) | (with_reducible exact cell_al _ ka3) | (with_reducible exact cell_al _ (cell_al _ ka3)) | go_simp)
  replace kb0 : w4.cell? ⟨w.heap.size + 1 + 1 + 1, 0, none⟩ = some (.int .i64 b1) := cell_later hb (by first | (with_reducible exact kb0) | (with_reducible exact cell_al _ kb0) | (with_reducible exact cell_al _ (cell_al _ kb0)) | go_simp)
  replace kb1 : w4.cell? ⟨w.heap.size + 1 + 1 + 1, 1, none⟩ = some (.int .i64 b2) := cell_later hb (by first | (with_reducible exact kb1) | (with_reducible exact cell_al _ kb1) | (with_reducible exact cell_al _ (cell_al _ kb1)) | go_simp)
  replace kb2 : w4.cell? ⟨w.heap.size + 1 + 1 + 1, 2, none⟩ = some (.int .i64 b3) := cell_later hb (by first | (with_reducible exact kb2) | (with_reducible exact cell_al _ kb2) | (with_reducible exact cell_al _ (cell_al _ kb2)) | go_simp)
  replace kb3 : w4.cell? ⟨w.heap.size + 1 + 1 + 1, 3, none⟩ = some (.int .i64 b4) := cell_later hb (by first | (with_reducible exact kb3) | (with_reducible exact cell_al _ kb3) | (with_reducible exact cell_al _ (cell_al _ kb3)) | go_simp)
  replace kp0 : w4.cell? ⟨w.heap.size + 1 + 1 + 1 + 1, 0, none⟩ = some (.int .i64 p1) := cell_later hb (by first | (with_reducible exact kp0) | (with_reducible exact cell_al _ kp0) | (with_reducible exact cell_al _ (cell_al _ kp0)) | go_simp)
  replace kp1 : w4.cell? ⟨w.heap.size + 1 + 1 + 1 + 1, 1, none⟩ = some (.int .i64 p2) := cell_later hb (by first | (with_reducible exact kp1) | (with_reducible exact cell_al _ kp1) | (with_reducible exact cell_al _ (cell_al _ kp1)) | go_simp)
  replace kx0 : w4.cell? ⟨w2.heap.size, 0, none⟩ = some (.int .i64 oAdd0) := cell_later hb (by first | (with_reducible exact kx0) | (with_reducible exact cell_al _ kx0) | (with_reducible exact cell_al _ (cell_al _ kx0)) | go_simp)
  replace jx0 : w4.frozen? ⟨w2.heap.size, 0, none⟩ = false := by rw [(bcell hb).2 _ _ (by first | omega | (simp <;> omega))]; first | (with_reducible exact jx0) | go_simp
  replace kx1 : w4.cell? ⟨w2.heap.size, 1, none⟩ = some (.int .i64 oAdd1) := cell_later hb (by first | (with_reducible exact kx1) | (with_reducible exact cell_al _ kx1) | (with_reducible exact cell_al _ (cell_al _ kx1)) | go_simp)
  replace jx1 : w4.frozen? ⟨w2.heap.size, 1, none⟩ = false := by rw [(bcell hb).2 _ _ (by first | omega | (simp <;> omega))]; first | (with_reducible exact jx1) | go_simp
  have kyq0 : w4.cell? ⟨w3.heap.size, 0, none⟩ = some (.int .i64 oAdd0) := cell_later hb (by go_simp)
  have jyq0 : w4.frozen? ⟨w3.heap.size, 0, none⟩ = false := by rw [(bcell hb).2 _ _ (by first | omega | (simp <;> omega))]; go_simp
  have kyq1 : w4.cell? ⟨w3.heap.size, 1, none⟩ = some (.int .i64 oAdd1) := cell_later hb (by go_simp)
  have jyq1 : w4.frozen? ⟨w3.heap.size, 1, none⟩ = false := by rw [(bcell hb).2 _ _ (by first | omega | (simp <;> omega))]; go_simp
  replace zs : w.heap.size < w4.heap.size := World.block_lt_of_cell? _ _ ks0
  replace zt : w.heap.size + 1 < w4.heap.size := World.block_lt_of_cell? _ _ kt0
  replace za : w.heap.size + 1 + 1 < w4.heap.size := World.block_lt_of_cell? _ _ ka0
  replace zb : w.heap.size + 1 + 1 + 1 < w4.heap.size := World.block_lt_of_cell? _ _ kb0
  replace zp : w.heap.size + 1 + 1 + 1 + 1 < w4.heap.size := World.block_lt_of_cell? _ _ kp0
  replace zx : w2.heap.size < w4.heap.size := World.block_lt_of_cell? _ _ kx0
  have zyq : w3.heap.size < w4.heap.size := World.block_lt_of_cell? _ _ kyq0
  replace hb0 : Below w.heap.size w w4 := (by repeat (first | exact Below.refl _ _ | assumption | refine bstep ?_ (by assumption) | refine Below.drew ?_ | refine balloc ?_ _ | refine Below.setCell ?_ (by first | omega | (simp <;> omega)) _))
  clear hb
  go_wp2_with fail
  refine Calls.mono (RSub _) ?_
  rintro e w5 ⟨rfl, hb⟩
  replace ks0 : w5.cell? ⟨w.heap.size, 0, none⟩ = some (.int .i64 s1) := cell_later hb (by first | (with_reducible exact ks0) | (with_reducible exact cell_al _ ks0) | (with_reducible exact cell_al _ (cell_al _ ks0)) | go_simp)
  replace ks1 : w5.cell? ⟨w.heap.size, 1, none⟩ = some (.int .i64 s2) := cell_later hb (by first | (with_reducible exact ks1) | (with_reducible exact cell_al _ ks1) | (with_reducible exact cell_al _ (cell_al _ ks1)) | go_simp)
  replace kt0 : w5.cell? ⟨w.heap.size + 1, 0, none⟩ = some (.int .i64 t1) := cell_later hb (by first | (with_reducible exact kt0) | (with_reducible exact cell_al _ kt0) | (with_reducible exact cell_al _ (cell_al _ kt0)) | go_simp)
  replace kt1 : w5.cell? ⟨w.heap.size + 1, 1, none⟩ = some (.int .i64 t2) := cell_later hb (by first | (with_reducible exact kt1) | (with_reducible exact cell_al _ kt1) | (with_reducible exact cell_al _ (cell_al _ kt1)) | go_simp)
  replace ka0 : w5.cell? ⟨w.heap.size + 1 + 1, 0, none⟩ = some (.int .i64 a1) := cell_later hb (by first | (with_reducible exact ka0) | (with_reducible exact cell_al _ ka0) | (with_reducible exact cell_al _ (cell_al _ ka0)) | go_simp)
  replace ka1 : w5.cell? ⟨w.heap.size + 1 + 1, 1, none⟩ = some (.int .i64 a2) := cell_later hb (by first | (with_reducible exact ka1) | (with_reducible exact cell_al _ ka1) | (with_reducible exact cell_al _ (cell_al _ ka1)) | go_simp)
  replace ka2 : w5.cell? ⟨w.heap.size + 1 + 1, 2, none⟩ = some (.int .i64 a3) := cell_later hb (by first | (with_reducible exact ka2) | (with_reducible exact cell_al _ ka2) | (with_reducible exact cell_al _ (cell_al _ ka2)) | go_simp)
  replace ka3 : w5.cell? ⟨w.heap.size + 1 + 1, 3, none⟩ = some (.int .i64 a4) := cell_later hb (by first | (with_reducible exact ka3) | (with_reducible exact cell_al _ ka3) | (with_reducible exact cell_al _ (cell_al _ ka3)) | go_simp)
  replace kb0 : w5.cell? ⟨w.heap.size + 1 + 1 + 1, 0, none⟩ = some (.int .i64 b1) := cell_later hb (by first | (with_reducible exact kb0) | (with_reducible exact cell_al _ kb0) | (with_reducible exact cell_al _ (cell_al _ kb0)) | go_simp)
  replace kb1 : w5.cell? ⟨w.heap.size + 1 + 1 + 1, 1, none⟩ = some (.int .i64 b2) := cell_later hb (by first | (with_reducible exact kb1) | (with_reducible exact cell_al _ kb1) | (with_reducible exact cell_al _ (cell_al _ kb1)) | go_simp)
  replace kb2 : w5.cell? ⟨w.heap.size + 1 + 1 + 1, 2, none⟩ = some (.int .i64 b3) := cell_later hb (by first | (with_reducible exact kb2) | (with_reducible exact cell_al _ kb2) | (with_reducible exact cell_al _ (cell_al _ kb2)) | go_simp)
  replace kb3 : w5.cell? ⟨w.heap.size + 1 + 1 + 1, 3, none⟩ = some (.int .i64 b4) := cell_later hb (by first | (with_reducible exact kb3) | (with_reducible exact cell_al _ kb3) | (with_reducible exact cell_al _ (cell_al _ kb3)) | go_simp)
  replace kp0 : w5.cell? ⟨w.heap.size + 1 + 1 + 1 + 1, 0, none⟩ = some (.int .i64 p1) := cell_later hb (by first | (with_reducible exact kp0) | (with_reducible exact cell_al _ kp0) | (with_reducible exact cell_al _ (cell_al _ kp0)) | go_simp)
  replace kp1 : w5.cell? ⟨w.heap.size + 1 + 1 + 1 + 1, 1, none⟩ = some (.int .i64 p2) := cell_later hb (by first | (with_reducible exact kp1) | (with_reducible exact cell_al _ kp1) | (with_reducible exact cell_al _ (cell_al _ kp1)) | go_simp)
  replace kx0 : w5.cell? ⟨w2.heap.size, 0, none⟩ = some (.int .i64 oSub0) := cell_later hb (by first | (with_reducible exact kx0) | (with_reducible exact cell_al _ kx0) | (with_reducible exact cell_al _ (cell_al _ kx0)) | go_simp)
  replace jx0 : w5.frozen? ⟨w2.heap.size, 0, none⟩ = false := by rw [(bcell hb).2 _ _ (by first | omega | (simp <;> omega))]; first | (with_reducible exact jx0) | go_simp
  replace kx1 : w5.cell? ⟨w2.heap.size, 1, none⟩ = some (.int .i64 oSub1) := cell_later hb (by first | (with_reducible exact kx1) | (with_reducible exact cell_al _ kx1) | (with_reducible exact cell_al _ (cell_al _ kx1)) | go_simp)
  replace jx1 : w5.frozen? ⟨w2.heap.size, 1, none⟩ = false := by rw [(bcell hb).2 _ _ (by first | omega | (simp <;> omega))]; first | (with_reducible exact jx1) | go_simp
  replace kyq0 : w5.cell? ⟨w3.heap.size, 0, none⟩ = some (.int .i64 oAdd0) := cell_later hb (by first | (with_reducible exact kyq0) | (with_reducible exact cell_al _ kyq0) | (with_reducible exact cell_al _ (cell_al _ kyq0)) | go_simp)
  replace jyq0 : w5.frozen? ⟨w3.heap.size, 0, none⟩ = false := by rw [(bcell hb).2 _ _ (by first | omega | (simp <;> omega))]; first | (with_reducible exact jyq0) | go_simp
  replace kyq1 : w5.cell? ⟨w3.heap.size, 1, none⟩ = some (.int .i64 oAdd1) := cell_later hb (by first | (with_reducible exact kyq1) | (with_reducible exact cell_al _ kyq1) | (with_reducible exact cell_al _ (cell_al _ kyq1)) | go_simp)
  replace jyq1 : w5.frozen? ⟨w3.heap.size, 1, none⟩ = false := by rw [(bcell hb).2 _ _ (by first | omega | (simp <;> omega))]; first | (with_reducible exact jyq1) | go_simp
  replace zs : w.heap.size < w5.heap.size := World.block_lt_of_cell? _ _ ks0
  replace zt : w.heap.size + 1 < w5.heap.size := World.block_lt_of_cell? _ _ kt0
  replace za : w.heap.size + 1 + 1 < w5.heap.size := World.block_lt_of_cell? _ _ ka0
  replace zb : w.heap.size + 1 + 1 + 1 < w5.heap.size := World.block_lt_of_cell? _ _ kb0
  replace zp : w.heap.size + 1 + 1 + 1 + 1 < w5.heap.size := World.block_lt_of_cell? _ _ kp0
  replace zx : w2.heap.size < w5.heap.size := World.block_lt_of_cell? _ _ kx0
  replace zyq : w3.heap.size < w5.heap.size := World.block_lt_of_cell? _ _ kyq0
  replace hb0 : Below w.heap.size w w5 := (by repeat (first | exact Below.refl _ _ | assumption | refine bstep ?_ (by assumption) | refine Below.drew ?_ | refine balloc ?_ _ | refine Below.setCell ?_ (by first | omega | (simp <;> omega)) _))
  clear hb
  go_wp2_with fail
  refine Calls.mono (PScale _) ?_
  rintro e w6 ⟨rfl, hb⟩
  replace ks0 : w6.cell? ⟨w.heap.size, 0, none⟩ = some (.int .i64 s1) := cell_later hb (by first | (with_reducible exact ks0) | (with_reducible exact cell_al _ ks0) | (with_reducible exact cell_al _ (cell_al _ ks0)) | go_simp)
  replace ks1 : w6.cell? ⟨w.heap.size, 1, none⟩ = some (.int .i64 s2) := cell_later hb (by first | (with_reducible exact ks1) | (with_reducible exact cell_al _ ks1) | (with_reducible exact cell_al _ (cell_al _ ks1)) | go_simp)
  replace kt0 : w6.cell? ⟨w.heap.size + 1, 0, none⟩ = some (.int .i64 t1) := cell_later hb (by first | (with_reducible exact kt0) | (with_reducible exact cell_al _ kt0) | (with_reducible exact cell_al _ (cell_al _ kt0)) | go_simp)
  replace kt1 : w6.cell? ⟨w.heap.size + 1, 1, none⟩ = some (.int .i64 t2) := cell_later hb (by first | (with_reducible exact kt1) | (with_reducible exact cell_al _ kt1) | (with_reducible exact cell_al _ (cell_al _ kt1)) | go_simp)
  replace ka0 : w6.cell? ⟨w.heap.size + 1 + 1, 0, none⟩ = some (.int .i64 a1) := cell_later hb (by first | (with_reducible exact ka0) | (with_reducible exact cell_al _ ka0) | (with_reducible exact cell_al _ (cell_al _ ka0)) | go_simp)
  replace ka1 : w6.cell? ⟨w.heap.size + 1 + 1, 1, none⟩ = some (.int .i64 a2) := cell_later hb (by first | (with_reducible exact ka1) | (with_reducible exact cell_al _ ka1) | (with_reducible exact cell_al _ (cell_al _ ka1)) | go_simp)
  replace ka2 : w6.cell? ⟨w.heap.size + 1 + 1, 2, none⟩ = some (.int .i64 a3) := cell_later hb (by first | (with_reducible exact ka2) | (with_reducible exact cell_al _ ka2) | (with_reducible exact cell_al _ (cell_al _ ka2)) | go_simp)
  replace ka3 : w6.cell? ⟨w.heap.size + 1 + 1, 3, none⟩ = some (.int .i64 a4) := cell_later hb (by first | (with_reducible exact ka3) | (with_reducible exact cell_al _ ka3) | (with_reducible exact cell_al _ (cell_al _ ka3)) | go_simp)
  replace kb0 : w6.cell? ⟨w.heap.size + 1 + 1 + 1, 0, none⟩ = some (.int .i64 b1) := cell_later hb (by first | (with_reducible exact kb0) | (with_reducible exact cell_al _ kb0) | (with_reducible exact cell_al _ (cell_al _ kb0)) | go_simp)
  replace kb1 : w6.cell? ⟨w.heap.size + 1 + 1 + 1, 1, none⟩ = some (.int .i64 b2) := cell_later hb (by first | (with_reducible exact kb1) | (with_reducible exact cell_al _ kb1) | (with_reducible exact cell_al _ (cell_al _ kb1)) | go_simp)
  replace kb2 : w6.cell? ⟨w.heap.size + 1 + 1 + 1, 2, none⟩ = some (.int .i64 b3) := cell_later hb (by first | (with_reducible exact kb2) | (with_reducible exact cell_al _ kb2) | (with_reducible exact cell_al _ (cell_al _ kb2)) | go_simp)
  replace kb3 : w6.cell? ⟨w.heap.size + 1 + 1 + 1, 3, none⟩ = some (.int .i64 b4) := cell_later hb (by first | (with_reducible exact kb3) | (with_reducible exact cell_al _ kb3) | (with_reducible exact cell_al _ (cell_al _ kb3)) | go_simp)
  replace kp0 : w6.cell? ⟨w.heap.size + 1 + 1 + 1 + 1, 0, none⟩ = some (.int .i64 p1) := cell_later hb (by first | (with_reducible exact kp0) | (with_reducible exact cell_al _ kp0) | (with_reducible exact cell_al _ (cell_al _ kp0)) | go_simp)
  replace kp1 : w6.cell? ⟨w.heap.size + 1 + 1 + 1 + 1, 1, none⟩ = some (.int .i64 p2) := cell_later hb (by first | (with_reducible exact kp1) | (with_reducible exact cell_al _ kp1) | (with_reducible exact cell_al _ (cell_al _ kp1)) | go_simp)
  replace kx0 : w6.cell? ⟨w2.heap.size, 0, none⟩ = some (.int .i64 oSub0) := cell_later hb (by first | (with_reducible exact kx0) | (with_reducible exact cell_al _ kx0) | (with_reducible exact cell_al _ (cell_al _ kx0)) | go_simp)
  replace jx0 : w6.frozen? ⟨w2.heap.size, 0, none⟩ = false := by rw [(bcell hb).2 _ _ (by first | omega | (simp <;> omega))]; first | (with_reducible exact jx0) | go_simp
  replace kx1 : w6.cell? ⟨w2.heap.size, 1, none⟩ = some (.int .i64 oSub1) := cell_later hb (by first | (with_reducible exact kx1) | (with_reducible exact cell_al _ kx1) | (with_reducible exact cell_al _ (cell_al _ kx1)) | go_simp)
  replace jx1 : w6.frozen? ⟨w2.heap.size, 1, none⟩ = false := by rw [(bcell hb).2 _ _ (by first | omega | (simp <;> omega))]; first | (with_reducible exact jx1) | go_simp
  replace kyq0 : w6.cell? ⟨w3.heap.size, 0, none⟩ = some (.int .i64 oSub0) := cell_later hb (by first | (with_reducible exact kyq0) | (with_reducible exact cell_al _ kyq0) | (with_reducible exact cell_al _ (cell_al _ kyq0)) | go_simp)
  replace jyq0 : w6.frozen? ⟨w3.heap.size, 0, none⟩ = false := by rw [(bcell hb).2 _ _ (by first | omega | (simp <;> omega))]; first | (with_reducible exact jyq0) | go_simp
  replace kyq1 : w6.cell? ⟨w3.heap.size, 1, none⟩ = some (.int .i64 oSub1) := cell_later hb (by first | (with_reducible exact kyq1) | (with_reducible exact cell_al _ kyq1) | (with_reducible exact cell_al _ (cell_al _ kyq1)) | go_simp)
  replace jyq1 : w6.frozen? ⟨w3.heap.size, 1, none⟩ = false := by rw [(bcell hb).2 _ _ (by first | omega | (simp <;> omega))]; first | (with_reducible exact jyq1) | go_simp
  replace zs : w.heap.size < w6.heap.size := World.block_lt_of_cell? _ _ ks0
  replace zt : w.heap.size + 1 < w6.heap.size := World.block_lt_of_cell? _ _ kt0
  replace za : w.heap.size + 1 + 1 < w6.heap.size := World.block_lt_of_cell? _ _ ka0
  replace zb : w.heap.size + 1 + 1 + 1 < w6.heap.size := World.block_lt_of_cell? _ _ kb0
  replace zp : w.heap.size + 1 + 1 + 1 + 1 < w6.heap.size := World.block_lt_of_cell? _ _ kp0
  replace zx : w2.heap.size < w6.heap.size := World.block_lt_of_cell? _ _ kx0
  replace zyq : w3.heap.size < w6.heap.size := World.block_lt_of_cell? _ _ kyq0
  replace hb0 : Below w.heap.size w w6 := (by repeat (first | exact Below.refl _ _ | assumption | refine bstep ?_ (by assumption) | refine Below.drew ?_ | refine balloc ?_ _ | refine Below.setCell ?_ (by first | omega | (simp <;> omega)) _))
  clear hb
  go_wp2_with fail
  refine Calls.mono (RScale _) ?_
  rintro e w7 ⟨rfl, hb⟩
  replace ks0 : w7.cell? ⟨w.heap.size, 0, none⟩ = some (.int .i64 s1) := cell_later hb (by first | (with_reducible exact ks0) | (with_reducible exact cell_al _ ks0) | (with_reducible exact cell_al _ (cell_al _ ks0)) | go_simp)
  replace ks1 : w7.cell? ⟨w.heap.size, 1, none⟩ = some (.int .i64 s2) := cell_later hb (by first | (with_reducible exact ks1) | (with_reducible exact cell_al _ ks1) | (with_reducible exact cell_al _ (cell_al _ ks1)) | go_simp)
  replace kt0 : w7.cell? ⟨w.heap.size + 1, 0, none⟩ = some (.int .i64 t1) := cell_later hb (by first | (with_reducible exact kt0) | (with_reducible exact cell_al _ kt0) | (with_reducible exact cell_al _ (cell_al _ kt0)) | go_simp)
  replace kt1 : w7.cell? ⟨w.heap.size + 1, 1, none⟩ = some (.int .i64 t2) := cell_later hb (by first | (with_reducible exact kt1) | (with_reducible exact cell_al _ kt1) | (with_reducible exact cell_al _ (cell_al _ kt1)) | go_simp)
  replace ka0 : w7.cell? ⟨w.heap.size + 1 + 1, 0, none⟩ = some (.int .i64 a1) := cell_later hb (by first | (with_reducible exact ka0) | (with_reducible exact cell_al _ ka0) | (with_reducible exact cell_al _ (cell_al _ ka0)) | go_simp)
  replace ka1 : w7.cell? ⟨w.heap.size + 1 + 1, 1, none⟩ = some (.int .i64 a2) := cell_later hb (by first | (with_reducible exact ka1) | (with_reducible exact cell_al _ ka1) | (with_reducible exact cell_al _ (cell_al _ ka1)) | go_simp)
  replace ka2 : w7.cell? ⟨w.heap.size + 1 + 1, 2, none⟩ = some (.int .i64 a3) := cell_later hb (by first | (with_reducible exact ka2) | (with_reducible exact cell_al _ ka2) | (with_reducible exact cell_al _ (cell_al _ ka2)) | go_simp)
  replace ka3 : w7.cell? ⟨w.heap.size + 1 + 1, 3, none⟩ = some (.int .i64 a4) := cell_later hb (by first | (with_reducible exact ka3) | (with_reducible exact cell_al _ ka3) | (with_reducible exact cell_al _ (cell_al _ ka3)) | go_simp)
  replace kb0 : w7.cell? ⟨w.heap.size + 1 + 1 + 1, 0, none⟩ = some (.int .i64 b1) := cell_later hb (by first | (with_reducible exact kb0) | (with_reducible exact cell_al _ kb0) | (with_reducible exact cell_al _ (cell_al _ kb0)) | go_simp)
  replace kb1 : w7.cell? ⟨w.heap.size + 1 + 1 + 1, 1, none⟩ = some (.int .i64 b2) := cell_later hb (by first | (with_reducible exact kb1) | (with_reducible exact cell_al _ kb1) | (with_reducible exact cell_al _ (cell_al _ kb1)) | go_simp)
  replace kb2 : w7.cell? ⟨w.heap.size + 1 + 1 + 1, 2, none⟩ = some (.int .i64 b3) := cell_later hb (by first | (with_reducible exact kb2) | (with_reducible exact cell_al _ kb2) | (with_reducible exact cell_al _ (cell_al _ kb2)) | go_simp)
  replace kb3 : w7.cell? ⟨w.heap.size + 1 + 1 + 1, 3, none⟩ = some (.int .i64 b4) := cell_later hb (by first | (with_reducible exact kb3) | (with_reducible exact cell_al _ kb3) | (with_reducible exact cell_al _ (cell_al _ kb3)) | go_simp)
  replace kp0 : w7.cell? ⟨w.heap.size + 1 + 1 + 1 + 1, 0, none⟩ = some (.int .i64 p1) := cell_later hb (by first | (with_reducible exact kp0) | (with_reducible exact cell_al _ kp0) | (with_reducible exact cell_al _ (cell_al _ kp0)) | go_simp)
  replace kp1 : w7.cell? ⟨w.heap.size + 1 + 1 + 1 + 1, 1, none⟩ = some (.int .i64 p2) := cell_later hb (by first | (with_reducible exact kp1) | (with_reducible exact cell_al _ kp1) | (with_reducible exact cell_al _ (cell_al _ kp1)) | go_simp)
  replace kx0 : w7.cell? ⟨w2.heap.size, 0, none⟩ = some (.int .i64 oScale0) := cell_later hb (by first | (with_reducible exact kx0) | (with_reducible exact cell_al _ kx0) | (with_reducible exact cell_al _ (cell_al _ kx0)) | go_simp)
  replace jx0 : w7.frozen? ⟨w2.heap.size, 0, none⟩ = false := by rw [(bcell hb).2 _ _ (by first | omega | (simp <;> omega))]; first | (with_reducible exact jx0) | go_simp
  replace kx1 : w7.cell? ⟨w2.heap.size, 1, none⟩ = some (.int .i64 oScale1) := cell_later hb (by first | (with_reducible exact kx1) | (with_reducible exact cell_al _ kx1) | (with_reducible exact cell_al _ (cell_al _ kx1)) | go_simp)
  replace jx1 : w7.frozen? ⟨w2.heap.size, 1, none⟩ = false := by rw [(bcell hb).2 _ _ (by first | omega | (simp <;> omega))]; first | (with_reducible exact jx1) | go_simp
  replace kyq0 : w7.cell? ⟨w3.heap.size, 0, none⟩ = some (.int .i64 oSub0) := cell_later hb (by first | (with_reducible exact kyq0) | (with_reducible exact cell_al _ kyq0) | (with_reducible exact cell_al _ (cell_al _ kyq0)) | go_simp)
  replace jyq0 : w7.frozen? ⟨w3.heap.size, 0, none⟩ = false := by rw [(bcell hb).2 _ _ (by first | omega | (simp <;> omega))]; first | (with_reducible exact jyq0) | go_simp
  replace kyq1 : w7.cell? ⟨w3.heap.size, 1, none⟩ = some (.int .i64 oSub1) := cell_later hb (by first | (with_reducible exact kyq1) | (with_reducible exact cell_al _ kyq1) | (with_reducible exact cell_al _ (cell_al _ kyq1)) | go_simp)
  replace jyq1 : w7.frozen? ⟨w3.heap.size, 1, none⟩ = false := by rw [(bcell hb).2 _ _ (by first | omega | (simp <;> omega))]; first | (with_reducible exact jyq1) | go_simp
  replace zs : w.heap.size < w7.heap.size := World.block_lt_of_cell? _ _ ks0
  replace zt : w.heap.size + 1 < w7.heap.size := World.block_lt_of_cell? _ _ kt0
  replace za : w.heap.size + 1 + 1 < w7.heap.size := World.block_lt_of_cell? _ _ ka0
  replace zb : w.heap.size + 1 + 1 + 1 < w7.heap.size := World.block_lt_of_cell? _ _ kb0
  replace zp : w.heap.size + 1 + 1 + 1 + 1 < w7.heap.size := World.block_lt_of_cell? _ _ kp0
  replace zx : w2.heap.size < w7.heap.size := World.block_lt_of_cell? _ _ kx0
  replace zyq : w3.heap.size < w7.heap.size := World.block_lt_of_cell? _ _ kyq0
  replace hb0 : Below w.heap.size w w7 := (by repeat (first | exact Below.refl _ _ | assumption | refine bstep ?_ (by assumption) | refine Below.drew ?_ | refine balloc ?_ _ | refine Below.setCell ?_ (by first | omega | (simp <;> omega)) _))
  clear hb
  go_wp2_with fail
  refine Calls.mono (PMeet _) ?_
  rintro e w8 ⟨rfl, hb⟩
  replace ks0 : w8.cell? ⟨w.heap.size, 0, none⟩ = some (.int .i64 s1) := cell_later hb (by first | (with_reducible exact ks0) | (with_reducible exact cell_al _ ks0) | (with_reducible exact cell_al _ (cell_al _ ks0)) | go_simp)
  replace ks1 : w8.cell? ⟨w.heap.size, 1, none⟩ = some (.int .i64 s2) := cell_later hb (by first | (with_reducible exact ks1) | (with_reducible exact cell_al _ ks1) | (with_reducible exact cell_al _ (cell_al _ ks1)) | go_simp)
  replace kt0 : w8.cell? ⟨w.heap.size + 1, 0, none⟩ = some (.int .i64 t1) := cell_later hb (by first | (with_reducible exact kt0) | (with_reducible exact cell_al _ kt0) | (with_reducible exact cell_al _ (cell_al _ kt0)) | go_simp)
  replace kt1 : w8.cell? ⟨w.heap.size + 1, 1, none⟩ = some (.int .i64 t2) := cell_later hb (by first | (with_reducible exact kt1) | (with_reducible exact cell_al _ kt1) | (with_reducible exact cell_al _ (cell_al _ kt1)) | go_simp)
  replace ka0 : w8.cell? ⟨w.heap.size + 1 + 1, 0, none⟩ = some (.int .i64 a1) := cell_later hb (by first | (with_reducible exact ka0) | (with_reducible exact cell_al _ ka0) | (with_reducible exact cell_al _ (cell_al _ ka0)) | go_simp)
  replace ka1 : w8.cell? ⟨w.heap.size + 1 + 1, 1, none⟩ = some (.int .i64 a2) := cell_later hb (by first | (with_reducible exact ka1) | (with_reducible exact cell_al _ ka1) | (with_reducible exact cell_al _ (cell_al _ ka1)) | go_simp)
  replace ka2 : w8.cell? ⟨w.heap.size + 1 + 1, 2, none⟩ = some (.int .i64 a3) := cell_later hb (by first | (with_reducible exact ka2) | (with_reducible exact cell_al _ ka2) | (with_reducible exact cell_al _ (cell_al _ ka2)) | go_simp)
  replace ka3 : w8.cell? ⟨w.heap.size + 1 + 1, 3, none⟩ = some (.int .i64 a4) := cell_later hb (by first | (with_reducible exact ka3) | (with_reducible exact cell_al _ ka3) | (with_reducible exact cell_al _ (cell_al _ ka3)) | go_simp)
  replace kb0 : w8.cell? ⟨w.heap.size + 1 + 1 + 1, 0, none⟩ = some (.int .i64 b1) := cell_later hb (by first | (with_reducible exact kb0) | (with_reducible exact cell_al _ kb0) | (with_reducible exact cell_al _ (cell_al _ kb0)) | go_simp)
  replace kb1 : w8.cell? ⟨w.heap.size + 1 + 1 + 1, 1, none⟩ = some (.int .i64 b2) := cell_later hb (by first | (with_reducible exact kb1) | (with_reducible exact cell_al _ kb1) | (with_reducible exact cell_al _ (cell_al _ kb1)) | go_simp)
  replace kb2 : w8.cell? ⟨w.heap.size + 1 + 1 + 1, 2, none⟩ = some (.int .i64 b3) := cell_later hb (by first | (with_reducible exact kb2) | (with_reducible exact cell_al _ kb2) | (with_reducible exact cell_al _ (cell_al _ kb2)) | go_simp)
  replace kb3 : w8.cell? ⟨w.heap.size + 1 + 1 + 1, 3, none⟩ = some (.int .i64 b4) := cell_later hb (by first | (with_reducible exact kb3) | (with_reducible exact cell_al _ kb3) | (with_reducible exact cell_al _ (cell_al _ kb3)) | go_simp)
  replace kp0 : w8.cell? ⟨w.heap.size + 1 + 1 + 1 + 1, 0, none⟩ = some (.int .i64 p1) := cell_later hb (by first | (with_reducible exact kp0) | (with_reducible exact cell_al _ kp0) | (with_reducible exact cell_al _ (cell_al _ kp0)) | go_simp)
  replace kp1 : w8.cell? ⟨w.heap.size + 1 + 1 + 1 + 1, 1, none⟩ = some (.int .i64 p2) := cell_later hb (by first | (with_reducible exact kp1) | (with_reducible exact cell_al _ kp1) | (with_reducible exact cell_al _ (cell_al _ kp1)) | go_simp)
  replace kx0 : w8.cell? ⟨w2.heap.size, 0, none⟩ = some (.int .i64 oScale0) := cell_later hb (by first | (with_reducible exact kx0) | (with_reducible exact cell_al _ kx0) | (with_reducible exact cell_al _ (cell_al _ kx0)) | go_simp)
  replace jx0 : w8.frozen? ⟨w2.heap.size, 0, none⟩ = false := by rw [(bcell hb).2 _ _ (by first | omega | (simp <;> omega))]; first | (with_reducible exact jx0) | go_simp
  replace kx1 : w8.cell? ⟨w2.heap.size, 1, none⟩ = some (.int .i64 oScale1) := cell_later hb (by first | (with_reducible exact kx1) | (with_reducible exact cell_al _ kx1) | (with_reducible exact cell_al _ (cell_al _ kx1)) | go_simp)
  replace jx1 : w8.frozen? ⟨w2.heap.size, 1, none⟩ = false := by rw [(bcell hb).2 _ _ (by first | omega | (simp <;> omega))]; first | (with_reducible exact jx1) | go_simp
  replace kyq0 : w8.cell? ⟨w3.heap.size, 0, none⟩ = some (.int .i64 oScale0) := cell_later hb (by first | (with_reducible exact kyq0) | (with_reducible exact cell_al _ kyq0) | (with_reducible exact cell_al _ (cell_al _ kyq0)) | go_simp)
  replace jyq0 : w8.frozen? ⟨w3.heap.size, 0, none⟩ = false := by rw [(bcell hb).2 _ _ (by first | omega | (simp <;> omega))]; first | (with_reducible exact jyq0) | go_simp
  replace kyq1 : w8.cell? ⟨w3.heap.size, 1, none⟩ = some (.int .i64 oScale1) := cell_later hb (by first | (with_reducible exact kyq1) | (with_reducible exact cell_al _ kyq1) | (with_reducible exact cell_al _ (cell_al _ kyq1)) | go_simp)
  replace jyq1 : w8.frozen? ⟨w3.heap.size, 1, none⟩ = false := by rw [(bcell hb).2 _ _ (by first | omega | (simp <;> omega))]; first | (with_reducible exact jyq1) | go_simp
  replace zs : w.heap.size < w8.heap.size := World.block_lt_of_cell? _ _ ks0
  replace zt : w.heap.size + 1 < w8.heap.size := World.block_lt_of_cell? _ _ kt0
  replace za : w.heap.size + 1 + 1 < w8.heap.size := World.block_lt_of_cell? _ _ ka0
  replace zb : w.heap.size + 1 + 1 + 1 < w8.heap.size := World.block_lt_of_cell? _ _ kb0
  replace zp : w.heap.size + 1 + 1 + 1 + 1 < w8.heap.size := World.block_lt_of_cell? _ _ kp0
  replace zx : w2.heap.size < w8.heap.size := World.block_lt_of_cell? _ _ kx0
  replace zyq : w3.heap.size < w8.heap.size := World.block_lt_of_cell? _ _ kyq0
  replace hb0 : Below w.heap.size w w8 := (by repeat (first | exact Below.refl _ _ | assumption | refine bstep ?_ (by assumption) | refine Below.drew ?_ | refine balloc ?_ _ | refine Below.setCell ?_ (by first | omega | (simp <;> omega)) _))
  clear hb
  go_wp2_with fail
  refine Calls.mono (RMeet _) ?_
  rintro e w9 ⟨rfl, hb⟩
  replace ks0 : w9.cell? ⟨w.heap.size, 0, none⟩ = some (.int .i64 s1) := cell_later hb (by first | (with_reducible exact ks0) | (with_reducible exact cell_al _ ks0) | (with_reducible exact cell_al _ (cell_al _ ks0)) | go_simp)
  replace ks1 : w9.cell? ⟨w.heap.size, 1, none⟩ = some (.int .i64 s2) := cell_later hb (by first | (with_reducible exact ks1) | (with_reducible exact cell_al _ ks1) | (with_reducible exact cell_al _ (cell_al _ ks1)) | go_simp)
  replace kt0 : w9.cell? ⟨w.heap.size + 1, 0, none⟩ = some (.int .i64 t1) := cell_later hb (by first | (with_reducible exact kt0) | (with_reducible exact cell_al _ kt0) | (with_reducible exact cell_al _ (cell_al _ kt0)) | go_simp)
  replace kt1 : w9.cell? ⟨w.heap.size + 1, 1, none⟩ = some (.int .i64 t2) := cell_later hb (by first | (with_reducible exact kt1) | (with_reducible exact cell_al _ kt1) | (with_reducible exact cell_al _ (cell_al _ kt1)) | go_simp)
  replace ka0 : w9.cell? ⟨w.heap.size + 1 + 1, 0, none⟩ = some (.int .i64 a1) := cell_later hb (by first | (with_reducible exact ka0) | (with_reducible exact cell_al _ ka0) | (with_reducible exact cell_al _ (cell_al _ ka0)) | go_simp)
  replace ka1 : w9.cell? ⟨w.heap.size + 1 + 1, 1, none⟩ = some (.int .i64 a2) := cell_later hb (by first | (with_reducible exact ka1) | (with_reducible exact cell_al _ ka1) | (with_reducible exact cell_al _ (cell_al _ ka1)) | go_simp)
  replace ka2 : w9.cell? ⟨w.heap.size + 1 + 1, 2, none⟩ = some (.int .i64 a3) := cell_later hb (by first | (with_reducible exact ka2) | (with_reducible exact cell_al _ ka2) | (with_reducible exact cell_al _ (cell_al _ ka2)) | go_simp)
  replace ka3 : w9.cell? ⟨w.heap.size + 1 + 1, 3, none⟩ = some (.int .i64 a4) := cell_later hb (by first | (with_reducible exact ka3) | (with_reducible exact cell_al _ ka3) | (with_reducible exact cell_al _ (cell_al _ ka3)) | go_simp)
  replace kb0 : w9.cell? ⟨w.heap.size + 1 + 1 + 1, 0, none⟩ = some (.int .i64 b1) := cell_later hb (by first | (with_reducible exact kb0) | (with_reducible exact cell_al _ kb0) | (with_reducible exact cell_al _ (cell_al _ kb0)) | go_simp)
  replace kb1 : w9.cell? ⟨w.heap.size + 1 + 1 + 1, 1, none⟩ = some (.int .i64 b2) := cell_later hb (by first | (with_reducible exact kb1) | (with_reducible exact cell_al _ kb1) | (with_reducible exact cell_al _ (cell_al _ kb1)) | go_simp)
  replace kb2 : w9.cell? ⟨w.heap.size + 1 + 1 + 1, 2, none⟩ = some (.int .i64 b3) := cell_later hb (by first | (with_reducible exact kb2) | (with_reducible exact cell_al _ kb2) | (with_reducible exact cell_al _ (cell_al _ kb2)) | go_simp)
  replace kb3 : w9.cell? ⟨w.heap.size + 1 + 1 + 1, 3, none⟩ = some (.int .i64 b4) := cell_later hb (by first | (with_reducible exact kb3) | (with_reducible exact cell_al _ kb3) | (with_reducible exact cell_al _ (cell_al _ kb3)) | go_simp)
  replace kp0 : w9.cell? ⟨w.heap.size + 1 + 1 + 1 + 1, 0, none⟩ = some (.int .i64 p1) := cell_later hb (by first | (with_reducible exact kp0) | (with_reducible exact cell_al _ kp0) | (with_reducible exact cell_al _ (cell_al _ kp0)) | go_simp)
  replace kp1 : w9.cell? ⟨w.heap.size + 1 + 1 + 1 + 1, 1, none⟩ = some (.int .i64 p2) := cell_later hb (by first | (with_reducible exact kp1) | (with_reducible exact cell_al _ kp1) | (with_reducible exact cell_al _ (cell_al _ kp1)) | go_simp)
  replace kx0 : w9.cell? ⟨w2.heap.size, 0, none⟩ = some (.int .i64 oMeet0) := cell_later hb (by first | (with_reducible exact kx0) | (with_reducible exact cell_al _ kx0) | (with_reducible exact cell_al _ (cell_al _ kx0)) | go_simp)
  replace jx0 : w9.frozen? ⟨w2.heap.size, 0, none⟩ = false := by rw [(bcell hb).2 _ _ (by first | omega | (simp <;> omega))]; first | (with_reducible exact jx0) | go_simp
  replace kx1 : w9.cell? ⟨w2.heap.size, 1, none⟩ = some (.int .i64 oMeet1) := cell_later hb (by first | (with_reducible exact kx1) | (with_reducible exact cell_al _ kx1) | (with_reducible exact cell_al _ (cell_al _ kx1)) | go_simp)
  replace jx1 : w9.frozen? ⟨w2.heap.size, 1, none⟩ = false := by rw [(bcell hb).2 _ _ (by first | omega | (simp <;> omega))]; first | (with_reducible exact jx1) | go_simp
  replace kyq0 : w9.cell? ⟨w3.heap.size, 0, none⟩ = some (.int .i64 oScale0) := cell_later hb (by first | (with_reducible exact kyq0) | (with_reducible exact cell_al _ kyq0) | (with_reducible exact cell_al _ (cell_al _ kyq0)) | go_simp)
  replace jyq0 : w9.frozen? ⟨w3.heap.size, 0, none⟩ = false := by rw [(bcell hb).2 _ _ (by first | omega | (simp <;> omega))]; first | (with_reducible exact jyq0) | go_simp
  replace kyq1 : w9.cell? ⟨w3.heap.size, 1, none⟩ = some (.int .i64 oScale1) := cell_later hb (by first | (with_reducible exact kyq1) | (with_reducible exact cell_al _ kyq1) | (with_reducible exact cell_al _ (cell_al _ kyq1)) | go_simp)
  replace jyq1 : w9.frozen? ⟨w3.heap.size, 1, none⟩ = false := by rw [(bcell hb).2 _ _ (by first | omega | (simp <;> omega))]; first | (with_reducible exact jyq1) | go_simp
  replace zs : w.heap.size < w9.heap.size := World.block_lt_of_cell? _ _ ks0
  replace zt : w.heap.size + 1 < w9.heap.size := World.block_lt_of_cell? _ _ kt0
  replace za : w.heap.size + 1 + 1 < w9.heap.size := World.block_lt_of_cell? _ _ ka0
  replace zb : w.heap.size + 1 + 1 + 1 < w9.heap.size := World.block_lt_of_cell? _ _ kb0
  replace zp : w.heap.size + 1 + 1 + 1 + 1 < w9.heap.size := World.block_lt_of_cell? _ _ kp0
  replace zx : w2.heap.size < w9.heap.size := World.block_lt_of_cell? _ _ kx0
  replace zyq : w3.heap.size < w9.heap.size := World.block_lt_of_cell? _ _ kyq0
  replace hb0 : Below w.heap.size w w9 := (by repeat (first | exact Below.refl _ _ | assumption | refine bstep ?_ (by assumption) | refine Below.drew ?_ | refine balloc ?_ _ | refine Below.setCell ?_ (by first | omega | (simp <;> omega)) _))
  clear hb
  go_wp2_with fail
  refine Calls.mono (PJoin _) ?_
  rintro e w10 ⟨rfl, hb⟩
  replace ks0 : w10.cell? ⟨w.heap.size, 0, none⟩ = some (.int .i64 s1) := cell_later hb (by first | (with_reducible exact ks0) | (with_reducible exact cell_al _ ks0) | (with_reducible exact cell_al _ (cell_al _ ks0)) | go_simp)
  replace ks1 : w10.cell? ⟨w.heap.size, 1, none⟩ = some (.int .i64 s2) := cell_later hb (by first | (with_reducible exact ks1) | (with_reducible exact cell_al _ ks1) | (with_reducible exact cell_al _ (cell_al _ ks1)) | go_simp)
  replace kt0 : w10.cell? ⟨w.heap.size + 1, 0, none⟩ = some (.int .i64 t1) := cell_later hb (by first | (with_reducible exact kt0) | (with_reducible exact cell_al _ kt0) | (with_reducible exact cell_al _ (cell_al _ kt0)) | go_simp)
  replace kt1 : w10.cell? ⟨w.heap.size + 1, 1, none⟩ = some (.int .i64 t2) := cell_later hb (by first | (with_reducible exact kt1) | (with_reducible exact cell_al _ kt1) | (with_reducible exact cell_al _ (cell_al _ kt1)) | go_simp)
  replace ka0 : w10.cell? ⟨w.heap.size + 1 + 1, 0, none⟩ = some (.int .i64 a1) := cell_later hb (by first | (with_reducible exact ka0) | (with_reducible exact cell_al _ ka0) | (with_reducible exact cell_al _ (cell_al _ ka0)) | go_simp)
  replace ka1 : w10.cell? ⟨w.heap.size + 1 + 1, 1, none⟩ = some (.int .i64 a2) := cell_later hb (by first | (with_reducible exact ka1) | (with_reducible exact cell_al _ ka1) | (with_reducible exact cell_al _ (cell_al _ ka1)) | go_simp)
  replace ka2 : w10.cell? ⟨w.heap.size + 1 + 1, 2, none⟩ = some (.int .i64 a3) := cell_later hb (by first | (with_reducible exact ka2) | (with_reducible exact cell_al _ ka2) | (with_reducible exact cell_al _ (cell_al _ ka2)) | go_simp)
  replace ka3 : w10.cell? ⟨w.heap.size + 1 + 1, 3, none⟩ = some (.int .i64 a4) := cell_later hb (by first | (with_reducible exact ka3) | (with_reducible exact cell_al _ ka3) | (with_reducible exact cell_al _ (cell_al _ ka3)) | go_simp)
  replace kb0 : w10.cell? ⟨w.heap.size + 1 + 1 + 1, 0, none⟩ = some (.int .i64 b1) := cell_later hb (by first | (with_reducible exact kb0) | (with_reducible exact cell_al _ kb0) | (with_reducible exact cell_al _ (cell_al _ kb0)) | go_simp)
  replace kb1 : w10.cell? ⟨w.heap.size + 1 + 1 + 1, 1, none⟩ = some (.int .i64 b2) := cell_later hb (by first | (with_reducible exact kb1) | (with_reducible exact cell_al _ kb1) | (with_reducible exact cell_al _ (cell_al _ kb1)) | go_simp)
  replace kb2 : w10.cell? ⟨w.heap.size + 1 + 1 + 1, 2, none⟩ = some (.int .i64 b3) := cell_later hb (by first | (with_reducible exact kb2) | (with_reducible exact cell_al _ kb2) | (with_reducible exact cell_al _ (cell_al _ kb2)) | go_simp)
  replace kb3 : w10.cell? ⟨w.heap.size + 1 + 1 + 1, 3, none⟩ = some (.int .i64 b4) := cell_later hb (by first | (with_reducible exact kb3) | (with_reducible exact cell_al _ kb3) | (with_reducible exact cell_al _ (cell_al _ kb3)) | go_simp)
  replace kp0 : w10.cell? ⟨w.heap.size + 1 + 1 + 1 + 1, 0, none⟩ = some (.int .i64 p1) := cell_later hb (by first | (with_reducible exact kp0) | (with_reducible exact cell_al _ kp0) | (with_reducible exact cell_al _ (cell_al _ kp0)) | go_simp)
  replace kp1 : w10.cell? ⟨w.heap.size + 1 + 1 + 1 + 1, 1, none⟩ = some (.int .i64 p2) := cell_later hb (by first | (with_reducible exact kp1) | (with_reducible exact cell_al _ kp1) | (with_reducible exact cell_al _ (cell_al _ kp1)) | go_simp)
  replace kx0 : w10.cell? ⟨w2.heap.size, 0, none⟩ = some (.int .i64 oMeet0) := cell_later hb (by first | (with_reducible exact kx0) | (with_reducible exact cell_al _ kx0) | (with_reducible exact cell_al _ (cell_al _ kx0)) | go_simp)
  replace jx0 : w10.frozen? ⟨w2.heap.size, 0, none⟩ = false := by rw [(bcell hb).2 _ _ (by first | omega | (simp <;> omega))]; first | (with_reducible exact jx0) | go_simp
  replace kx1 : w10.cell? ⟨w2.heap.size, 1, none⟩ = some (.int .i64 oMeet1) := cell_later hb (by first | (with_reducible exact kx1) | (with_reducible exact cell_al _ kx1) | (with_reducible exact cell_al _ (cell_al _ kx1)) | go_simp)
  replace jx1 : w10.frozen? ⟨w2.heap.size, 1, none⟩ = false := by rw [(bcell hb).2 _ _ (by first | omega | (simp <;> omega))]; first | (with_reducible exact jx1) | go_simp
  replace kyq0 : w10.cell? ⟨w3.heap.size, 0, none⟩ = some (.int .i64 oMeet0) := cell_later hb (by first | (with_reducible exact kyq0) | (with_reducible exact cell_al _ kyq0) | (with_reducible exact cell_al _ (cell_al _ kyq0)) | go_simp)
  replace jyq0 : w10.frozen? ⟨w3.heap.size, 0, none⟩ = false := by rw [(bcell hb).2 _ _ (by first | omega | (simp <;> omega))]; first | (with_reducible exact jyq0) | go_simp
  replace kyq1 : w10.cell? ⟨w3.heap.size, 1, none⟩ = some (.int .i64 oMeet1) := cell_later hb (by first | (with_reducible exact kyq1) | (with_reducible exact cell_al _ kyq1) | (with_reducible exact cell_al _ (cell_al _ kyq1)) | go_simp)
  replace jyq1 : w10.frozen? ⟨w3.heap.size, 1, none⟩ = false := by rw [(bcell hb).2 _ _ (by first | omega | (simp <;> omega))]; first | (with_reducible exact jyq1) | go_simp
  replace zs : w.heap.size < w10.heap.size := World.block_lt_of_cell? _ _ ks0
  replace zt : w.heap.size + 1 < w10.heap.size := World.block_lt_of_cell? _ _ kt0
  replace za : w.heap.size + 1 + 1 < w10.heap.size := World.block_lt_of_cell? _ _ ka0
  replace zb : w.heap.size + 1 + 1 + 1 < w10.heap.size := World.block_lt_of_cell? _ _ kb0
  replace zp : w.heap.size + 1 + 1 + 1 + 1 < w10.heap.size := World.block_lt_of_cell? _ _ kp0
  replace zx : w2.heap.size < w10.heap.size := World.block_lt_of_cell? _ _ kx0
  replace zyq : w3.heap.size < w10.heap.size := World.block_lt_of_cell? _ _ kyq0
  replace hb0 : Below w.heap.size w w10 := (by repeat (first | exact Below.refl _ _ | assumption | refine bstep ?_ (by assumption) | refine Below.drew ?_ | refine balloc ?_ _ | refine Below.setCell ?_ (by first | omega | (simp <;> omega)) _))
  clear hb
  go_wp2_with fail
  refine Calls.mono (RJoin _) ?_
  rintro e w11 ⟨rfl, hb⟩
  replace ks0 : w11.cell? ⟨w.heap.size, 0, none⟩ = some (.int .i64 s1) := cell_later hb (by first | (with_reducible exact ks0) | (with_reducible exact cell_al _ ks0) | (with_reducible exact cell_al _ (cell_al _ ks0)) | go_simp)
  replace ks1 : w11.cell? ⟨w.heap.size, 1, none⟩ = some (.int .i64 s2) := cell_later hb (by first | (with_reducible exact ks1) | (with_reducible exact cell_al _ ks1) | (with_reducible exact cell_al _ (cell_al _ ks1)) | go_simp)
  replace kt0 : w11.cell? ⟨w.heap.size + 1, 0, none⟩ = some (.int .i64 t1) := cell_later hb (by first | (with_reducible exact kt0) | (with_reducible exact cell_al _ kt0) | (with_reducible exact cell_al _ (cell_al _ kt0)) | go_simp)
  replace kt1 : w11.cell? ⟨w.heap.size + 1, 1, none⟩ = some (.int .i64 t2) := cell_later hb (by first | (with_reducible exact kt1) | (with_reducible exact cell_al _ kt1) | (with_reducible exact cell_al _ (cell_al _ kt1)) | go_simp)
  replace ka0 : w11.cell? ⟨w.heap.size + 1 + 1, 0, none⟩ = some (.int .i64 a1) := cell_later hb (by first | (with_reducible exact ka0) | (with_reducible exact cell_al _ ka0) | (with_reducible exact cell_al _ (cell_al _ ka0)) | go_simp)
  replace ka1 : w11.cell? ⟨w.heap.size + 1 + 1, 1, none⟩ = some (.int .i64 a2) := cell_later hb (by first | (with_reducible exact ka1) | (with_reducible exact cell_al _ ka1) | (with_reducible exact cell_al _ (cell_al _ ka1)) | go_simp)
  replace ka2 : w11.cell? ⟨w.heap.size + 1 + 1, 2, none⟩ = some (.int .i64 a3) := cell_later hb (by first | (with_reducible exact ka2) | (with_reducible exact cell_al _ ka2) | (with_reducible exact cell_al _ (cell_al _ ka2)) | go_simp)
  replace ka3 : w11.cell? ⟨w.heap.size + 1 + 1, 3, none⟩ = some (.int .i64 a4) := cell_later hb (by first | (with_reducible exact ka3) | (with_reducible exact cell_al _ ka3) | (with_reducible exact cell_al _ (cell_al _ ka3)) | go_simp)
  replace kb0 : w11.cell? ⟨w.heap.size + 1 + 1 + 1, 0, none⟩ = some (.int .i64 b1) := cell_later hb (by first | (with_reducible exact kb0) | (with_reducible exact cell_al _ kb0) | (with_reducible exact cell_al _ (cell_al _ kb0)) | go_simp)
  replace kb1 : w11.cell? ⟨w.heap.size + 1 + 1 + 1, 1, none⟩ = some (.int .i64 b2) := cell_later hb (by first | (with_reducible exact kb1) | (with_reducible exact cell_al _ kb1) | (with_reducible exact cell_al _ (cell_al _ kb1)) | go_simp)
  replace kb2 : w11.cell? ⟨w.heap.size + 1 + 1 + 1, 2, none⟩ = some (.int .i64 b3) := cell_later hb (by first | (with_reducible exact kb2) | (with_reducible exact cell_al _ kb2) | (with_reducible exact cell_al _ (cell_al _ kb2)) | go_simp)
  replace kb3 : w11.cell? ⟨w.heap.size + 1 + 1 + 1, 3, none⟩ = some (.int .i64 b4) := cell_later hb (by first | (with_reducible exact kb3) | (with_reducible exact cell_al _ kb3) | (with_reducible exact cell_al _ (cell_al _ kb3)) | go_simp)
  replace kp0 : w11.cell? ⟨w.heap.size + 1 + 1 + 1 + 1, 0, none⟩ = some (.int .i64 p1) := cell_later hb (by first | (with_reducible exact kp0) | (with_reducible exact cell_al _ kp0) | (with_reducible exact cell_al _ (cell_al _ kp0)) | go_simp)
  replace kp1 : w11.cell? ⟨w.heap.size + 1 + 1 + 1 + 1, 1, none⟩ = some (.int .i64 p2) := cell_later hb (by first | (with_reducible exact kp1) | (with_reducible exact cell_al _ kp1) | (with_reducible exact cell_al _ (cell_al _ kp1)) | go_simp)
  replace kx0 : w11.cell? ⟨w2.heap.size, 0, none⟩ = some (.int .i64 oJoin0) := cell_later hb (by first | (with_reducible exact kx0) | (with_reducible exact cell_al _ kx0) | (with_reducible exact cell_al _ (cell_al _ kx0)) | go_simp)
  replace jx0 : w11.frozen? ⟨w2.heap.size, 0, none⟩ = false := by rw [(bcell hb).2 _ _ (by first | omega | (simp <;> omega))]; first | (with_reducible exact jx0) | go_simp
  replace kx1 : w11.cell? ⟨w2.heap.size, 1, none⟩ = some (.int .i64 oJoin1) := cell_later hb (by first | (with_reducible exact kx1) | (with_reducible exact cell_al _ kx1) | (with_reducible exact cell_al _ (cell_al _ kx1)) | go_simp)
  replace jx1 : w11.frozen? ⟨w2.heap.size, 1, none⟩ = false := by rw [(bcell hb).2 _ _ (by first | omega | (simp <;> omega))]; first | (with_reducible exact jx1) | go_simp
  replace kyq0 : w11.cell? ⟨w3.heap.size, 0, none⟩ = some (.int .i64 oMeet0) := cell_later hb (by first | (with_reducible exact kyq0) | (with_reducible exact cell_al _ kyq0) | (with_reducible exact cell_al _ (cell_al _ kyq0)) | go_simp)
  replace jyq0 : w11.frozen? ⟨w3.heap.size, 0, none⟩ = false := by rw [(bcell hb).2 _ _ (by first | omega | (simp <;> omega))]; first | (with_reducible exact jyq0) | go_simp
  replace kyq1 : w11.cell? ⟨w3.heap.size, 1, none⟩ = some (.int .i64 oMeet1) := cell_later hb (by first | (with_reducible exact kyq1) | (with_reducible exact cell_al _ kyq1) | (with_reducible exact cell_al _ (cell_al _ kyq1)) | go_simp)
  replace jyq1 : w11.frozen? ⟨w3.heap.size, 1, none⟩ = false := by rw [(bcell hb).2 _ _ (by first | omega | (simp <;> omega))]; first | (with_reducible exact jyq1) | go_simp
  replace zs : w.heap.size < w11.heap.size := World.block_lt_of_cell? _ _ ks0
  replace zt : w.heap.size + 1 < w11.heap.size := World.block_lt_of_cell? _ _ kt0
  replace za : w.heap.size + 1 + 1 < w11.heap.size := World.block_lt_of_cell? _ _ ka0
  replace zb : w.heap.size + 1 + 1 + 1 < w11.heap.size := World.block_lt_of_cell? _ _ kb0
  replace zp : w.heap.size + 1 + 1 + 1 + 1 < w11.heap.size := World.block_lt_of_cell? _ _ kp0
  replace zx : w2.heap.size < w11.heap.size := World.block_lt_of_cell? _ _ kx0
  replace zyq : w3.heap.size < w11.heap.size := World.block_lt_of_cell? _ _ kyq0
  replace hb0 : Below w.heap.size w w11 := (by repeat (first | exact Below.refl _ _ | assumption | refine bstep ?_ (by assumption) | refine Below.drew ?_ | refine balloc ?_ _ | refine Below.setCell ?_ (by first | omega | (simp <;> omega)) _))
  clear hb
  go_wp2_with fail
  refine Calls.mono (PWithin _) ?_
  rintro e w12 ⟨rfl, hb⟩
  replace ks0 : w12.cell? ⟨w.heap.size, 0, none⟩ = some (.int .i64 s1) := cell_later hb (by first | (with_reducible exact ks0) | (with_reducible exact cell_al _ ks0) | (with_reducible exact cell_al _ (cell_al _ ks0)) | go_simp)
  replace ks1 : w12.cell? ⟨w.heap.size, 1, none⟩ = some (.int .i64 s2) := cell_later hb (by first | (with_reducible exact ks1) | (with_reducible exact cell_al _ ks1) | (with_reducible exact cell_al _ (cell_al _ ks1)) | go_simp)
  replace kt0 : w12.cell? ⟨w.heap.size + 1, 0, none⟩ = some (.int .i64 t1) := cell_later hb (by first | (with_reducible exact kt0) | (with_reducible exact cell_al _ kt0) | (with_reducible exact cell_al _ (cell_al _ kt0)) | go_simp)
  replace kt1 : w12.cell? ⟨w.heap.size + 1, 1, none⟩ = some (.int .i64 t2) := cell_later hb (by first | (with_reducible exact kt1) | (with_reducible exact cell_al _ kt1) | (with_reducible exact cell_al _ (cell_al _ kt1)) | go_simp)
  replace ka0 : w12.cell? ⟨w.heap.size + 1 + 1, 0, none⟩ = some (.int .i64 a1) := cell_later hb (by first | (with_reducible exact ka0) | (with_reducible exact cell_al _ ka0) | (with_reducible exact cell_al _ (cell_al _ ka0)) | go_simp)
  replace ka1 : w12.cell? ⟨w.heap.size + 1 + 1, 1, none⟩ = some (.int .i64 a2) := cell_later hb (by first | (with_reducible exact ka1) | (with_reducible exact cell_al _ ka1) | (with_reducible exact cell_al _ (cell_al _ ka1)) | go_simp)
  replace ka2 : w12.cell? ⟨w.heap.size + 1 + 1, 2, none⟩ = some (.int .i64 a3) := cell_later hb (by first | (with_reducible exact ka2) | (with_reducible exact cell_al _ ka2) | (with_reducible exact cell_al _ (cell_al _ ka2)) | go_simp)
  replace ka3 : w12.cell? ⟨w.heap.size + 1 + 1, 3, none⟩ = some (.int .i64 a4) := cell_later hb (by first | (with_reducible exact ka3) | (with_reducible exact cell_al _ ka3) | (with_reducible exact cell_al _ (cell_al _ ka3)) | go_simp)
  replace kb0 : w12.cell? ⟨w.heap.size + 1 + 1 + 1, 0, none⟩ = some (.int .i64 b1) := cell_later hb (by first | (with_reducible exact kb0) | (with_reducible exact cell_al _ kb0) | (with_reducible exact cell_al _ (cell_al _ kb0)) | go_simp)
  replace kb1 : w12.cell? ⟨w.heap.size + 1 + 1 + 1, 1, none⟩ = some (.int .i64 b2) := cell_later hb (by first | (with_reducible exact kb1) | (with_reducible exact cell_al _ kb1) | (with_reducible exact cell_al _ (cell_al _ kb1)) | go_simp)
  replace kb2 : w12.cell? ⟨w.heap.size + 1 + 1 + 1, 2, none⟩ = some (.int .i64 b3) := cell_later hb (by first | (with_reducible exact kb2) | (with_reducible exact cell_al _ kb2) | (with_reducible exact cell_al _ (cell_al _ kb2)) | go_simp)
  replace kb3 : w12.cell? ⟨w.heap.size + 1 + 1 + 1, 3, none⟩ = some (.int .i64 b4) := cell_later hb (by first | (with_reducible exact kb3) | (with_reducible exact cell_al _ kb3) | (with_reducible exact cell_al _ (cell_al _ kb3)) | go_simp)
  replace kp0 : w12.cell? ⟨w.heap.size + 1 + 1 + 1 + 1, 0, none⟩ = some (.int .i64 p1) := cell_later hb (by first | (with_reducible exact kp0) | (with_reducible exact cell_al _ kp0) | (with_reducible exact cell_al _ (cell_al _ kp0)) | go_simp)
  replace kp1 : w12.cell? ⟨w.heap.size + 1 + 1 + 1 + 1, 1, none⟩ = some (.int .i64 p2) := cell_later hb (by first | (with_reducible exact kp1) | (with_reducible exact cell_al _ kp1) | (with_reducible exact cell_al _ (cell_al _ kp1)) | go_simp)
  replace kx0 : w12.cell? ⟨w2.heap.size, 0, none⟩ = some (.int .i64 oJoin0) := cell_later hb (by first | (with_reducible exact kx0) | (with_reducible exact cell_al _ kx0) | (with_reducible exact cell_al _ (cell_al _ kx0)) | go_simp)
  replace jx0 : w12.frozen? ⟨w2.heap.size, 0, none⟩ = false := by rw [(bcell hb).2 _ _ (by first | omega | (simp <;> omega))]; first | (with_reducible exact jx0) | go_simp
  replace kx1 : w12.cell? ⟨w2.heap.size, 1, none⟩ = some (.int .i64 oJoin1) := cell_later hb (by first | (with_reducible exact kx1) | (with_reducible exact cell_al _ kx1) | (with_reducible exact cell_al _ (cell_al _ kx1)) | go_simp)
  replace jx1 : w12.frozen? ⟨w2.heap.size, 1, none⟩ = false := by rw [(bcell hb).2 _ _ (by first | omega | (simp <;> omega))]; first | (with_reducible exact jx1) | go_simp
  replace kyq0 : w12.cell? ⟨w3.heap.size, 0, none⟩ = some (.int .i64 oJoin0) := cell_later hb (by first | (with_reducible exact kyq0) | (with_reducible exact cell_al _ kyq0) | (with_reducible exact cell_al _ (cell_al _ kyq0)) | go_simp)
  replace jyq0 : w12.frozen? ⟨w3.heap.size, 0, none⟩ = false := by rw [(bcell hb).2 _ _ (by first | omega | (simp <;> omega))]; first | (with_reducible exact jyq0) | go_simp
  replace kyq1 : w12.cell? ⟨w3.heap.size, 1, none⟩ = some (.int .i64 oJoin1) := cell_later hb (by first | (with_reducible exact kyq1) | (with_reducible exact cell_al _ kyq1) | (with_reducible exact cell_al _ (cell_al _ kyq1)) | go_simp)
  replace jyq1 : w12.frozen? ⟨w3.heap.size, 1, none⟩ = false := by rw [(bcell hb).2 _ _ (by first | omega | (simp <;> omega))]; first | (with_reducible exact jyq1) | go_simp
  replace zs : w.heap.size < w12.heap.size := World.block_lt_of_cell? _ _ ks0
  replace zt : w.heap.size + 1 < w12.heap.size := World.block_lt_of_cell? _ _ kt0
  replace za : w.heap.size + 1 + 1 < w12.heap.size := World.block_lt_of_cell? _ _ ka0
  replace zb : w.heap.size + 1 + 1 + 1 < w12.heap.size := World.block_lt_of_cell? _ _ kb0
  replace zp : w.heap.size + 1 + 1 + 1 + 1 < w12.heap.size := World.block_lt_of_cell? _ _ kp0
  replace zx : w2.heap.size < w12.heap.size := World.block_lt_of_cell? _ _ kx0
  replace zyq : w3.heap.size < w12.heap.size := World.block_lt_of_cell? _ _ kyq0
  replace hb0 : Below w.heap.size w w12 := (by repeat (first | exact Below.refl _ _ | assumption | refine bstep ?_ (by assumption) | refine Below.drew ?_ | refine balloc ?_ _ | refine Below.setCell ?_ (by first | omega | (simp <;> omega)) _))
  clear hb
  go_wp2_with fail
  refine Calls.mono (RWithin _) ?_
  rintro e w13 ⟨rfl, hb⟩
  replace ks0 : w13.cell? ⟨w.heap.size, 0, none⟩ = some (.int .i64 s1) := cell_later hb (by first | (with_reducible exact ks0) | (with_reducible exact cell_al _ ks0) | (with_reducible exact cell_al _ (cell_al _ ks0)) | go_simp)
  replace ks1 : w13.cell? ⟨w.heap.size, 1, none⟩ = some (.int .i64 s2) := cell_later hb (by first | (with_reducible exact ks1) | (with_reducible exact cell_al _ ks1) | (with_reducible exact cell_al _ (cell_al _ ks1)) | go_simp)
  replace kt0 : w13.cell? ⟨w.heap.size + 1, 0, none⟩ = some (.int .i64 t1) := cell_later hb (by first | (with_reducible exact kt0) | (with_reducible exact cell_al _ kt0) | (with_reducible exact cell_al _ (cell_al _ kt0)) | go_simp)
  replace kt1 : w13.cell? ⟨w.heap.size + 1, 1, none⟩ = some (.int .i64 t2) := cell_later hb (by first | (with_reducible exact kt1) | (with_reducible exact cell_al _ kt1) | (with_reducible exact cell_al _ (cell_al _ kt1)) | go_simp)
  replace ka0 : w13.cell? ⟨w.heap.size + 1 + 1, 0, none⟩ = some (.int .i64 a1) := cell_later hb (by first | (with_reducible exact ka0) | (with_reducible exact cell_al _ ka0) | (with_reducible exact cell_al _ (cell_al _ ka0)) | go_simp)
  replace ka1 : w13.cell? ⟨w.heap.size + 1 + 1, 1, none⟩ = some (.int .i64 a2) := cell_later hb (by first | (with_reducible exact ka1) | (with_reducible exact cell_al _ ka1) | (with_reducible exact cell_al _ (cell_al _ ka1)) | go_simp)
  replace ka2 : w13.cell? ⟨w.heap.size + 1 + 1, 2, none⟩ = some (.int .i64 a3) := cell_later hb (by first | (with_reducible exact ka2) | (with_reducible exact cell_al _ ka2) | (with_reducible exact cell_al _ (cell_al _ ka2)) | go_simp)
  replace ka3 : w13.cell? ⟨w.heap.size + 1 + 1, 3, none⟩ = some (.int .i64 a4) := cell_later hb (by first | (with_reducible exact ka3) | (with_reducible exact cell_al _ ka3) | (with_reducible exact cell_al _ (cell_al _ ka3)) | go_simp)
  replace kb0 : w13.cell? ⟨w.heap.size + 1 + 1 + 1, 0, none⟩ = some (.int .i64 b1) := cell_later hb (by first | (with_reducible exact kb0) | (with_reducible exact cell_al _ kb0) | (with_reducible exact cell_al _ (cell_al _ kb0)) | go_simp)
  replace kb1 : w13.cell? ⟨w.heap.size + 1 + 1 + 1, 1, none⟩ = some (.int .i64 b2) := cell_later hb (by first | (with_reducible exact kb1) | (with_reducible exact cell_al _ kb1) | (with_reducible exact cell_al _ (cell_al _ kb1)) | go_simp)
  replace kb2 : w13.cell? ⟨w.heap.size + 1 + 1 + 1, 2, none⟩ = some (.int .i64 b3) := cell_later hb (by first | (with_reducible exact kb2) | (with_reducible exact cell_al _ kb2) | (with_reducible exact cell_al _ (cell_al _ kb2)) | go_simp)
  replace kb3 : w13.cell? ⟨w.heap.size + 1 + 1 + 1, 3, none⟩ = some (.int .i64 b4) := cell_later hb (by first | (with_reducible exact kb3) | (with_reducible exact cell_al _ kb3) | (with_reducible exact cell_al _ (cell_al _ kb3)) | go_simp)
  replace kp0 : w13.cell? ⟨w.heap.size + 1 + 1 + 1 + 1, 0, none⟩ = some (.int .i64 p1) := cell_later hb (by first | (with_reducible exact kp0) | (with_reducible exact cell_al _ kp0) | (with_reducible exact cell_al _ (cell_al _ kp0)) | go_simp)
  replace kp1 : w13.cell? ⟨w.heap.size + 1 + 1 + 1 + 1, 1, none⟩ = some (.int .i64 p2) := cell_later hb (by first | (with_reducible exact kp1) | (with_reducible exact cell_al _ kp1) | (with_reducible exact cell_al _ (cell_al _ kp1)) | go_simp)
  replace kx0 : w13.cell? ⟨w2.heap.size, 0, none⟩ = some (.int .i64 oJoin0) := cell_later hb (by first | (with_reducible exact kx0) | (with_reducible exact cell_al _ kx0) | (with_reducible exact cell_al _ (cell_al _ kx0)) | go_simp)
  replace jx0 : w13.frozen? ⟨w2.heap.size, 0, none⟩ = false := by rw [(bcell hb).2 _ _ (by first | omega | (simp <;> omega))]; first | (with_reducible exact jx0) | go_simp
  replace kx1 : w13.cell? ⟨w2.heap.size, 1, none⟩ = some (.int .i64 oJoin1) := cell_later hb (by first | (with_reducible exact kx1) | (with_reducible exact cell_al _ kx1) | (with_reducible exact cell_al _ (cell_al _ kx1)) | go_simp)
  replace jx1 : w13.frozen? ⟨w2.heap.size, 1, none⟩ = false := by rw [(bcell hb).2 _ _ (by first | omega | (simp <;> omega))]; first | (with_reducible exact jx1) | go_simp
  replace kyq0 : w13.cell? ⟨w3.heap.size, 0, none⟩ = some (.int .i64 oJoin0) := cell_later hb (by first | (with_reducible exact kyq0) | (with_reducible exact cell_al _ kyq0) | (with_reducible exact cell_al _ (cell_al _ kyq0)) | go_simp)
  replace jyq0 : w13.frozen? ⟨w3.heap.size, 0, none⟩ = false := by rw [(bcell hb).2 _ _ (by first | omega | (simp <;> omega))]; first | (with_reducible exact jyq0) | go_simp
  replace kyq1 : w13.cell? ⟨w3.heap.size, 1, none⟩ = some (.int .i64 oJoin1) := cell_later hb (by first | (with_reducible exact kyq1) | (with_reducible exact cell_al _ kyq1) | (with_reducible exact cell_al _ (cell_al _ kyq1)) | go_simp)
  replace jyq1 : w13.frozen? ⟨w3.heap.size, 1, none⟩ = false := by rw [(bcell hb).2 _ _ (by first | omega | (simp <;> omega))]; first | (with_reducible exact jyq1) | go_simp
  replace zs : w.heap.size < w13.heap.size := World.block_lt_of_cell? _ _ ks0
  replace zt : w.heap.size + 1 < w13.heap.size := World.block_lt_of_cell? _ _ kt0
  replace za : w.heap.size + 1 + 1 < w13.heap.size := World.block_lt_of_cell? _ _ ka0
  replace zb : w.heap.size + 1 + 1 + 1 < w13.heap.size := World.block_lt_of_cell? _ _ kb0
  replace zp : w.heap.size + 1 + 1 + 1 + 1 < w13.heap.size := World.block_lt_of_cell? _ _ kp0
  replace zx : w2.heap.size < w13.heap.size := World.block_lt_of_cell? _ _ kx0
  replace zyq : w3.heap.size < w13.heap.size := World.block_lt_of_cell? _ _ kyq0
  replace hb0 : Below w.heap.size w w13 := (by repeat (first | exact Below.refl _ _ | assumption | refine bstep ?_ (by assumption) | refine Below.drew ?_ | refine balloc ?_ _ | refine Below.setCell ?_ (by first | omega | (simp <;> omega)) _))
  clear hb
  go_wp2_with fail
  refine Calls.mono (PMeetBox _) ?_
  rintro e w14 ⟨rfl, hb⟩
  replace ks0 : w14.cell? ⟨w.heap.size, 0, none⟩ = some (.int .i64 s1) := cell_later hb (by first | (with_reducible exact ks0) | (with_reducible exact cell_al _ ks0) | (with_reducible exact cell_al _ (cell_al _ ks0)) | go_simp)
  replace ks1 : w14.cell? ⟨w.heap.size, 1, none⟩ = some (.int .i64 s2) := cell_later hb (by first | (with_reducible exact ks1) | (with_reducible exact cell_al _ ks1) | (with_reducible exact cell_al _ (cell_al _ ks1)) | go_simp)
  replace kt0 : w14.cell? ⟨w.heap.size + 1, 0, none⟩ = some (.int .i64 t1) := cell_later hb (by first | (with_reducible exact kt0) | (with_reducible exact cell_al _ kt0) | (with_reducible exact cell_al _ (cell_al _ kt0)) | go_simp)
  replace kt1 : w14.cell? ⟨w.heap.size + 1, 1, none⟩ = some (.int .i64 t2) := cell_later hb (by first | (with_reducible exact kt1) | (with_reducible exact cell_al _ kt1) | (with_reducible exact cell_al _ (cell_al _ kt1)) | go_simp)
  replace ka0 : w14.cell? ⟨w.heap.size + 1 + 1, 0, none⟩ = some (.int .i64 a1) := cell_later hb (by first | (with_reducible exact ka0) | (with_reducible exact cell_al _ ka0) | (with_reducible exact cell_al _ (cell_al _ ka0)) | go_simp)
  replace ka1 : w14.cell? ⟨w.heap.size + 1 + 1, 1, none⟩ = some (.int .i64 a2) := cell_later hb (by first | (with_reducible exact ka1) | (with_reducible exact cell_al _ ka1) | (with_reducible exact cell_al _ (cell_al _ ka1)) | go_simp)
  replace ka2 : w14.cell? ⟨w.heap.size + 1 + 1, 2, none⟩ = some (.int .i64 a3) := cell_later hb (by first | (with_reducible exact ka2) | (with_reducible exact cell_al _ ka2) | (with_reducible exact cell_al _ (cell_al _ ka2)) | go_simp)
  replace ka3 : w14.cell? ⟨w.heap.size + 1 + 1, 3, none⟩ = some (.int .i64 a4) := cell_later hb (by first | (with_reducible exact ka3) | (with_reducible exact cell_al _ ka3) | (with_reducible exact cell_al _ (cell_al _ ka3)) | go_simp)
  replace kb0 : w14.cell? ⟨w.heap.size + 1 + 1 + 1, 0, none⟩ = some (.int .i64 b1) := cell_later hb (by first | (with_reducible exact kb0) | (with_reducible exact cell_al _ kb0) | (with_reducible exact cell_al _ (cell_al _ kb0)) | go_simp)
  replace kb1 : w14.cell? ⟨w.heap.size + 1 + 1 + 1, 1, none⟩ = some (.int .i64 b2) := cell_later hb (by first | (with_reducible exact kb1) | (with_reducible exact cell_al _ kb1) | (with_reducible exact cell_al _ (cell_al _ kb1)) | go_simp)
  replace kb2 : w14.cell? ⟨w.heap.size + 1 + 1 + 1, 2, none⟩ = some (.int .i64 b3) := cell_later hb (by first | (with_reducible exact kb2) | (with_reducible exact cell_al _ kb2) | (with_reducible exact cell_al _ (cell_al _ kb2)) | go_simp)
  replace kb3 : w14.cell? ⟨w.heap.size + 1 + 1 + 1, 3, none⟩ = some (.int .i64 b4) := cell_later hb (by first | (with_reducible exact kb3) | (with_reducible exact cell_al _ kb3) | (with_reducible exact cell_al _ (cell_al _ kb3)) | go_simp)
  replace kp0 : w14.cell? ⟨w.heap.size + 1 + 1 + 1 + 1, 0, none⟩ = some (.int .i64 p1) := cell_later hb (by first | (with_reducible exact kp0) | (with_reducible exact cell_al _ kp0) | (with_reducible exact cell_al _ (cell_al _ kp0)) | go_simp)
  replace kp1 : w14.cell? ⟨w.heap.size + 1 + 1 + 1 + 1, 1, none⟩ = some (.int .i64 p2) := cell_later hb (by first | (with_reducible exact kp1) | (with_reducible exact cell_al _ kp1) | (with_reducible exact cell_al _ (cell_al _ kp1)) | go_simp)
  replace kx0 : w14.cell? ⟨w2.heap.size, 0, none⟩ = some (.int .i64 oJoin0) := cell_later hb (by first | (with_reducible exact kx0) | (with_reducible exact cell_al _ kx0) | (with_reducible exact cell_al _ (cell_al _ kx0)) | go_simp)
  replace jx0 : w14.frozen? ⟨w2.heap.size, 0, none⟩ = false := by rw [(bcell hb).2 _ _ (by first | omega | (simp <;> omega))]; first | (with_reducible exact jx0) | go_simp
  replace kx1 : w14.cell? ⟨w2.heap.size, 1, none⟩ = some (.int .i64 oJoin1) := cell_later hb (by first | (with_reducible exact kx1) | (with_reducible exact cell_al _ kx1) | (with_reducible exact cell_al _ (cell_al _ kx1)) | go_simp)
  replace jx1 : w14.frozen? ⟨w2.heap.size, 1, none⟩ = false := by rw [(bcell hb).2 _ _ (by first | omega | (simp <;> omega))]; first | (with_reducible exact jx1) | go_simp
  replace kyq0 : w14.cell? ⟨w3.heap.size, 0, none⟩ = some (.int .i64 oJoin0) := cell_later hb (by first | (with_reducible exact kyq0) | (with_reducible exact cell_al _ kyq0) | (with_reducible exact cell_al _ (cell_al _ kyq0)) | go_simp)
  replace jyq0 : w14.frozen? ⟨w3.heap.size, 0, none⟩ = false := by rw [(bcell hb).2 _ _ (by first | omega | (simp <;> omega))]; first | (with_reducible exact jyq0) | go_simp
  replace kyq1 : w14.cell? ⟨w3.heap.size, 1, none⟩ = some (.int .i64 oJoin1) := cell_later hb (by first | (with_reducible exact kyq1) | (with_reducible exact cell_al _ kyq1) | (with_reducible exact cell_al _ (cell_al _ kyq1)) | go_simp)
  replace jyq1 : w14.frozen? ⟨w3.heap.size, 1, none⟩ = false := by rw [(bcell hb).2 _ _ (by first | omega | (simp <;> omega))]; first | (with_reducible exact jyq1) | go_simp
  replace zs : w.heap.size < w14.heap.size := World.block_lt_of_cell? _ _ ks0
  replace zt : w.heap.size + 1 < w14.heap.size := World.block_lt_of_cell? _ _ kt0
  replace za : w.heap.size + 1 + 1 < w14.heap.size := World.block_lt_of_cell? _ _ ka0
  replace zb : w.heap.size + 1 + 1 + 1 < w14.heap.size := World.block_lt_of_cell? _ _ kb0
  replace zp : w.heap.size + 1 + 1 + 1 + 1 < w14.heap.size := World.block_lt_of_cell? _ _ kp0
  replace zx : w2.heap.size < w14.heap.size := World.block_lt_of_cell? _ _ kx0
  replace zyq : w3.heap.size < w14.heap.size := World.block_lt_of_cell? _ _ kyq0
  replace hb0 : Below w.heap.size w w14 := (by repeat (first | exact Below.refl _ _ | assumption | refine bstep ?_ (by assumption) | refine Below.drew ?_ | refine balloc ?_ _ | refine Below.setCell ?_ (by first | omega | (simp <;> omega)) _))
  clear hb
  go_wp2_with fail
  refine Calls.mono (RMeetBox _) ?_
  rintro e w15 ⟨rfl, hb⟩
  have lv : w.heap.size ≤ w14.heap.size := by omega
  have ns_v : w.heap.size ≠ w14.heap.size := by omega
  have nv_s : w14.heap.size ≠ w.heap.size := by omega
  have nt_v : w.heap.size + 1 ≠ w14.heap.size := by omega
  have nv_t : w14.heap.size ≠ w.heap.size + 1 := by omega
  have na_v : w.heap.size + 1 + 1 ≠ w14.heap.size := by omega
  have nv_a : w14.heap.size ≠ w.heap.size + 1 + 1 := by omega
  have nb_v : w.heap.size + 1 + 1 + 1 ≠ w14.heap.size := by omega
  have nv_b : w14.heap.size ≠ w.heap.size + 1 + 1 + 1 := by omega
  have np_v : w.heap.size + 1 + 1 + 1 + 1 ≠ w14.heap.size := by omega
  have nv_p : w14.heap.size ≠ w.heap.size + 1 + 1 + 1 + 1 := by omega
  have nx_v : w2.heap.size ≠ w14.heap.size := by omega
  have nv_x : w14.heap.size ≠ w2.heap.size := by omega
  have nyq_v : w3.heap.size ≠ w14.heap.size := by omega
  have nv_yq : w14.heap.size ≠ w3.heap.size := by omega
  replace ks0 : w15.cell? ⟨w.heap.size, 0, none⟩ = some (.int .i64 s1) := cell_later hb (by first | (with_reducible exact ks0) | (with_reducible exact cell_al _ ks0) | (with_reducible exact cell_al _ (cell_al _ ks0)) | go_simp)
  replace ks1 : w15.cell? ⟨w.heap.size, 1, none⟩ = some (.int .i64 s2) := cell_later hb (by first | (with_reducible exact ks1) | (with_reducible exact cell_al _ ks1) | (with_reducible exact cell_al _ (cell_al _ ks1)) | go_simp)
  replace kt0 : w15.cell? ⟨w.heap.size + 1, 0, none⟩ = some (.int .i64 t1) := cell_later hb (by first | (with_reducible exact kt0) | (with_reducible exact cell_al _ kt0) | (with_reducible exact cell_al _ (cell_al _ kt0)) | go_simp)
  replace kt1 : w15.cell? ⟨w.heap.size + 1, 1, none⟩ = some (.int .i64 t2) := cell_later hb (by first | (with_reducible exact kt1) | (with_reducible exact cell_al _ kt1) | (with_reducible exact cell_al _ (cell_al _ kt1)) | go_simp)
  replace ka0 : w15.cell? ⟨w.heap.size + 1 + 1, 0, none⟩ = some (.int .i64 a1) := cell_later hb (by first | (with_reducible exact ka0) | (with_reducible exact cell_al _ ka0) | (with_reducible exact cell_al _ (cell_al _ ka0)) | go_simp)
  replace ka1 : w15.cell? ⟨w.heap.size + 1 + 1, 1, none⟩ = some (.int .i64 a2) := cell_later hb (by first | (with_reducible exact ka1) | (with_reducible exact cell_al _ ka1) | (with_reducible exact cell_al _ (cell_al _ ka1)) | go_simp)
  replace ka2 : w15.cell? ⟨w.heap.size + 1 + 1, 2, none⟩ = some (.int .i64 a3) := cell_later hb (by first | (with_reducible exact ka2) | (with_reducible exact cell_al _ ka2) | (with_reducible exact cell_al _ (cell_al _ ka2)) | go_simp)
  replace ka3 : w15.cell? ⟨w.heap.size + 1 + 1, 3, none⟩ = some (.int .i64 a4) := cell_later hb (by first | (with_reducible exact ka3) | (with_reducible exact cell_al _ ka3) | (with_reducible exact cell_al _ (cell_al _ ka3)) | go_simp)
  replace kb0 : w15.cell? ⟨w.heap.size + 1 + 1 + 1, 0, none⟩ = some (.int .i64 b1) := cell_later hb (by first | (with_reducible exact kb0) | (with_reducible exact cell_al _ kb0) | (with_reducible exact cell_al _ (cell_al _ kb0)) | go_simp)
  replace kb1 : w15.cell? ⟨w.heap.size + 1 + 1 + 1, 1, none⟩ = some (.int .i64 b2) := cell_later hb (by first | (with_reducible exact kb1) | (with_reducible exact cell_al _ kb1) | (with_reducible exact cell_al _ (cell_al _ kb1)) | go_simp)
  replace kb2 : w15.cell? ⟨w.heap.size + 1 + 1 + 1, 2, none⟩ = some (.int .i64 b3) := cell_later hb (by first | (with_reducible exact kb2) | (with_reducible exact cell_al _ kb2) | (with_reducible exact cell_al _ (cell_al _ kb2)) | go_simp)
  replace kb3 : w15.cell? ⟨w.heap.size + 1 + 1 + 1, 3, none⟩ = some (.int .i64 b4) := cell_later hb (by first | (with_reducible exact kb3) | (with_reducible exact cell_al _ kb3) | (with_reducible exact cell_al _ (cell_al _ kb3)) | go_simp)
  replace kp0 : w15.cell? ⟨w.heap.size + 1 + 1 + 1 + 1, 0, none⟩ = some (.int .i64 p1) := cell_later hb (by first | (with_reducible exact kp0) | (with_reducible exact cell_al _ kp0) | (with_reducible exact cell_al _ (cell_al _ kp0)) | go_simp)
  replace kp1 : w15.cell? ⟨w.heap.size + 1 + 1 + 1 + 1, 1, none⟩ = some (.int .i64 p2) := cell_later hb (by first | (with_reducible exact kp1) | (with_reducible exact cell_al _ kp1) | (with_reducible exact cell_al _ (cell_al _ kp1)) | go_simp)
  replace kx0 : w15.cell? ⟨w2.heap.size, 0, none⟩ = some (.int .i64 oJoin0) := cell_later hb (by first | (with_reducible exact kx0) | (with_reducible exact cell_al _ kx0) | (with_reducible exact cell_al _ (cell_al _ kx0)) | go_simp)
  replace jx0 : w15.frozen? ⟨w2.heap.size, 0, none⟩ = false := by rw [(bcell hb).2 _ _ (by first | omega | (simp <;> omega))]; first | (with_reducible exact jx0) | go_simp
  replace kx1 : w15.cell? ⟨w2.heap.size, 1, none⟩ = some (.int .i64 oJoin1) := cell_later hb (by first | (with_reducible exact kx1) | (with_reducible exact cell_al _ kx1) | (with_reducible exact cell_al _ (cell_al _ kx1)) | go_simp)
  replace jx1 : w15.frozen? ⟨w2.heap.size, 1, none⟩ = false := by rw [(bcell hb).2 _ _ (by first | omega | (simp <;> omega))]; first | (with_reducible exact jx1) | go_simp
  replace kyq0 : w15.cell? ⟨w3.heap.size, 0, none⟩ = some (.int .i64 oJoin0) := cell_later hb (by first | (with_reducible exact kyq0) | (with_reducible exact cell_al _ kyq0) | (with_reducible exact cell_al _ (cell_al _ kyq0)) | go_simp)
  replace jyq0 : w15.frozen? ⟨w3.heap.size, 0, none⟩ = false := by rw [(bcell hb).2 _ _ (by first | omega | (simp <;> omega))]; first | (with_reducible exact jyq0) | go_simp
  replace kyq1 : w15.cell? ⟨w3.heap.size, 1, none⟩ = some (.int .i64 oJoin1) := cell_later hb (by first | (with_reducible exact kyq1) | (with_reducible exact cell_al _ kyq1) | (with_reducible exact cell_al _ (cell_al _ kyq1)) | go_simp)
  replace jyq1 : w15.frozen? ⟨w3.heap.size, 1, none⟩ = false := by rw [(bcell hb).2 _ _ (by first | omega | (simp <;> omega))]; first | (with_reducible exact jyq1) | go_simp
  have kv0 : w15.cell? ⟨w14.heap.size, 0, none⟩ = some (.int .i64 oMeetBox0) := cell_later hb (by go_simp)
  have jv0 : w15.frozen? ⟨w14.heap.size, 0, none⟩ = false := by rw [(bcell hb).2 _ _ (by first | omega | (simp <;> omega))]; go_simp
  have kv1 : w15.cell? ⟨w14.heap.size, 1, none⟩ = some (.int .i64 oMeetBox1) := cell_later hb (by go_simp)
  have jv1 : w15.frozen? ⟨w14.heap.size, 1, none⟩ = false := by rw [(bcell hb).2 _ _ (by first | omega | (simp <;> omega))]; go_simp
  have kv2 : w15.cell? ⟨w14.heap.size, 2, none⟩ = some (.int .i64 oMeetBox2) := cell_later hb (by go_simp)
  have jv2 : w15.frozen? ⟨w14.heap.size, 2, none⟩ = false := by rw [(bcell hb).2 _ _ (by first | omega | (simp <;> omega))]; go_simp
  have kv3 : w15.cell? ⟨w14.heap.size, 3, none⟩ = some (.int .i64 oMeetBox3) := cell_later hb (by go_simp)
  have jv3 : w15.frozen? ⟨w14.heap.size, 3, none⟩ = false := by rw [(bcell hb).2 _ _ (by first | omega | (simp <;> omega))]; go_simp
  replace zs : w.heap.size < w15.heap.size := World.block_lt_of_cell? _ _ ks0
  replace zt : w.heap.size + 1 < w15.heap.size := World.block_lt_of_cell? _ _ kt0
  replace za : w.heap.size + 1 + 1 < w15.heap.size := World.block_lt_of_cell? _ _ ka0
  replace zb : w.heap.size + 1 + 1 + 1 < w15.heap.size := World.block_lt_of_cell? _ _ kb0
  replace zp : w.heap.size + 1 + 1 + 1 + 1 < w15.heap.size := World.block_lt_of_cell? _ _ kp0
  replace zx : w2.heap.size < w15.heap.size := World.block_lt_of_cell? _ _ kx0
  replace zyq : w3.heap.size < w15.heap.size := World.block_lt_of_cell? _ _ kyq0
  have zv : w14.heap.size < w15.heap.size := World.block_lt_of_cell? _ _ kv0
  replace hb0 : Below w.heap.size w w15 := (by repeat (first | exact Below.refl _ _ | assumption | refine bstep ?_ (by assumption) | refine Below.drew ?_ | refine balloc ?_ _ | refine Below.setCell ?_ (by first | omega | (simp <;> omega)) _))
  clear hb
  go_wp2_with fail
  refine Calls.mono (PJoinBox _) ?_
  rintro e w16 ⟨rfl, hb⟩
  have lwq : w.heap.size ≤ w15.heap.size := by omega
  have ns_wq : w.heap.size ≠ w15.heap.size := by omega
  have nwq_s : w15.heap.size ≠ w.heap.size := by omega
  have nt_wq : w.heap.size + 1 ≠ w15.heap.size := by omega
  have nwq_t : w15.heap.size ≠ w.heap.size + 1 := by omega
  have na_wq : w.heap.size + 1 + 1 ≠ w15.heap.size := by omega
  have nwq_a : w15.heap.size ≠ w.heap.size + 1 + 1 := by omega
  have nb_wq : w.heap.size + 1 + 1 + 1 ≠ w15.heap.size := by omega
  have nwq_b : w15.heap.size ≠ w.heap.size + 1 + 1 + 1 := by omega
  have np_wq : w.heap.size + 1 + 1 + 1 + 1 ≠ w15.heap.size := by omega
  have nwq_p : w15.heap.size ≠ w.heap.size + 1 + 1 + 1 + 1 := by omega
  have nx_wq : w2.heap.size ≠ w15.heap.size := by omega
  have nwq_x : w15.heap.size ≠ w2.heap.size := by omega
  have nyq_wq : w3.heap.size ≠ w15.heap.size := by omega
  have nwq_yq : w15.heap.size ≠ w3.heap.size := by omega
  have nv_wq : w14.heap.size ≠ w15.heap.size := by omega
  have nwq_v : w15.heap.size ≠ w14.heap.size := by omega
  replace ks0 : w16.cell? ⟨w.heap.size, 0, none⟩ = some (.int .i64 s1) := cell_later hb (by first | (with_reducible exact ks0) | (with_reducible exact cell_al _ ks0) | (with_reducible exact cell_al _ (cell_al _ ks0)) | go_simp)
  replace ks1 : w16.cell? ⟨w.heap.size, 1, none⟩ = some (.int .i64 s2) := cell_later hb (by first | (with_reducible exact ks1) | (with_reducible exact cell_al _ ks1) | (with_reducible exact cell_al _ (cell_al _ ks1)) | go_simp)
  replace kt0 : w16.cell? ⟨w.heap.size + 1, 0, none⟩ = some (.int .i64 t1) := cell_later hb (by first | (with_reducible exact kt0) | (with_reducible exact cell_al _ kt0) | (with_reducible exact cell_al _ (cell_al _ kt0)) | go_simp)
  replace kt1 : w16.cell? ⟨w.heap.size + 1, 1, none⟩ = some (.int .i64 t2) := cell_later hb (by first | (with_reducible exact kt1) | (with_reducible exact cell_al _ kt1) | (with_reducible exact cell_al _ (cell_al _ kt1)) | go_simp)
  replace ka0 : w16.cell? ⟨w.heap.size + 1 + 1, 0, none⟩ = some (.int .i64 a1) := cell_later hb (by first | (with_reducible exact ka0) | (with_reducible exact cell_al _ ka0) | (with_reducible exact cell_al _ (cell_al _ ka0)) | go_simp)
  replace ka1 : w16.cell? ⟨w.heap.size + 1 + 1, 1, none⟩ = some (.int .i64 a2) := cell_later hb (by first | (with_reducible exact ka1) | (with_reducible exact cell_al _ ka1) | (with_reducible exact cell_al _ (cell_al _ ka1)) | go_simp)
  replace ka2 : w16.cell? ⟨w.heap.size + 1 + 1, 2, none⟩ = some (.int .i64 a3) := cell_later hb (by first | (with_reducible exact ka2) | (with_reducible exact cell_al _ ka2) | (with_reducible exact cell_al _ (cell_al _ ka2)) | go_simp)
  replace ka3 : w16.cell? ⟨w.heap.size + 1 + 1, 3, none⟩ = some (.int .i64 a4) := cell_later hb (by first | (with_reducible exact ka3) | (with_reducible exact cell_al _ ka3) | (with_reducible exact cell_al _ (cell_al _ ka3)) | go_simp)
  replace kb0 : w16.cell? ⟨w.heap.size + 1 + 1 + 1, 0, none⟩ = some (.int .i64 b1) := cell_later hb (by first | (with_reducible exact kb0) | (with_reducible exact cell_al _ kb0) | (with_reducible exact cell_al _ (cell_al _ kb0)) | go_simp)
  replace kb1 : w16.cell? ⟨w.heap.size + 1 + 1 + 1, 1, none⟩ = some (.int .i64 b2) := cell_later hb (by first | (with_reducible exact kb1) | (with_reducible exact cell_al _ kb1) | (with_reducible exact cell_al _ (cell_al _ kb1)) | go_simp)
  replace kb2 : w16.cell? ⟨w.heap.size + 1 + 1 + 1, 2, none⟩ = some (.int .i64 b3) := cell_later hb (by first | (with_reducible exact kb2) | (with_reducible exact cell_al _ kb2) | (with_reducible exact cell_al _ (cell_al _ kb2)) | go_simp)
  replace kb3 : w16.cell? ⟨w.heap.size + 1 + 1 + 1, 3, none⟩ = some (.int .i64 b4) := cell_later hb (by first | (with_reducible exact kb3) | (with_reducible exact cell_al _ kb3) | (with_reducible exact cell_al _ (cell_al _ kb3)) | go_simp)
  replace kp0 : w16.cell? ⟨w.heap.size + 1 + 1 + 1 + 1, 0, none⟩ = some (.int .i64 p1) := cell_later hb (by first | (with_reducible exact kp0) | (with_reducible exact cell_al _ kp0) | (with_reducible exact cell_al _ (cell_al _ kp0)) | go_simp)
  replace kp1 : w16.cell? ⟨w.heap.size + 1 + 1 + 1 + 1, 1, none⟩ = some (.int .i64 p2) := cell_later hb (by first | (with_reducible exact kp1) | (with_reducible exact cell_al _ kp1) | (with_reducible exact cell_al _ (cell_al _ kp1)) | go_simp)
  replace kx0 : w16.cell? ⟨w2.heap.size, 0, none⟩ = some (.int .i64 oJoin0) := cell_later hb (by first | (with_reducible exact kx0) | (with_reducible exact cell_al _ kx0) | (with_reducible exact cell_al _ (cell_al _ kx0)) | go_simp)
  replace jx0 : w16.frozen? ⟨w2.heap.size, 0, none⟩ = false := by rw [(bcell hb).2 _ _ (by first | omega | (simp <;> omega))]; first | (with_reducible exact jx0) | go_simp
  replace kx1 : w16.cell? ⟨w2.heap.size, 1, none⟩ = some (.int .i64 oJoin1) := cell_later hb (by first | (with_reducible exact kx1) | (with_reducible exact cell_al _ kx1) | (with_reducible exact cell_al _ (cell_al _ kx1)) | go_simp)
  replace jx1 : w16.frozen? ⟨w2.heap.size, 1, none⟩ = false := by rw [(bcell hb).2 _ _ (by first | omega | (simp <;> omega))]; first | (with_reducible exact jx1) | go_simp
  replace kyq0 : w16.cell? ⟨w3.heap.size, 0, none⟩ = some (.int .i64 oJoin0) := cell_later hb (by first | (with_reducible exact kyq0) | (with_reducible exact cell_al _ kyq0) | (with_reducible exact cell_al _ (cell_al _ kyq0)) | go_simp)
  replace jyq0 : w16.frozen? ⟨w3.heap.size, 0, none⟩ = false := by rw [(bcell hb).2 _ _ (by first | omega | (simp <;> omega))]; first | (with_reducible exact jyq0) | go_simp
  replace kyq1 : w16.cell? ⟨w3.heap.size, 1, none⟩ = some (.int .i64 oJoin1) := cell_later hb (by first | (with_reducible exact kyq1) | (with_reducible exact cell_al _ kyq1) | (with_reducible exact cell_al _ (cell_al _ kyq1)) | go_simp)
  replace jyq1 : w16.frozen? ⟨w3.heap.size, 1, none⟩ = false := by rw [(bcell hb).2 _ _ (by first | omega | (simp <;> omega))]; first | (with_reducible exact jyq1) | go_simp
  replace kv0 : w16.cell? ⟨w14.heap.size, 0, none⟩ = some (.int .i64 oMeetBox0) := cell_later hb (by first | (with_reducible exact kv0) | (with_reducible exact cell_al _ kv0) | (with_reducible exact cell_al _ (cell_al _ kv0)) | go_simp)
  replace jv0 : w16.frozen? ⟨w14.heap.size, 0, none⟩ = false := by rw [(bcell hb).2 _ _ (by first | omega | (simp <;> omega))]; first | (with_reducible exact jv0) | go_simp
  replace kv1 : w16.cell? ⟨w14.heap.size, 1, none⟩ = some (.int .i64 oMeetBox1) := cell_later hb (by first | (with_reducible exact kv1) | (with_reducible exact cell_al _ kv1) | (with_reducible exact cell_al _ (cell_al _ kv1)) | go_simp)
  replace jv1 : w16.frozen? ⟨w14.heap.size, 1, none⟩ = false := by rw [(bcell hb).2 _ _ (by first | omega | (simp <;> omega))]; first | (with_reducible exact jv1) | go_simp
  replace kv2 : w16.cell? ⟨w14.heap.size, 2, none⟩ = some (.int .i64 oMeetBox2) := cell_later hb (by first | (with_reducible exact kv2) | (with_reducible exact cell_al _ kv2) | (with_reducible exact cell_al _ (cell_al _ kv2)) | go_simp)
  replace jv2 : w16.frozen? ⟨w14.heap.size, 2, none⟩ = false := by rw [(bcell hb).2 _ _ (by first | omega | (simp <;> omega))]; first | (with_reducible exact jv2) | go_simp
  replace kv3 : w16.cell? ⟨w14.heap.size, 3, none⟩ = some (.int .i64 oMeetBox3) := cell_later hb (by first | (with_reducible exact kv3) | (with_reducible exact cell_al _ kv3) | (with_reducible exact cell_al _ (cell_al _ kv3)) | go_simp)
  replace jv3 : w16.frozen? ⟨w14.heap.size, 3, none⟩ = false := by rw [(bcell hb).2 _ _ (by first | omega | (simp <;> omega))]; first | (with_reducible exact jv3) | go_simp
  have kwq0 : w16.cell? ⟨w15.heap.size, 0, none⟩ = some (.int .i64 oMeetBox0) := cell_later hb (by go_simp)
  have jwq0 : w16.frozen? ⟨w15.heap.size, 0, none⟩ = false := by rw [(bcell hb).2 _ _ (by first | omega | (simp <;> omega))]; go_simp
  have kwq1 : w16.cell? ⟨w15.heap.size, 1, none⟩ = some (.int .i64 oMeetBox1) := cell_later hb (by go_simp)
  have jwq1 : w16.frozen? ⟨w15.heap.size, 1, none⟩ = false := by rw [(bcell hb).2 _ _ (by first | omega | (simp <;> omega))]; go_simp
  have kwq2 : w16.cell? ⟨w15.heap.size, 2, none⟩ = some (.int .i64 oMeetBox2) := cell_later hb (by go_simp)
  have jwq2 : w16.frozen? ⟨w15.heap.size, 2, none⟩ = false := by rw [(bcell hb).2 _ _ (by first | omega | (simp <;> omega))]; go_simp
  have kwq3 : w16.cell? ⟨w15.heap.size, 3, none⟩ = some (.int .i64 oMeetBox3) := cell_later hb (by go_simp)
  have jwq3 : w16.frozen? ⟨w15.heap.size, 3, none⟩ = false := by rw [(bcell hb).2 _ _ (by first | omega | (simp <;> omega))]; go_simp
  replace zs : w.heap.size < w16.heap.size := World.block_lt_of_cell? _ _ ks0
  replace zt : w.heap.size + 1 < w16.heap.size := World.block_lt_of_cell? _ _ kt0
  replace za : w.heap.size + 1 + 1 < w16.heap.size := World.block_lt_of_cell? _ _ ka0
  replace zb : w.heap.size + 1 + 1 + 1 < w16.heap.size := World.block_lt_of_cell? _ _ kb0
  replace zp : w.heap.size + 1 + 1 + 1 + 1 < w16.heap.size := World.block_lt_of_cell? _ _ kp0
  replace zx : w2.heap.size < w16.heap.size := World.block_lt_of_cell? _ _ kx0
  replace zyq : w3.heap.size < w16.heap.size := World.block_lt_of_cell? _ _ kyq0
  replace zv : w14.heap.size < w16.heap.size := World.block_lt_of_cell? _ _ kv0
  have zwq : w15.heap.size < w16.heap.size := World.block_lt_of_cell? _ _ kwq0
  replace hb0 : Below w.heap.size w w16 := (by repeat (first | exact Below.refl _ _ | assumption | refine bstep ?_ (by assumption) | refine Below.drew ?_ | refine balloc ?_ _ | refine Below.setCell ?_ (by first | omega | (simp <;> omega)) _))
  clear hb
  go_wp2_with fail
  refine Calls.mono (RJoinBox _) ?_
  rintro e w17 ⟨rfl, hb⟩
  replace ks0 : w17.cell? ⟨w.heap.size, 0, none⟩ = some (.int .i64 s1) := cell_later hb (by first | (with_reducible exact ks0) | (with_reducible exact cell_al _ ks0) | (with_reducible exact cell_al _ (cell_al _ ks0)) | go_simp)
  replace ks1 : w17.cell? ⟨w.heap.size, 1, none⟩ = some (.int .i64 s2) := cell_later hb (by first | (with_reducible exact ks1) | (with_reducible exact cell_al _ ks1) | (with_reducible exact cell_al _ (cell_al _ ks1)) | go_simp)
  replace kt0 : w17.cell? ⟨w.heap.size + 1, 0, none⟩ = some (.int .i64 t1) := cell_later hb (by first | (with_reducible exact kt0) | (with_reducible exact cell_al _ kt0) | (with_reducible exact cell_al _ (cell_al _ kt0)) | go_simp)
  replace kt1 : w17.cell? ⟨w.heap.size + 1, 1, none⟩ = some (.int .i64 t2) := cell_later hb (by first | (with_reducible exact kt1) | (with_reducible exact cell_al _ kt1) | (with_reducible exact cell_al _ (cell_al _ kt1)) | go_simp)
  replace ka0 : w17.cell? ⟨w.heap.size + 1 + 1, 0, none⟩ = some (.int .i64 a1) := cell_later hb (by first | (with_reducible exact ka0) | (with_reducible exact cell_al _ ka0) | (with_reducible exact cell_al _ (cell_al _ ka0)) | go_simp)
  replace ka1 : w17.cell? ⟨w.heap.size + 1 + 1, 1, none⟩ = some (.int .i64 a2) := cell_later hb (by first | (with_reducible exact ka1) | (with_reducible exact cell_al _ ka1) | (with_reducible exact cell_al _ (cell_al _ ka1)) | go_simp)
  replace ka2 : w17.cell? ⟨w.heap.size + 1 + 1, 2, none⟩ = some (.int .i64 a3) := cell_later hb (by first | (with_reducible exact ka2) | (with_reducible exact cell_al _ ka2) | (with_reducible exact cell_al _ (cell_al _ ka2)) | go_simp)
  replace ka3 : w17.cell? ⟨w.heap.size + 1 + 1, 3, none⟩ = some (.int .i64 a4) := cell_later hb (by first | (with_reducible exact ka3) | (with_reducible exact cell_al _ ka3) | (with_reducible exact cell_al _ (cell_al _ ka3)) | go_simp)
  replace kb0 : w17.cell? ⟨w.heap.size + 1 + 1 + 1, 0, none⟩ = some (.int .i64 b1) := cell_later hb (by first | (with_reducible exact kb0) | (with_reducible exact cell_al _ kb0) | (with_reducible exact cell_al _ (cell_al _ kb0)) | go_simp)
  replace kb1 : w17.cell? ⟨w.heap.size + 1 + 1 + 1, 1, none⟩ = some (.int .i64 b2) := cell_later hb (by first | (with_reducible exact kb1) | (with_reducible exact cell_al _ kb1) | (with_reducible exact cell_al _ (cell_al _ kb1)) | go_simp)
  replace kb2 : w17.cell? ⟨w.heap.size + 1 + 1 + 1, 2, none⟩ = some (.int .i64 b3) := cell_later hb (by first | (with_reducible exact kb2) | (with_reducible exact cell_al _ kb2) | (with_reducible exact cell_al _ (cell_al _ kb2)) | go_simp)
  replace kb3 : w17.cell? ⟨w.heap.size + 1 + 1 + 1, 3, none⟩ = some (.int .i64 b4) := cell_later hb (by first | (with_reducible exact kb3) | (with_reducible exact cell_al _ kb3) | (with_reducible exact cell_al _ (cell_al _ kb3)) | go_simp)
  replace kp0 : w17.cell? ⟨w.heap.size + 1 + 1 + 1 + 1, 0, none⟩ = some (.int .i64 p1) := cell_later hb (by first | (with_reducible exact kp0) | (with_reducible exact cell_al _ kp0) | (with_reducible exact cell_al _ (cell_al _ kp0)) | go_simp)
  replace kp1 : w17.cell? ⟨w.heap.size + 1 + 1 + 1 + 1, 1, none⟩ = some (.int .i64 p2) := cell_later hb (by first | (with_reducible exact kp1) | (with_reducible exact cell_al _ kp1) | (with_reducible exact cell_al _ (cell_al _ kp1)) | go_simp)
  replace kx0 : w17.cell? ⟨w2.heap.size, 0, none⟩ = some (.int .i64 oJoin0) := cell_later hb (by first | (with_reducible exact kx0) | (with_reducible exact cell_al _ kx0) | (with_reducible exact cell_al _ (cell_al _ kx0)) | go_simp)
  replace jx0 : w17.frozen? ⟨w2.heap.size, 0, none⟩ = false := by rw [(bcell hb).2 _ _ (by first | omega | (simp <;> omega))]; first | (with_reducible exact jx0) | go_simp
  replace kx1 : w17.cell? ⟨w2.heap.size, 1, none⟩ = some (.int .i64 oJoin1) := cell_later hb (by first | (with_reducible exact kx1) | (with_reducible exact cell_al _ kx1) | (with_reducible exact cell_al _ (cell_al _ kx1)) | go_simp)
  replace jx1 : w17.frozen? ⟨w2.heap.size, 1, none⟩ = false := by rw [(bcell hb).2 _ _ (by first | omega | (simp <;> omega))]; first | (with_reducible exact jx1) | go_simp
  replace kyq0 : w17.cell? ⟨w3.heap.size, 0, none⟩ = some (.int .i64 oJoin0) := cell_later hb (by first | (with_reducible exact kyq0) | (with_reducible exact cell_al _ kyq0) | (with_reducible exact cell_al _ (cell_al _ kyq0)) | go_simp)
  replace jyq0 : w17.frozen? ⟨w3.heap.size, 0, none⟩ = false := by rw [(bcell hb).2 _ _ (by first | omega | (simp <;> omega))]; first | (with_reducible exact jyq0) | go_simp
  replace kyq1 : w17.cell? ⟨w3.heap.size, 1, none⟩ = some (.int .i64 oJoin1) := cell_later hb (by first | (with_reducible exact kyq1) | (with_reducible exact cell_al _ kyq1) | (with_reducible exact cell_al _ (cell_al _ kyq1)) | go_simp)
  replace jyq1 : w17.frozen? ⟨w3.heap.size, 1, none⟩ = false := by rw [(bcell hb).2 _ _ (by first | omega | (simp <;> omega))]; first | (with_reducible exact jyq1) | go_simp
  replace kv0 : w17.cell? ⟨w14.heap.size, 0, none⟩ = some (.int .i64 oJoinBox0) := cell_later hb (by first | (with_reducible exact kv0) | (with_reducible exact cell_al _ kv0) | (with_reducible exact cell_al _ (cell_al _ kv0)) | go_simp)
  replace jv0 : w17.frozen? ⟨w14.heap.size, 0, none⟩ = false := by rw [(bcell hb).2 _ _ (by first | omega | (simp <;> omega))]; first | (with_reducible exact jv0) | go_simp
  replace kv1 : w17.cell? ⟨w14.heap.size, 1, none⟩ = some (.int .i64 oJoinBox1) := cell_later hb (by first | (with_reducible exact kv1) | (with_reducible exact cell_al _ kv1) | (with_reducible exact cell_al _ (cell_al _ kv1)) | go_simp)
  replace jv1 : w17.frozen? ⟨w14.heap.size, 1, none⟩ = false := by rw [(bcell hb).2 _ _ (by first | omega | (simp <;> omega))]; first | (with_reducible exact jv1) | go_simp
  replace kv2 : w17.cell? ⟨w14.heap.size, 2, none⟩ = some (.int .i64 oJoinBox2) := cell_later hb (by first | (with_reducible exact kv2) | (with_reducible exact cell_al _ kv2) | (with_reducible exact cell_al _ (cell_al _ kv2)) | go_simp)
  replace jv2 : w17.frozen? ⟨w14.heap.size, 2, none⟩ = false := by rw [(bcell hb).2 _ _ (by first | omega | (simp <;> omega))]; first | (with_reducible exact jv2) | go_simp
  replace kv3 : w17.cell? ⟨w14.heap.size, 3, none⟩ = some (.int .i64 oJoinBox3) := cell_later hb (by first | (with_reducible exact kv3) | (with_reducible exact cell_al _ kv3) | (with_reducible exact cell_al _ (cell_al _ kv3)) | go_simp)
  replace jv3 : w17.frozen? ⟨w14.heap.size, 3, none⟩ = false := by rw [(bcell hb).2 _ _ (by first | omega | (simp <;> omega))]; first | (with_reducible exact jv3) | go_simp
  replace kwq0 : w17.cell? ⟨w15.heap.size, 0, none⟩ = some (.int .i64 oMeetBox0) := cell_later hb (by first | (with_reducible exact kwq0) | (with_reducible exact cell_al _ kwq0) | (with_reducible exact cell_al _ (cell_al _ kwq0)) | go_simp)
  replace jwq0 : w17.frozen? ⟨w15.heap.size, 0, none⟩ = false := by rw [(bcell hb).2 _ _ (by first | omega | (simp <;> omega))]; first | (with_reducible exact jwq0) | go_simp
  replace kwq1 : w17.cell? ⟨w15.heap.size, 1, none⟩ = some (.int .i64 oMeetBox1) := cell_later hb (by first | (with_reducible exact kwq1) | (with_reducible exact cell_al _ kwq1) | (with_reducible exact cell_al _ (cell_al _ kwq1)) | go_simp)
  replace jwq1 : w17.frozen? ⟨w15.heap.size, 1, none⟩ = false := by rw [(bcell hb).2 _ _ (by first | omega | (simp <;> omega))]; first | (with_reducible exact jwq1) | go_simp
  replace kwq2 : w17.cell? ⟨w15.heap.size, 2, none⟩ = some (.int .i64 oMeetBox2) := cell_later hb (by first | (with_reducible exact kwq2) | (with_reducible exact cell_al _ kwq2) | (with_reducible exact cell_al _ (cell_al _ kwq2)) | go_simp)
  replace jwq2 : w17.frozen? ⟨w15.heap.size, 2, none⟩ = false := by rw [(bcell hb).2 _ _ (by first | omega | (simp <;> omega))]; first | (with_reducible exact jwq2) | go_simp
  replace kwq3 : w17.cell? ⟨w15.heap.size, 3, none⟩ = some (.int .i64 oMeetBox3) := cell_later hb (by first | (with_reducible exact kwq3) | (with_reducible exact cell_al _ kwq3) | (with_reducible exact cell_al _ (cell_al _ kwq3)) | go_simp)
  replace jwq3 : w17.frozen? ⟨w15.heap.size, 3, none⟩ = false := by rw [(bcell hb).2 _ _ (by first | omega | (simp <;> omega))]; first | (with_reducible exact jwq3) | go_simp
  replace zs : w.heap.size < w17.heap.size := World.block_lt_of_cell? _ _ ks0
  replace zt : w.heap.size + 1 < w17.heap.size := World.block_lt_of_cell? _ _ kt0
  replace za : w.heap.size + 1 + 1 < w17.heap.size := World.block_lt_of_cell? _ _ ka0
  replace zb : w.heap.size + 1 + 1 + 1 < w17.heap.size := World.block_lt_of_cell? _ _ kb0
  replace zp : w.heap.size + 1 + 1 + 1 + 1 < w17.heap.size := World.block_lt_of_cell? _ _ kp0
  replace zx : w2.heap.size < w17.heap.size := World.block_lt_of_cell? _ _ kx0
  replace zyq : w3.heap.size < w17.heap.size := World.block_lt_of_cell? _ _ kyq0
  replace zv : w14.heap.size < w17.heap.size := World.block_lt_of_cell? _ _ kv0
  replace zwq : w15.heap.size < w17.heap.size := World.block_lt_of_cell? _ _ kwq0
  replace hb0 : Below w.heap.size w w17 := (by repeat (first | exact Below.refl _ _ | assumption | refine bstep ?_ (by assumption) | refine Below.drew ?_ | refine balloc ?_ _ | refine Below.setCell ?_ (by first | omega | (simp <;> omega)) _))
  clear hb
  go_wp2_with fail
  refine Calls.mono (PGrowBox _) ?_
  rintro e w18 ⟨rfl, hb⟩
  replace ks0 : w18.cell? ⟨w.heap.size, 0, none⟩ = some (.int .i64 s1) := cell_later hb (by first | (with_reducible exact ks0) | (with_reducible exact cell_al _ ks0) | (with_reducible exact cell_al _ (cell_al _ ks0)) | go_simp)
  replace ks1 : w18.cell? ⟨w.heap.size, 1, none⟩ = some (.int .i64 s2) := cell_later hb (by first | (with_reducible exact ks1) | (with_reducible exact cell_al _ ks1) | (with_reducible exact cell_al _ (cell_al _ ks1)) | go_simp)
  replace kt0 : w18.cell? ⟨w.heap.size + 1, 0, none⟩ = some (.int .i64 t1) := cell_later hb (by first | (with_reducible exact kt0) | (with_reducible exact cell_al _ kt0) | (with_reducible exact cell_al _ (cell_al _ kt0)) | go_simp)
  replace kt1 : w18.cell? ⟨w.heap.size + 1, 1, none⟩ = some (.int .i64 t2) := cell_later hb (by first | (with_reducible exact kt1) | (with_reducible exact cell_al _ kt1) | (with_reducible exact cell_al _ (cell_al _ kt1)) | go_simp)
  replace ka0 : w18.cell? ⟨w.heap.size + 1 + 1, 0, none⟩ = some (.int .i64 a1) := cell_later hb (by first | (with_reducible exact ka0) | (with_reducible exact cell_al _ ka0) | (with_reducible exact cell_al _ (cell_al _ ka0)) | go_simp)
  replace ka1 : w18.cell? ⟨w.heap.size + 1 + 1, 1, none⟩ = some (.int .i64 a2) := cell_later hb (by first | (with_reducible exact ka1) | (with_reducible exact cell_al _ ka1) | (with_reducible exact cell_al _ (cell_al _ ka1)) | go_simp)
  replace ka2 : w18.cell? ⟨w.heap.size + 1 + 1, 2, none⟩ = some (.int .i64 a3) := cell_later hb (by first | (with_reducible exact ka2) | (with_reducible exact cell_al _ ka2) | (with_reducible exact cell_al _ (cell_al _ ka2)) | go_simp)
  replace ka3 : w18.cell? ⟨w.heap.size + 1 + 1, 3, none⟩ = some (.int .i64 a4) := cell_later hb (by first | (with_reducible exact ka3) | (with_reducible exact cell_al _ ka3) | (with_reducible exact cell_al _ (cell_al _ ka3)) | go_simp)
  replace kb0 : w18.cell? ⟨w.heap.size + 1 + 1 + 1, 0, none⟩ = some (.int .i64 b1) := cell_later hb (by first | (with_reducible exact kb0) | (with_reducible exact cell_al _ kb0) | (with_reducible exact cell_al _ (cell_al _ kb0)) | go_simp)
  replace kb1 : w18.cell? ⟨w.heap.size + 1 + 1 + 1, 1, none⟩ = some (.int .i64 b2) := cell_later hb (by first | (with_reducible exact kb1) | (with_reducible exact cell_al _ kb1) | (with_reducible exact cell_al _ (cell_al _ kb1)) | go_simp)
  replace kb2 : w18.cell? ⟨w.heap.size + 1 + 1 + 1, 2, none⟩ = some (.int .i64 b3) := cell_later hb (by first | (with_reducible exact kb2) | (with_reducible exact cell_al _ kb2) | (with_reducible exact cell_al _ (cell_al _ kb2)) | go_simp)
  replace kb3 : w18.cell? ⟨w.heap.size + 1 + 1 + 1, 3, none⟩ = some (.int .i64 b4) := cell_later hb (by first | (with_reducible exact kb3) | (with_reducible exact cell_al _ kb3) | (with_reducible exact cell_al _ (cell_al _ kb3)) | go_simp)
  replace kp0 : w18.cell? ⟨w.heap.size + 1 + 1 + 1 + 1, 0, none⟩ = some (.int .i64 p1) := cell_later hb (by first | (with_reducible exact kp0) | (with_reducible exact cell_al _ kp0) | (with_reducible exact cell_al _ (cell_al _ kp0)) | go_simp)
  replace kp1 : w18.cell? ⟨w.heap.size + 1 + 1 + 1 + 1, 1, none⟩ = some (.int .i64 p2) := cell_later hb (by first | (with_reducible exact kp1) | (with_reducible exact cell_al _ kp1) | (with_reducible exact cell_al _ (cell_al _ kp1)) | go_simp)
  replace kx0 : w18.cell? ⟨w2.heap.size, 0, none⟩ = some (.int .i64 oJoin0) := cell_later hb (by first | (with_reducible exact kx0) | (with_reducible exact cell_al _ kx0) | (with_reducible exact cell_al _ (cell_al _ kx0)) | go_simp)
  replace jx0 : w18.frozen? ⟨w2.heap.size, 0, none⟩ = false := by rw [(bcell hb).2 _ _ (by first | omega | (simp <;> omega))]; first | (with_reducible exact jx0) | go_simp
  replace kx1 : w18.cell? ⟨w2.heap.size, 1, none⟩ = some (.int .i64 oJoin1) := cell_later hb (by first | (with_reducible exact kx1) | (with_reducible exact cell_al _ kx1) | (with_reducible exact cell_al _ (cell_al _ kx1)) | go_simp)
  replace jx1 : w18.frozen? ⟨w2.heap.size, 1, none⟩ = false := by rw [(bcell hb).2 _ _ (by first | omega | (simp <;> omega))]; first | (with_reducible exact jx1) | go_simp
  replace kyq0 : w18.cell? ⟨w3.heap.size, 0, none⟩ = some (.int .i64 oJoin0) := cell_later hb (by first | (with_reducible exact kyq0) | (with_reducible exact cell_al _ kyq0) | (with_reducible exact cell_al _ (cell_al _ kyq0)) | go_simp)
  replace jyq0 : w18.frozen? ⟨w3.heap.size, 0, none⟩ = false := by rw [(bcell hb).2 _ _ (by first | omega | (simp <;> omega))]; first | (with_reducible exact jyq0) | go_simp
  replace kyq1 : w18.cell? ⟨w3.heap.size, 1, none⟩ = some (.int .i64 oJoin1) := cell_later hb (by first | (with_reducible exact kyq1) | (with_reducible exact cell_al _ kyq1) | (with_reducible exact cell_al _ (cell_al _ kyq1)) | go_simp)
  replace jyq1 : w18.frozen? ⟨w3.heap.size, 1, none⟩ = false := by rw [(bcell hb).2 _ _ (by first | omega | (simp <;> omega))]; first | (with_reducible exact jyq1) | go_simp
  replace kv0 : w18.cell? ⟨w14.heap.size, 0, none⟩ = some (.int .i64 oJoinBox0) := cell_later hb (by first | (with_reducible exact kv0) | (with_reducible exact cell_al _ kv0) | (with_reducible exact cell_al _ (cell_al _ kv0)) | go_simp)
  replace jv0 : w18.frozen? ⟨w14.heap.size, 0, none⟩ = false := by rw [(bcell hb).2 _ _ (by first | omega | (simp <;> omega))]; first | (with_reducible exact jv0) | go_simp
  replace kv1 : w18.cell? ⟨w14.heap.size, 1, none⟩ = some (.int .i64 oJoinBox1) := cell_later hb (by first | (with_reducible exact kv1) | (with_reducible exact cell_al _ kv1) | (with_reducible exact cell_al _ (cell_al _ kv1)) | go_simp)
  replace jv1 : w18.frozen? ⟨w14.heap.size, 1, none⟩ = false := by rw [(bcell hb).2 _ _ (by first | omega | (simp <;> omega))]; first | (with_reducible exact jv1) | go_simp
  replace kv2 : w18.cell? ⟨w14.heap.size, 2, none⟩ = some (.int .i64 oJoinBox2) := cell_later hb (by first | (with_reducible exact kv2) | (with_reducible exact cell_al _ kv2) | (with_reducible exact cell_al _ (cell_al _ kv2)) | go_simp)
  replace jv2 : w18.frozen? ⟨w14.heap.size, 2, none⟩ = false := by rw [(bcell hb).2 _ _ (by first | omega | (simp <;> omega))]; first | (with_reducible exact jv2) | go_simp
  replace kv3 : w18.cell? ⟨w14.heap.size, 3, none⟩ = some (.int .i64 oJoinBox3) := cell_later hb (by first | (with_reducible exact kv3) | (with_reducible exact cell_al _ kv3) | (with_reducible exact cell_al _ (cell_al _ kv3)) | go_simp)
  replace jv3 : w18.frozen? ⟨w14.heap.size, 3, none⟩ = false := by rw [(bcell hb).2 _ _ (by first | omega | (simp <;> omega))]; first | (with_reducible exact jv3) | go_simp
  replace kwq0 : w18.cell? ⟨w15.heap.size, 0, none⟩ = some (.int .i64 oJoinBox0) := cell_later hb (by first | (with_reducible exact kwq0) | (with_reducible exact cell_al _ kwq0) | (with_reducible exact cell_al _ (cell_al _ kwq0)) | go_simp)
  replace jwq0 : w18.frozen? ⟨w15.heap.size, 0, none⟩ = false := by rw [(bcell hb).2 _ _ (by first | omega | (simp <;> omega))]; first | (with_reducible exact jwq0) | go_simp
  replace kwq1 : w18.cell? ⟨w15.heap.size, 1, none⟩ = some (.int .i64 oJoinBox1) := cell_later hb (by first | (with_reducible exact kwq1) | (with_reducible exact cell_al _ kwq1) | (with_reducible exact cell_al _ (cell_al _ kwq1)) | go_simp)
  replace jwq1 : w18.frozen? ⟨w15.heap.size, 1, none⟩ = false := by rw [(bcell hb).2 _ _ (by first | omega | (simp <;> omega))]; first | (with_reducible exact jwq1) | go_simp
  replace kwq2 : w18.cell? ⟨w15.heap.size, 2, none⟩ = some (.int .i64 oJoinBox2) := cell_later hb (by first | (with_reducible exact kwq2) | (with_reducible exact cell_al _ kwq2) | (with_reducible exact cell_al _ (cell_al _ kwq2)) | go_simp)
  replace jwq2 : w18.frozen? ⟨w15.heap.size, 2, none⟩ = false := by rw [(bcell hb).2 _ _ (by first | omega | (simp <;> omega))]; first | (with_reducible exact jwq2) | go_simp
  replace kwq3 : w18.cell? ⟨w15.heap.size, 3, none⟩ = some (.int .i64 oJoinBox3) := cell_later hb (by first | (with_reducible exact kwq3) | (with_reducible exact cell_al _ kwq3) | (with_reducible exact cell_al _ (cell_al _ kwq3)) | go_simp)
  replace jwq3 : w18.frozen? ⟨w15.heap.size, 3, none⟩ = false := by rw [(bcell hb).2 _ _ (by first | omega | (simp <;> omega))]; first | (with_reducible exact jwq3) | go_simp
  replace zs : w.heap.size < w18.heap.size := World.block_lt_of_cell? _ _ ks0
  replace zt : w.heap.size + 1 < w18.heap.size := World.block_lt_of_cell? _ _ kt0
  replace za : w.heap.size + 1 + 1 < w18.heap.size := World.block_lt_of_cell? _ _ ka0
  replace zb : w.heap.size + 1 + 1 + 1 < w18.heap.size := World.block_lt_of_cell? _ _ kb0
  replace zp : w.heap.size + 1 + 1 + 1 + 1 < w18.heap.size := World.block_lt_of_cell? _ _ kp0
  replace zx : w2.heap.size < w18.heap.size := World.block_lt_of_cell? _ _ kx0
  replace zyq : w3.heap.size < w18.heap.size := World.block_lt_of_cell? _ _ kyq0
  replace zv : w14.heap.size < w18.heap.size := World.block_lt_of_cell? _ _ kv0
  replace zwq : w15.heap.size < w18.heap.size := World.block_lt_of_cell? _ _ kwq0
  replace hb0 : Below w.heap.size w w18 := (by repeat (first | exact Below.refl _ _ | assumption | refine bstep ?_ (by assumption) | refine Below.drew ?_ | refine balloc ?_ _ | refine Below.setCell ?_ (by first | omega | (simp <;> omega)) _))
  clear hb
  go_wp2_with fail
  refine Calls.mono (RGrowBox _) ?_
  rintro e w19 ⟨rfl, hb⟩
  replace ks0 : w19.cell? ⟨w.heap.size, 0, none⟩ = some (.int .i64 s1) := cell_later hb (by first | (with_reducible exact ks0) | (with_reducible exact cell_al _ ks0) | (with_reducible exact cell_al _ (cell_al _ ks0)) | go_simp)
  replace ks1 : w19.cell? ⟨w.heap.size, 1, none⟩ = some (.int .i64 s2) := cell_later hb (by first | (with_reducible exact ks1) | (with_reducible exact cell_al _ ks1) | (with_reducible exact cell_al _ (cell_al _ ks1)) | go_simp)
  replace kt0 : w19.cell? ⟨w.heap.size + 1, 0, none⟩ = some (.int .i64 t1) := cell_later hb (by first | (with_reducible exact kt0) | (with_reducible exact cell_al _ kt0) | (with_reducible exact cell_al _ (cell_al _ kt0)) | go_simp)
  replace kt1 : w19.cell? ⟨w.heap.size + 1, 1, none⟩ = some (.int .i64 t2) := cell_later hb (by first | (with_reducible exact kt1) | (with_reducible exact cell_al _ kt1) | (with_reducible exact cell_al _ (cell_al _ kt1)) | go_simp)
  replace ka0 : w19.cell? ⟨w.heap.size + 1 + 1, 0, none⟩ = some (.int .i64 a1) := cell_later hb (by first | (with_reducible exact ka0) | (with_reducible exact cell_al _ ka0) | (with_reducible exact cell_al _ (cell_al _ ka0)) | go_simp)
  replace ka1 : w19.cell? ⟨w.heap.size + 1 + 1, 1, none⟩ = some (.int .i64 a2) := cell_later hb (by first | (with_reducible exact ka1) | (with_reducible exact cell_al _ ka1) | (with_reducible exact cell_al _ (cell_al _ ka1)) | go_simp)
  replace ka2 : w19.cell? ⟨w.heap.size + 1 + 1, 2, none⟩ = some (.int .i64 a3) := cell_later hb (by first | (with_reducible exact ka2) | (with_reducible exact cell_al _ ka2) | (with_reducible exact cell_al _ (cell_al _ ka2)) | go_simp)
  replace ka3 : w19.cell? ⟨w.heap.size + 1 + 1, 3, none⟩ = some (.int .i64 a4) := cell_later hb (by first | (with_reducible exact ka3) | (with_reducible exact cell_al _ ka3) | (with_reducible exact cell_al _ (cell_al _ ka3)) | go_simp)
  replace kb0 : w19.cell? ⟨w.heap.size + 1 + 1 + 1, 0, none⟩ = some (.int .i64 b1) := cell_later hb (by first | (with_reducible exact kb0) | (with_reducible exact cell_al _ kb0) | (with_reducible exact cell_al _ (cell_al _ kb0)) | go_simp)
  replace kb1 : w19.cell? ⟨w.heap.size + 1 + 1 + 1, 1, none⟩ = some (.int .i64 b2) := cell_later hb (by first | (with_reducible exact kb1) | (with_reducible exact cell_al _ kb1) | (with_reducible exact cell_al _ (cell_al _ kb1)) | go_simp)
  replace kb2 : w19.cell? ⟨w.heap.size + 1 + 1 + 1, 2, none⟩ = some (.int .i64 b3) := cell_later hb (by first | (with_reducible exact kb2) | (with_reducible exact cell_al _ kb2) | (with_reducible exact cell_al _ (cell_al _ kb2)) | go_simp)
  replace kb3 : w19.cell? ⟨w.heap.size + 1 + 1 + 1, 3, none⟩ = some (.int .i64 b4) := cell_later hb (by first | (with_reducible exact kb3) | (with_reducible exact cell_al _ kb3) | (with_reducible exact cell_al _ (cell_al _ kb3)) | go_simp)
  replace kp0 : w19.cell? ⟨w.heap.size + 1 + 1 + 1 + 1, 0, none⟩ = some (.int .i64 p1) := cell_later hb (by first | (with_reducible exact kp0) | (with_reducible exact cell_al _ kp0) | (with_reducible exact cell_al _ (cell_al _ kp0)) | go_simp)
  replace kp1 : w19.cell? ⟨w.heap.size + 1 + 1 + 1 + 1, 1, none⟩ = some (.int .i64 p2) := cell_later hb (by first | (with_reducible exact kp1) | (with_reducible exact cell_al _ kp1) | (with_reducible exact cell_al _ (cell_al _ kp1)) | go_simp)
  replace kx0 : w19.cell? ⟨w2.heap.size, 0, none⟩ = some (.int .i64 oJoin0) := cell_later hb (by first | (with_reducible exact kx0) | (with_reducible exact cell_al _ kx0) | (with_reducible exact cell_al _ (cell_al _ kx0)) | go_simp)
  replace jx0 : w19.frozen? ⟨w2.heap.size, 0, none⟩ = false := by rw [(bcell hb).2 _ _ (by first | omega | (simp <;> omega))]; first | (with_reducible exact jx0) | go_simp
  replace kx1 : w19.cell? ⟨w2.heap.size, 1, none⟩ = some (.int .i64 oJoin1) := cell_later hb (by first | (with_reducible exact kx1) | (with_reducible exact cell_al _ kx1) | (with_reducible exact cell_al _ (cell_al _ kx1)) | go_simp)
  replace jx1 : w19.frozen? ⟨w2.heap.size, 1, none⟩ = false := by rw [(bcell hb).2 _ _ (by first | omega | (simp <;> omega))]; first | (with_reducible exact jx1) | go_simp
  replace kyq0 : w19.cell? ⟨w3.heap.size, 0, none⟩ = some (.int .i64 oJoin0) := cell_later hb (by first | (with_reducible exact kyq0) | (with_reducible exact cell_al _ kyq0) | (with_reducible exact cell_al _ (cell_al _ kyq0)) | go_simp)
  replace jyq0 : w19.frozen? ⟨w3.heap.size, 0, none⟩ = false := by rw [(bcell hb).2 _ _ (by first | omega | (simp <;> omega))]; first | (with_reducible exact jyq0) | go_simp
  replace kyq1 : w19.cell? ⟨w3.heap.size, 1, none⟩ = some (.int .i64 oJoin1) := cell_later hb (by first | (with_reducible exact kyq1) | (with_reducible exact cell_al _ kyq1) | (with_reducible exact cell_al _ (cell_al _ kyq1)) | go_simp)
  replace jyq1 : w19.frozen? ⟨w3.heap.size, 1, none⟩ = false := by rw [(bcell hb).2 _ _ (by first | omega | (simp <;> omega))]; first | (with_reducible exact jyq1) | go_simp
  replace kv0 : w19.cell? ⟨w14.heap.size, 0, none⟩ = some (.int .i64 oGrowBox0) := cell_later hb (by first | (with_reducible exact kv0) | (with_reducible exact cell_al _ kv0) | (with_reducible exact cell_al _ (cell_al _ kv0)) | go_simp)
  replace jv0 : w19.frozen? ⟨w14.heap.size, 0, none⟩ = false := by rw [(bcell hb).2 _ _ (by first | omega | (simp <;> omega))]; first | (with_reducible exact jv0) | go_simp
  replace kv1 : w19.cell? ⟨w14.heap.size, 1, none⟩ = some (.int .i64 oGrowBox1) := cell_later hb (by first | (with_reducible exact kv1) | (with_reducible exact cell_al _ kv1) | (with_reducible exact cell_al _ (cell_al _ kv1)) | go_simp)
  replace jv1 : w19.frozen? ⟨w14.heap.size, 1, none⟩ = false := by rw [(bcell hb).2 _ _ (by first | omega | (simp <;> omega))]; first | (with_reducible exact jv1) | go_simp
  replace kv2 : w19.cell? ⟨w14.heap.size, 2, none⟩ = some (.int .i64 oGrowBox2) := cell_later hb (by first | (with_reducible exact kv2) | (with_reducible exact cell_al _ kv2) | (with_reducible exact cell_al _ (cell_al _ kv2)) | go_simp)
  replace jv2 : w19.frozen? ⟨w14.heap.size, 2, none⟩ = false := by rw [(bcell hb).2 _ _ (by first | omega | (simp <;> omega))]; first | (with_reducible exact jv2) | go_simp
  replace kv3 : w19.cell? ⟨w14.heap.size, 3, none⟩ = some (.int .i64 oGrowBox3) := cell_later hb (by first | (with_reducible exact kv3) | (with_reducible exact cell_al _ kv3) | (with_reducible exact cell_al _ (cell_al _ kv3)) | go_simp)
  replace jv3 : w19.frozen? ⟨w14.heap.size, 3, none⟩ = false := by rw [(bcell hb).2 _ _ (by first | omega | (simp <;> omega))]; first | (with_reducible exact jv3) | go_simp
  replace kwq0 : w19.cell? ⟨w15.heap.size, 0, none⟩ = some (.int .i64 oJoinBox0) := cell_later hb (by first | (with_reducible exact kwq0) | (with_reducible exact cell_al _ kwq0) | (with_reducible exact cell_al _ (cell_al _ kwq0)) | go_simp)
  replace jwq0 : w19.frozen? ⟨w15.heap.size, 0, none⟩ = false := by rw [(bcell hb).2 _ _ (by first | omega | (simp <;> omega))]; first | (with_reducible exact jwq0) | go_simp
  replace kwq1 : w19.cell? ⟨w15.heap.size, 1, none⟩ = some (.int .i64 oJoinBox1) := cell_later hb (by first | (with_reducible exact kwq1) | (with_reducible exact cell_al _ kwq1) | (with_reducible exact cell_al _ (cell_al _ kwq1)) | go_simp)
  replace jwq1 : w19.frozen? ⟨w15.heap.size, 1, none⟩ = false := by rw [(bcell hb).2 _ _ (by first | omega | (simp <;> omega))]; first | (with_reducible exact jwq1) | go_simp
  replace kwq2 : w19.cell? ⟨w15.heap.size, 2, none⟩ = some (.int .i64 oJoinBox2) := cell_later hb (by first | (with_reducible exact kwq2) | (with_reducible exact cell_al _ kwq2) | (with_reducible exact cell_al _ (cell_al _ kwq2)) | go_simp)
  replace jwq2 : w19.frozen? ⟨w15.heap.size, 2, none⟩ = false := by rw [(bcell hb).2 _ _ (by first | omega | (simp <;> omega))]; first | (with_reducible exact jwq2) | go_simp
  replace kwq3 : w19.cell? ⟨w15.heap.size, 3, none⟩ = some (.int .i64 oJoinBox3) := cell_later hb (by first | (with_reducible exact kwq3) | (with_reducible exact cell_al _ kwq3) | (with_reducible exact cell_al _ (cell_al _ kwq3)) | go_simp)
  replace jwq3 : w19.frozen? ⟨w15.heap.size, 3, none⟩ = false := by rw [(bcell hb).2 _ _ (by first | omega | (simp <;> omega))]; first | (with_reducible exact jwq3) | go_simp
  replace zs : w.heap.size < w19.heap.size := World.block_lt_of_cell? _ _ ks0
  replace zt : w.heap.size + 1 < w19.heap.size := World.block_lt_of_cell? _ _ kt0
  replace za : w.heap.size + 1 + 1 < w19.heap.size := World.block_lt_of_cell? _ _ ka0
  replace zb : w.heap.size + 1 + 1 + 1 < w19.heap.size := World.block_lt_of_cell? _ _ kb0
  replace zp : w.heap.size + 1 + 1 + 1 + 1 < w19.heap.size := World.block_lt_of_cell? _ _ kp0
  replace zx : w2.heap.size < w19.heap.size := World.block_lt_of_cell? _ _ kx0
  replace zyq : w3.heap.size < w19.heap.size := World.block_lt_of_cell? _ _ kyq0
  replace zv : w14.heap.size < w19.heap.size := World.block_lt_of_cell? _ _ kv0
  replace zwq : w15.heap.size < w19.heap.size := World.block_lt_of_cell? _ _ kwq0
  replace hb0 : Below w.heap.size w w19 := (by repeat (first | exact Below.refl _ _ | assumption | refine bstep ?_ (by assumption) | refine Below.drew ?_ | refine balloc ?_ _ | refine Below.setCell ?_ (by first | omega | (simp <;> omega)) _))
  clear hb
  go_wp2_with fail
  refine Calls.mono (PInBox _) ?_
  rintro e w20 ⟨rfl, hb⟩
  replace ks0 : w20.cell? ⟨w.heap.size, 0, none⟩ = some (.int .i64 s1) := cell_later hb (by first | (with_reducible exact ks0) | (with_reducible exact cell_al _ ks0) | (with_reducible exact cell_al _ (cell_al _ ks0)) | go_simp)
  replace ks1 : w20.cell? ⟨w.heap.size, 1, none⟩ = some (.int .i64 s2) := cell_later hb (by first | (with_reducible exact ks1) | (with_reducible exact cell_al _ ks1) | (with_reducible exact cell_al _ (cell_al _ ks1)) | go_simp)
  replace kt0 : w20.cell? ⟨w.heap.size + 1, 0, none⟩ = some (.int .i64 t1) := cell_later hb (by first | (with_reducible exact kt0) | (with_reducible exact cell_al _ kt0) | (with_reducible exact cell_al _ (cell_al _ kt0)) | go_simp)
  replace kt1 : w20.cell? ⟨w.heap.size + 1, 1, none⟩ = some (.int .i64 t2) := cell_later hb (by first | (with_reducible exact kt1) | (with_reducible exact cell_al _ kt1) | (with_reducible exact cell_al _ (cell_al _ kt1)) | go_simp)
  replace ka0 : w20.cell? ⟨w.heap.size + 1 + 1, 0, none⟩ = some (.int .i64 a1) := cell_later hb (by first | (with_reducible exact ka0) | (with_reducible exact cell_al _ ka0) | (with_reducible exact cell_al _ (cell_al _ ka0)) | go_simp)
  replace ka1 : w20.cell? ⟨w.heap.size + 1 + 1, 1, none⟩ = some (.int .i64 a2) := cell_later hb (by first | (with_reducible exact ka1) | (with_reducible exact cell_al _ ka1) | (with_reducible exact cell_al _ (cell_al _ ka1)) | go_simp)
  replace ka2 : w20.cell? ⟨w.heap.size + 1 + 1, 2, none⟩ = some (.int .i64 a3) := cell_later hb (by first | (with_reducible exact ka2) | (with_reducible exact cell_al _ ka2) | (with_reducible exact cell_al _ (cell_al _ ka2)) | go_simp)
  replace ka3 : w20.cell? ⟨w.heap.size + 1 + 1, 3, none⟩ = some (.int .i64 a4) := cell_later hb (by first | (with_reducible exact ka3) | (with_reducible exact cell_al _ ka3) | (with_reducible exact cell_al _ (cell_al _ ka3)) | go_simp)
  replace kb0 : w20.cell? ⟨w.heap.size + 1 + 1 + 1, 0, none⟩ = some (.int .i64 b1) := cell_later hb (by first | (with_reducible exact kb0) | (with_reducible exact cell_al _ kb0) | (with_reducible exact cell_al _ (cell_al _ kb0)) | go_simp)
  replace kb1 : w20.cell? ⟨w.heap.size + 1 + 1 + 1, 1, none⟩ = some (.int .i64 b2) := cell_later hb (by first | (with_reducible exact kb1) | (with_reducible exact cell_al _ kb1) | (with_reducible exact cell_al _ (cell_al _ kb1)) | go_simp)
  replace kb2 : w20.cell? ⟨w.heap.size + 1 + 1 + 1, 2, none⟩ = some (.int .i64 b3) := cell_later hb (by first | (with_reducible exact kb2) | (with_reducible exact cell_al _ kb2) | (with_reducible exact cell_al _ (cell_al _ kb2)) | go_simp)
  replace kb3 : w20.cell? ⟨w.heap.size + 1 + 1 + 1, 3, none⟩ = some (.int .i64 b4) := cell_later hb (by first | (with_reducible exact kb3) | (with_reducible exact cell_al _ kb3) | (with_reducible exact cell_al _ (cell_al _ kb3)) | go_simp)
  replace kp0 : w20.cell? ⟨w.heap.size + 1 + 1 + 1 + 1, 0, none⟩ = some (.int .i64 p1) := cell_later hb (by first | (with_reducible exact kp0) | (with_reducible exact cell_al _ kp0) | (with_reducible exact cell_al _ (cell_al _ kp0)) | go_simp)
  replace kp1 : w20.cell? ⟨w.heap.size + 1 + 1 + 1 + 1, 1, none⟩ = some (.int .i64 p2) := cell_later hb (by first | (with_reducible exact kp1) | (with_reducible exact cell_al _ kp1) | (with_reducible exact cell_al _ (cell_al _ kp1)) | go_simp)
  replace kx0 : w20.cell? ⟨w2.heap.size, 0, none⟩ = some (.int .i64 oJoin0) := cell_later hb (by first | (with_reducible exact kx0) | (with_reducible exact cell_al _ kx0) | (with_reducible exact cell_al _ (cell_al _ kx0)) | go_simp)
  replace jx0 : w20.frozen? ⟨w2.heap.size, 0, none⟩ = false := by rw [(bcell hb).2 _ _ (by first | omega | (simp <;> omega))]; first | (with_reducible exact jx0) | go_simp
  replace kx1 : w20.cell? ⟨w2.heap.size, 1, none⟩ = some (.int .i64 oJoin1) := cell_later hb (by first | (with_reducible exact kx1) | (with_reducible exact cell_al _ kx1) | (with_reducible exact cell_al _ (cell_al _ kx1)) | go_simp)
  replace jx1 : w20.frozen? ⟨w2.heap.size, 1, none⟩ = false := by rw [(bcell hb).2 _ _ (by first | omega | (simp <;> omega))]; first | (with_reducible exact jx1) | go_simp
  replace kyq0 : w20.cell? ⟨w3.heap.size, 0, none⟩ = some (.int .i64 oJoin0) := cell_later hb (by first | (with_reducible exact kyq0) | (with_reducible exact cell_al _ kyq0) | (with_reducible exact cell_al _ (cell_al _ kyq0)) | go_simp)
  replace jyq0 : w20.frozen? ⟨w3.heap.size, 0, none⟩ = false := by rw [(bcell hb).2 _ _ (by first | omega | (simp <;> omega))]; first | (with_reducible exact jyq0) | go_simp
  replace kyq1 : w20.cell? ⟨w3.heap.size, 1, none⟩ = some (.int .i64 oJoin1) := cell_later hb (by first | (with_reducible exact kyq1) | (with_reducible exact cell_al _ kyq1) | (with_reducible exact cell_al _ (cell_al _ kyq1)) | go_simp)
  replace jyq1 : w20.frozen? ⟨w3.heap.size, 1, none⟩ = false := by rw [(bcell hb).2 _ _ (by first | omega | (simp <;> omega))]; first | (with_reducible exact jyq1) | go_simp
  replace kv0 : w20.cell? ⟨w14.heap.size, 0, none⟩ = some (.int .i64 oGrowBox0) := cell_later hb (by first | (with_reducible exact kv0) | (with_reducible exact cell_al _ kv0) | (with_reducible exact cell_al _ (cell_al _ kv0)) | go_simp)
  replace jv0 : w20.frozen? ⟨w14.heap.size, 0, none⟩ = false := by rw [(bcell hb).2 _ _ (by first | omega | (simp <;> omega))]; first | (with_reducible exact jv0) | go_simp
  replace kv1 : w20.cell? ⟨w14.heap.size, 1, none⟩ = some (.int .i64 oGrowBox1) := cell_later hb (by first | (with_reducible exact kv1) | (with_reducible exact cell_al _ kv1) | (with_reducible exact cell_al _ (cell_al _ kv1)) | go_simp)
  replace jv1 : w20.frozen? ⟨w14.heap.size, 1, none⟩ = false := by rw [(bcell hb).2 _ _ (by first | omega | (simp <;> omega))]; first | (with_reducible exact jv1) | go_simp
  replace kv2 : w20.cell? ⟨w14.heap.size, 2, none⟩ = some (.int .i64 oGrowBox2) := cell_later hb (by first | (with_reducible exact kv2) | (with_reducible exact cell_al _ kv2) | (with_reducible exact cell_al _ (cell_al _ kv2)) | go_simp)
  replace jv2 : w20.frozen? ⟨w14.heap.size, 2, none⟩ = false := by rw [(bcell hb).2 _ _ (by first | omega | (simp <;> omega))]; first | (with_reducible exact jv2) | go_simp
  replace kv3 : w20.cell? ⟨w14.heap.size, 3, none⟩ = some (.int .i64 oGrowBox3) := cell_later hb (by first | (with_reducible exact kv3) | (with_reducible exact cell_al _ kv3) | (with_reducible exact cell_al _ (cell_al _ kv3)) | go_simp)
  replace jv3 : w20.frozen? ⟨w14.heap.size, 3, none⟩ = false := by rw [(bcell hb).2 _ _ (by first | omega | (simp <;> omega))]; first | (with_reducible exact jv3) | go_simp
  replace kwq0 : w20.cell? ⟨w15.heap.size, 0, none⟩ = some (.int .i64 oGrowBox0) := cell_later hb (by first | (with_reducible exact kwq0) | (with_reducible exact cell_al _ kwq0) | (with_reducible exact cell_al _ (cell_al _ kwq0)) | go_simp)
  replace jwq0 : w20.frozen? ⟨w15.heap.size, 0, none⟩ = false := by rw [(bcell hb).2 _ _ (by first | omega | (simp <;> omega))]; first | (with_reducible exact jwq0) | go_simp
  replace kwq1 : w20.cell? ⟨w15.heap.size, 1, none⟩ = some (.int .i64 oGrowBox1) := cell_later hb (by first | (with_reducible exact kwq1) | (with_reducible exact cell_al _ kwq1) | (with_reducible exact cell_al _ (cell_al _ kwq1)) | go_simp)
  replace jwq1 : w20.frozen? ⟨w15.heap.size, 1, none⟩ = false := by rw [(bcell hb).2 _ _ (by first | omega | (simp <;> omega))]; first | (with_reducible exact jwq1) | go_simp
  replace kwq2 : w20.cell? ⟨w15.heap.size, 2, none⟩ = some (.int .i64 oGrowBox2) := cell_later hb (by first | (with_reducible exact kwq2) | (with_reducible exact cell_al _ kwq2) | (with_reducible exact cell_al _ (cell_al _ kwq2)) | go_simp)
  replace jwq2 : w20.frozen? ⟨w15.heap.size, 2, none⟩ = false := by rw [(bcell hb).2 _ _ (by first | omega | (simp <;> omega))]; first | (with_reducible exact jwq2) | go_simp
  replace kwq3 : w20.cell? ⟨w15.heap.size, 3, none⟩ = some (.int .i64 oGrowBox3) := cell_later hb (by first | (with_reducible exact kwq3) | (with_reducible exact cell_al _ kwq3) | (with_reducible exact cell_al _ (cell_al _ kwq3)) | go_simp)
  replace jwq3 : w20.frozen? ⟨w15.heap.size, 3, none⟩ = false := by rw [(bcell hb).2 _ _ (by first | omega | (simp <;> omega))]; first | (with_reducible exact jwq3) | go_simp
  replace zs : w.heap.size < w20.heap.size := World.block_lt_of_cell? _ _ ks0
  replace zt : w.heap.size + 1 < w20.heap.size := World.block_lt_of_cell? _ _ kt0
  replace za : w.heap.size + 1 + 1 < w20.heap.size := World.block_lt_of_cell? _ _ ka0
  replace zb : w.heap.size + 1 + 1 + 1 < w20.heap.size := World.block_lt_of_cell? _ _ kb0
  replace zp : w.heap.size + 1 + 1 + 1 + 1 < w20.heap.size := World.block_lt_of_cell? _ _ kp0
  replace zx : w2.heap.size < w20.heap.size := World.block_lt_of_cell? _ _ kx0
  replace zyq : w3.heap.size < w20.heap.size := World.block_lt_of_cell? _ _ kyq0
  replace zv : w14.heap.size < w20.heap.size := World.block_lt_of_cell? _ _ kv0
  replace zwq : w15.heap.size < w20.heap.size := World.block_lt_of_cell? _ _ kwq0
  replace hb0 : Below w.heap.size w w20 := (by repeat (first | exact Below.refl _ _ | assumption | refine bstep ?_ (by assumption) | refine Below.drew ?_ | refine balloc ?_ _ | refine Below.setCell ?_ (by first | omega | (simp <;> omega)) _))
  clear hb
  go_wp2_with fail
  refine Calls.mono (RInBox _) ?_
  rintro e w21 ⟨rfl, hb⟩
  replace ks0 : w21.cell? ⟨w.heap.size, 0, none⟩ = some (.int .i64 s1) := cell_later hb (by first | (with_reducible exact ks0) | (with_reducible exact cell_al _ ks0) | (with_reducible exact cell_al _ (cell_al _ ks0)) | go_simp)
  replace ks1 : w21.cell? ⟨w.heap.size, 1, none⟩ = some (.int .i64 s2) := cell_later hb (by first | (with_reducible exact ks1) | (with_reducible exact cell_al _ ks1) | (with_reducible exact cell_al _ (cell_al _ ks1)) | go_simp)
  replace kt0 : w21.cell? ⟨w.heap.size + 1, 0, none⟩ = some (.int .i64 t1) := cell_later hb (by first | (with_reducible exact kt0) | (with_reducible exact cell_al _ kt0) | (with_reducible exact cell_al _ (cell_al _ kt0)) | go_simp)
  replace kt1 : w21.cell? ⟨w.heap.size + 1, 1, none⟩ = some (.int .i64 t2) := cell_later hb (by first | (with_reducible exact kt1) | (with_reducible exact cell_al _ kt1) | (with_reducible exact cell_al _ (cell_al _ kt1)) | go_simp)
  replace ka0 : w21.cell? ⟨w.heap.size + 1 + 1, 0, none⟩ = some (.int .i64 a1) := cell_later hb (by first | (with_reducible exact ka0) | (with_reducible exact cell_al _ ka0) | (with_reducible exact cell_al _ (cell_al _ ka0)) | go_simp)
  replace ka1 : w21.cell? ⟨w.heap.size + 1 + 1, 1, none⟩ = some (.int .i64 a2) := cell_later hb (by first | (with_reducible exact ka1) | (with_reducible exact cell_al _ ka1) | (with_reducible exact cell_al _ (cell_al _ ka1)) | go_simp)
  replace ka2 : w21.cell? ⟨w.heap.size + 1 + 1, 2, none⟩ = some (.int .i64 a3) := cell_later hb (by first | (with_reducible exact ka2) | (with_reducible exact cell_al _ ka2) | (with_reducible exact cell_al _ (cell_al _ ka2)) | go_simp)
  replace ka3 : w21.cell? ⟨w.heap.size + 1 + 1, 3, none⟩ = some (.int .i64 a4) := cell_later hb (by first | (with_reducible exact ka3) | (with_reducible exact cell_al _ ka3) | (with_reducible exact cell_al _ (cell_al _ ka3)) | go_simp)
  replace kb0 : w21.cell? ⟨w.heap.size + 1 + 1 + 1, 0, none⟩ = some (.int .i64 b1) := cell_later hb (by first | (with_reducible exact kb0) | (with_reducible exact cell_al _ kb0) | (with_reducible exact cell_al _ (cell_al _ kb0)) | go_simp)
  replace kb1 : w21.cell? ⟨w.heap.size + 1 + 1 + 1, 1, none⟩ = some (.int .i64 b2) := cell_later hb (by first | (with_reducible exact kb1) | (with_reducible exact cell_al _ kb1) | (with_reducible exact cell_al _ (cell_al _ kb1)) | go_simp)
  replace kb2 : w21.cell? ⟨w.heap.size + 1 + 1 + 1, 2, none⟩ = some (.int .i64 b3) := cell_later hb (by first | (with_reducible exact kb2) | (with_reducible exact cell_al _ kb2) | (with_reducible exact cell_al _ (cell_al _ kb2)) | go_simp)
  replace kb3 : w21.cell? ⟨w.heap.size + 1 + 1 + 1, 3, none⟩ = some (.int .i64 b4) := cell_later hb (by first | (with_reducible exact kb3) | (with_reducible exact cell_al _ kb3) | (with_reducible exact cell_al _ (cell_al _ kb3)) | go_simp)
  replace kp0 : w21.cell? ⟨w.heap.size + 1 + 1 + 1 + 1, 0, none⟩ = some (.int .i64 p1) := cell_later hb (by first | (with_reducible exact kp0) | (with_reducible exact cell_al _ kp0) | (with_reducible exact cell_al _ (cell_al _ kp0)) | go_simp)
  replace kp1 : w21.cell? ⟨w.heap.size + 1 + 1 + 1 + 1, 1, none⟩ = some (.int .i64 p2) := cell_later hb (by first | (with_reducible exact kp1) | (with_reducible exact cell_al _ kp1) | (with_reducible exact cell_al _ (cell_al _ kp1)) | go_simp)
  replace kx0 : w21.cell? ⟨w2.heap.size, 0, none⟩ = some (.int .i64 oJoin0) := cell_later hb (by first | (with_reducible exact kx0) | (with_reducible exact cell_al _ kx0) | (with_reducible exact cell_al _ (cell_al _ kx0)) | go_simp)
  replace jx0 : w21.frozen? ⟨w2.heap.size, 0, none⟩ = false := by rw [(bcell hb).2 _ _ (by first | omega | (simp <;> omega))]; first | (with_reducible exact jx0) | go_simp
  replace kx1 : w21.cell? ⟨w2.heap.size, 1, none⟩ = some (.int .i64 oJoin1) := cell_later hb (by first | (with_reducible exact kx1) | (with_reducible exact cell_al _ kx1) | (with_reducible exact cell_al _ (cell_al _ kx1)) | go_simp)
  replace jx1 : w21.frozen? ⟨w2.heap.size, 1, none⟩ = false := by rw [(bcell hb).2 _ _ (by first | omega | (simp <;> omega))]; first | (with_reducible exact jx1) | go_simp
  replace kyq0 : w21.cell? ⟨w3.heap.size, 0, none⟩ = some (.int .i64 oJoin0) := cell_later hb (by first | (with_reducible exact kyq0) | (with_reducible exact cell_al _ kyq0) | (with_reducible exact cell_al _ (cell_al _ kyq0)) | go_simp)
  replace jyq0 : w21.frozen? ⟨w3.heap.size, 0, none⟩ = false := by rw [(bcell hb).2 _ _ (by first | omega | (simp <;> omega))]; first | (with_reducible exact jyq0) | go_simp
  replace kyq1 : w21.cell? ⟨w3.heap.size, 1, none⟩ = some (.int .i64 oJoin1) := cell_later hb (by first | (with_reducible exact kyq1) | (with_reducible exact cell_al _ kyq1) | (with_reducible exact cell_al _ (cell_al _ kyq1)) | go_simp)
  replace jyq1 : w21.frozen? ⟨w3.heap.size, 1, none⟩ = false := by rw [(bcell hb).2 _ _ (by first | omega | (simp <;> omega))]; first | (with_reducible exact jyq1) | go_simp
  replace kv0 : w21.cell? ⟨w14.heap.size, 0, none⟩ = some (.int .i64 oGrowBox0) := cell_later hb (by first | (with_reducible exact kv0) | (with_reducible exact cell_al _ kv0) | (with_reducible exact cell_al _ (cell_al _ kv0)) | go_simp)
  replace jv0 : w21.frozen? ⟨w14.heap.size, 0, none⟩ = false := by rw [(bcell hb).2 _ _ (by first | omega | (simp <;> omega))]; first | (with_reducible exact jv0) | go_simp
  replace kv1 : w21.cell? ⟨w14.heap.size, 1, none⟩ = some (.int .i64 oGrowBox1) := cell_later hb (by first | (with_reducible exact kv1) | (with_reducible exact cell_al _ kv1) | (with_reducible exact cell_al _ (cell_al _ kv1)) | go_simp)
  replace jv1 : w21.frozen? ⟨w14.heap.size, 1, none⟩ = false := by rw [(bcell hb).2 _ _ (by first | omega | (simp <;> omega))]; first | (with_reducible exact jv1) | go_simp
  replace kv2 : w21.cell? ⟨w14.heap.size, 2, none⟩ = some (.int .i64 oGrowBox2) := cell_later hb (by first | (with_reducible exact kv2) | (with_reducible exact cell_al _ kv2) | (with_reducible exact cell_al _ (cell_al _ kv2)) | go_simp)
  replace jv2 : w21.frozen? ⟨w14.heap.size, 2, none⟩ = false := by rw [(bcell hb).2 _ _ (by first | omega | (simp <;> omega))]; first | (with_reducible exact jv2) | go_simp
  replace kv3 : w21.cell? ⟨w14.heap.size, 3, none⟩ = some (.int .i64 oGrowBox3) := cell_later hb (by first | (with_reducible exact kv3) | (with_reducible exact cell_al _ kv3) | (with_reducible exact cell_al _ (cell_al _ kv3)) | go_simp)
  replace jv3 : w21.frozen? ⟨w14.heap.size, 3, none⟩ = false := by rw [(bcell hb).2 _ _ (by first | omega | (simp <;> omega))]; first | (with_reducible exact jv3) | go_simp
  replace kwq0 : w21.cell? ⟨w15.heap.size, 0, none⟩ = some (.int .i64 oGrowBox0) := cell_later hb (by first | (with_reducible exact kwq0) | (with_reducible exact cell_al _ kwq0) | (with_reducible exact cell_al _ (cell_al _ kwq0)) | go_simp)
  replace jwq0 : w21.frozen? ⟨w15.heap.size, 0, none⟩ = false := by rw [(bcell hb).2 _ _ (by first | omega | (simp <;> omega))]; first | (with_reducible exact jwq0) | go_simp
  replace kwq1 : w21.cell? ⟨w15.heap.size, 1, none⟩ = some (.int .i64 oGrowBox1) := cell_later hb (by first | (with_reducible exact kwq1) | (with_reducible exact cell_al _ kwq1) | (with_reducible exact cell_al _ (cell_al _ kwq1)) | go_simp)
  replace jwq1 : w21.frozen? ⟨w15.heap.size, 1, none⟩ = false := by rw [(bcell hb).2 _ _ (by first | omega | (simp <;> omega))]; first | (with_reducible exact jwq1) | go_simp
  replace kwq2 : w21.cell? ⟨w15.heap.size, 2, none⟩ = some (.int .i64 oGrowBox2) := cell_later hb (by first | (with_reducible exact kwq2) | (with_reducible exact cell_al _ kwq2) | (with_reducible exact cell_al _ (cell_al _ kwq2)) | go_simp)
  replace jwq2 : w21.frozen? ⟨w15.heap.size, 2, none⟩ = false := by rw [(bcell hb).2 _ _ (by first | omega | (simp <;> omega))]; first | (with_reducible exact jwq2) | go_simp
  replace kwq3 : w21.cell? ⟨w15.heap.size, 3, none⟩ = some (.int .i64 oGrowBox3) := cell_later hb (by first | (with_reducible exact kwq3) | (with_reducible exact cell_al _ kwq3) | (with_reducible exact cell_al _ (cell_al _ kwq3)) | go_simp)
  replace jwq3 : w21.frozen? ⟨w15.heap.size, 3, none⟩ = false := by rw [(bcell hb).2 _ _ (by first | omega | (simp <;> omega))]; first | (with_reducible exact jwq3) | go_simp
  replace zs : w.heap.size < w21.heap.size := World.block_lt_of_cell? _ _ ks0
  replace zt : w.heap.size + 1 < w21.heap.size := World.block_lt_of_cell? _ _ kt0
  replace za : w.heap.size + 1 + 1 < w21.heap.size := World.block_lt_of_cell? _ _ ka0
  replace zb : w.heap.size + 1 + 1 + 1 < w21.heap.size := World.block_lt_of_cell? _ _ kb0
  replace zp : w.heap.size + 1 + 1 + 1 + 1 < w21.heap.size := World.block_lt_of_cell? _ _ kp0
  replace zx : w2.heap.size < w21.heap.size := World.block_lt_of_cell? _ _ kx0
  replace zyq : w3.heap.size < w21.heap.size := World.block_lt_of_cell? _ _ kyq0
  replace zv : w14.heap.size < w21.heap.size := World.block_lt_of_cell? _ _ kv0
  replace zwq : w15.heap.size < w21.heap.size := World.block_lt_of_cell? _ _ kwq0
  replace hb0 : Below w.heap.size w w21 := (by repeat (first | exact Below.refl _ _ | assumption | refine bstep ?_ (by assumption) | refine Below.drew ?_ | refine balloc ?_ _ | refine Below.setCell ?_ (by first | omega | (simp <;> omega)) _))
  clear hb
  go_wp2_with fail
  refine Calls.mono (PWithinBox _) ?_
  rintro e w22 ⟨rfl, hb⟩
  replace ks0 : w22.cell? ⟨w.heap.size, 0, none⟩ = some (.int .i64 s1) := cell_later hb (by first | (with_reducible exact ks0) | (with_reducible exact cell_al _ ks0) | (with_reducible exact cell_al _ (cell_al _ ks0)) | go_simp)
  replace ks1 : w22.cell? ⟨w.heap.size, 1, none⟩ = some (.int .i64 s2) := cell_later hb (by first | (with_reducible exact ks1) | (with_reducible exact cell_al _ ks1) | (with_reducible exact cell_al _ (cell_al _ ks1)) | go_simp)
  replace kt0 : w22.cell? ⟨w.heap.size + 1, 0, none⟩ = some (.int .i64 t1) := cell_later hb (by first | (with_reducible exact kt0) | (with_reducible exact cell_al _ kt0) | (with_reducible exact cell_al _ (cell_al _ kt0)) | go_simp)
  replace kt1 : w22.cell? ⟨w.heap.size + 1, 1, none⟩ = some (.int .i64 t2) := cell_later hb (by first | (with_reducible exact kt1) | (with_reducible exact cell_al _ kt1) | (with_reducible exact cell_al _ (cell_al _ kt1)) | go_simp)
  replace ka0 : w22.cell? ⟨w.heap.size + 1 + 1, 0, none⟩ = some (.int .i64 a1) := cell_later hb (by first | (with_reducible exact ka0) | (with_reducible exact cell_al _ ka0) | (with_reducible exact cell_al _ (cell_al _ ka0)) | go_simp)
  replace ka1 : w22.cell? ⟨w.heap.size + 1 + 1, 1, none⟩ = some (.int .i64 a2) := cell_later hb (by first | (with_reducible exact ka1) | (with_reducible exact cell_al _ ka1) | (with_reducible exact cell_al _ (cell_al _ ka1)) | go_simp)
  replace ka2 : w22.cell? ⟨w.heap.size + 1 + 1, 2, none⟩ = some (.int .i64 a3) := cell_later hb (by first | (with_reducible exact ka2) | (with_reducible exact cell_al _ ka2) | (with_reducible exact cell_al _ (cell_al _ ka2)) | go_simp)
  replace ka3 : w22.cell? ⟨w.heap.size + 1 + 1, 3, none⟩ = some (.int .i64 a4) := cell_later hb (by first | (with_reducible exact ka3) | (with_reducible exact cell_al _ ka3) | (with_reducible exact cell_al _ (cell_al _ ka3)) | go_simp)
  replace kb0 : w22.cell? ⟨w.heap.size + 1 + 1 + 1, 0, none⟩ = some (.int .i64 b1) := cell_later hb (by first | (with_reducible exact kb0) | (with_reducible exact cell_al _ kb0) | (with_reducible exact cell_al _ (cell_al _ kb0)) | go_simp)
  replace kb1 : w22.cell? ⟨w.heap.size + 1 + 1 + 1, 1, none⟩ = some (.int .i64 b2) := cell_later hb (by first | (with_reducible exact kb1) | (with_reducible exact cell_al _ kb1) | (with_reducible exact cell_al _ (cell_al _ kb1)) | go_simp)
  replace kb2 : w22.cell? ⟨w.heap.size + 1 + 1 + 1, 2, none⟩ = some (.int .i64 b3) := cell_later hb (by first | (with_reducible exact kb2) | (with_reducible exact cell_al _ kb2) | (with_reducible exact cell_al _ (cell_al _ kb2)) | go_simp)
  replace kb3 : w22.cell? ⟨w.heap.size + 1 + 1 + 1, 3, none⟩ = some (.int .i64 b4) := cell_later hb (by first | (with_reducible exact kb3) | (with_reducible exact cell_al _ kb3) | (with_reducible exact cell_al _ (cell_al _ kb3)) | go_simp)
  replace kp0 : w22.cell? ⟨w.heap.size + 1 + 1 + 1 + 1, 0, none⟩ = some (.int .i64 p1) := cell_later hb (by first | (with_reducible exact kp0) | (with_reducible exact cell_al _ kp0) | (with_reducible exact cell_al _ (cell_al _ kp0)) | go_simp)
  replace kp1 : w22.cell? ⟨w.heap.size + 1 + 1 + 1 + 1, 1, none⟩ = some (.int .i64 p2) := cell_later hb (by first | (with_reducible exact kp1) | (with_reducible exact cell_al _ kp1) | (with_reducible exact cell_al _ (cell_al _ kp1)) | go_simp)
  replace kx0 : w22.cell? ⟨w2.heap.size, 0, none⟩ = some (.int .i64 oJoin0) := cell_later hb (by first | (with_reducible exact kx0) | (with_reducible exact cell_al _ kx0) | (with_reducible exact cell_al _ (cell_al _ kx0)) | go_simp)
  replace jx0 : w22.frozen? ⟨w2.heap.size, 0, none⟩ = false := by rw [(bcell hb).2 _ _ (by first | omega | (simp <;> omega))]; first | (with_reducible exact jx0) | go_simp
  replace kx1 : w22.cell? ⟨w2.heap.size, 1, none⟩ = some (.int .i64 oJoin1) := cell_later hb (by first | (with_reducible exact kx1) | (with_reducible exact cell_al _ kx1) | (with_reducible exact cell_al _ (cell_al _ kx1)) | go_simp)
  replace jx1 : w22.frozen? ⟨w2.heap.size, 1, none⟩ = false := by rw [(bcell hb).2 _ _ (by first | omega | (simp <;> omega))]; first | (with_reducible exact jx1) | go_simp
  replace kyq0 : w22.cell? ⟨w3.heap.size, 0, none⟩ = some (.int .i64 oJoin0) := cell_later hb (by first | (with_reducible exact kyq0) | (with_reducible exact cell_al _ kyq0) | (with_reducible exact cell_al _ (cell_al _ kyq0)) | go_simp)
  replace jyq0 : w22.frozen? ⟨w3.heap.size, 0, none⟩ = false := by rw [(bcell hb).2 _ _ (by first | omega | (simp <;> omega))]; first | (with_reducible exact jyq0) | go_simp
  replace kyq1 : w22.cell? ⟨w3.heap.size, 1, none⟩ = some (.int .i64 oJoin1) := cell_later hb (by first | (with_reducible exact kyq1) | (with_reducible exact cell_al _ kyq1) | (with_reducible exact cell_al _ (cell_al _ kyq1)) | go_simp)
  replace jyq1 : w22.frozen? ⟨w3.heap.size, 1, none⟩ = false := by rw [(bcell hb).2 _ _ (by first | omega | (simp <;> omega))]; first | (with_reducible exact jyq1) | go_simp
  replace kv0 : w22.cell? ⟨w14.heap.size, 0, none⟩ = some (.int .i64 oGrowBox0) := cell_later hb (by first | (with_reducible exact kv0) | (with_reducible exact cell_al _ kv0) | (with_reducible exact cell_al _ (cell_al _ kv0)) | go_simp)
  replace jv0 : w22.frozen? ⟨w14.heap.size, 0, none⟩ = false := by rw [(bcell hb).2 _ _ (by first | omega | (simp <;> omega))]; first | (with_reducible exact jv0) | go_simp
  replace kv1 : w22.cell? ⟨w14.heap.size, 1, none⟩ = some (.int .i64 oGrowBox1) := cell_later hb (by first | (with_reducible exact kv1) | (with_reducible exact cell_al _ kv1) | (with_reducible exact cell_al _ (cell_al _ kv1)) | go_simp)
  replace jv1 : w22.frozen? ⟨w14.heap.size, 1, none⟩ = false := by rw [(bcell hb).2 _ _ (by first | omega | (simp <;> omega))]; first | (with_reducible exact jv1) | go_simp
  replace kv2 : w22.cell? ⟨w14.heap.size, 2, none⟩ = some (.int .i64 oGrowBox2) := cell_later hb (by first | (with_reducible exact kv2) | (with_reducible exact cell_al _ kv2) | (with_reducible exact cell_al _ (cell_al _ kv2)) | go_simp)
  replace jv2 : w22.frozen? ⟨w14.heap.size, 2, none⟩ = false := by rw [(bcell hb).2 _ _ (by first | omega | (simp <;> omega))]; first | (with_reducible exact jv2) | go_simp
  replace kv3 : w22.cell? ⟨w14.heap.size, 3, none⟩ = some (.int .i64 oGrowBox3) := cell_later hb (by first | (with_reducible exact kv3) | (with_reducible exact cell_al _ kv3) | (with_reducible exact cell_al _ (cell_al _ kv3)) | go_simp)
  replace jv3 : w22.frozen? ⟨w14.heap.size, 3, none⟩ = false := by rw [(bcell hb).2 _ _ (by first | omega | (simp <;> omega))]; first | (with_reducible exact jv3) | go_simp
  replace kwq0 : w22.cell? ⟨w15.heap.size, 0, none⟩ = some (.int .i64 oGrowBox0) := cell_later hb (by first | (with_reducible exact kwq0) | (with_reducible exact cell_al _ kwq0) | (with_reducible exact cell_al _ (cell_al _ kwq0)) | go_simp)
  replace jwq0 : w22.frozen? ⟨w15.heap.size, 0, none⟩ = false := by rw [(bcell hb).2 _ _ (by first | omega | (simp <;> omega))]; first | (with_reducible exact jwq0) | go_simp
  replace kwq1 : w22.cell? ⟨w15.heap.size, 1, none⟩ = some (.int .i64 oGrowBox1) := cell_later hb (by first | (with_reducible exact kwq1) | (with_reducible exact cell_al _ kwq1) | (with_reducible exact cell_al _ (cell_al _ kwq1)) | go_simp)
  replace jwq1 : w22.frozen? ⟨w15.heap.size, 1, none⟩ = false := by rw [(bcell hb).2 _ _ (by first | omega | (simp <;> omega))]; first | (with_reducible exact jwq1) | go_simp
  replace kwq2 : w22.cell? ⟨w15.heap.size, 2, none⟩ = some (.int .i64 oGrowBox2) := cell_later hb (by first | (with_reducible exact kwq2) | (with_reducible exact cell_al _ kwq2) | (with_reducible exact cell_al _ (cell_al _ kwq2)) | go_simp)
  replace jwq2 : w22.frozen? ⟨w15.heap.size, 2, none⟩ = false := by rw [(bcell hb).2 _ _ (by first | omega | (simp <;> omega))]; first | (with_reducible exact jwq2) | go_simp
  replace kwq3 : w22.cell? ⟨w15.heap.size, 3, none⟩ = some (.int .i64 oGrowBox3) := cell_later hb (by first | (with_reducible exact kwq3) | (with_reducible exact cell_al _ kwq3) | (with_reducible exact cell_al _ (cell_al _ kwq3)) | go_simp)
  replace jwq3 : w22.frozen? ⟨w15.heap.size, 3, none⟩ = false := by rw [(bcell hb).2 _ _ (by first | omega | (simp <;> omega))]; first | (with_reducible exact jwq3) | go_simp
  replace zs : w.heap.size < w22.heap.size := World.block_lt_of_cell? _ _ ks0
  replace zt : w.heap.size + 1 < w22.heap.size := World.block_lt_of_cell? _ _ kt0
  replace za : w.heap.size + 1 + 1 < w22.heap.size := World.block_lt_of_cell? _ _ ka0
  replace zb : w.heap.size + 1 + 1 + 1 < w22.heap.size := World.block_lt_of_cell? _ _ kb0
  replace zp : w.heap.size + 1 + 1 + 1 + 1 < w22.heap.size := World.block_lt_of_cell? _ _ kp0
  replace zx : w2.heap.size < w22.heap.size := World.block_lt_of_cell? _ _ kx0
  replace zyq : w3.heap.size < w22.heap.size := World.block_lt_of_cell? _ _ kyq0
  replace zv : w14.heap.size < w22.heap.size := World.block_lt_of_cell? _ _ kv0
  replace zwq : w15.heap.size < w22.heap.size := World.block_lt_of_cell? _ _ kwq0
  replace hb0 : Below w.heap.size w w22 := (by repeat (first | exact Below.refl _ _ | assumption | refine bstep ?_ (by assumption) | refine Below.drew ?_ | refine balloc ?_ _ | refine Below.setCell ?_ (by first | omega | (simp <;> omega)) _))
  clear hb
  go_wp2_with fail
  refine Calls.mono (RWithinBox _) ?_
  rintro e w23 ⟨rfl, hb⟩
  replace ks0 : w23.cell? ⟨w.heap.size, 0, none⟩ = some (.int .i64 s1) := cell_later hb (by first | (with_reducible exact ks0) | (with_reducible exact cell_al _ ks0) | (with_reducible exact cell_al _ (cell_al _ ks0)) | go_simp)
  replace ks1 : w23.cell? ⟨w.heap.size, 1, none⟩ = some (.int .i64 s2) := cell_later hb (by first | (with_reducible exact ks1) | (with_reducible exact cell_al _ ks1) | (with_reducible exact cell_al _ (cell_al _ ks1)) | go_simp)
  replace kt0 : w23.cell? ⟨w.heap.size + 1, 0, none⟩ = some (.int .i64 t1) := cell_later hb (by first | (with_reducible exact kt0) | (with_reducible exact cell_al _ kt0) | (with_reducible exact cell_al _ (cell_al _ kt0)) | go_simp)
  replace kt1 : w23.cell? ⟨w.heap.size + 1, 1, none⟩ = some (.int .i64 t2) := cell_later hb (by first | (with_reducible exact kt1) | (with_reducible exact cell_al _ kt1) | (with_reducible exact cell_al _ (cell_al _ kt1)) | go_simp)
  replace ka0 : w23.cell? ⟨w.heap.size + 1 + 1, 0, none⟩ = some (.int .i64 a1) := cell_later hb (by first | (with_reducible exact ka0) | (with_reducible exact cell_al _ ka0) | (with_reducible exact cell_al _ (cell_al _ ka0)) | go_simp)
  replace ka1 : w23.cell? ⟨w.heap.size + 1 + 1, 1, none⟩ = some (.int .i64 a2) := cell_later hb (by first | (with_reducible exact ka1) | (with_reducible exact cell_al _ ka1) | (with_reducible exact cell_al _ (cell_al _ ka1)) | go_simp)
  replace ka2 : w23.cell? ⟨w.heap.size + 1 + 1, 2, none⟩ = some (.int .i64 a3) := cell_later hb (by first | (with_reducible exact ka2) | (with_reducible exact cell_al _ ka2) | (with_reducible exact cell_al _ (cell_al _ ka2)) | go_simp)
  replace ka3 : w23.cell? ⟨w.heap.size + 1 + 1, 3, none⟩ = some (.int .i64 a4) := cell_later hb (by first | (with_reducible exact ka3) | (with_reducible exact cell_al _ ka3) | (with_reducible exact cell_al _ (cell_al _ ka3)) | go_simp)
  replace kb0 : w23.cell? ⟨w.heap.size + 1 + 1 + 1, 0, none⟩ = some (.int .i64 b1) := cell_later hb (by first | (with_reducible exact kb0) | (with_reducible exact cell_al _ kb0) | (with_reducible exact cell_al _ (cell_al _ kb0)) | go_simp)
  replace kb1 : w23.cell? ⟨w.heap.size + 1 + 1 + 1, 1, none⟩ = some (.int .i64 b2) := cell_later hb (by first | (with_reducible exact kb1) | (with_reducible exact cell_al _ kb1) | (with_reducible exact cell_al _ (cell_al _ kb1)) | go_simp)
  replace kb2 : w23.cell? ⟨w.heap.size + 1 + 1 + 1, 2, none⟩ = some (.int .i64 b3) := cell_later hb (by first | (with_reducible exact kb2) | (with_reducible exact cell_al _ kb2) | (with_reducible exact cell_al _ (cell_al _ kb2)) | go_simp)
  replace kb3 : w23.cell? ⟨w.heap.size + 1 + 1 + 1, 3, none⟩ = some (.int .i64 b4) := cell_later hb (by first | (with_reducible exact kb3) | (with_reducible exact cell_al _ kb3) | (with_reducible exact cell_al _ (cell_al _ kb3)) | go_simp)
  replace kp0 : w23.cell? ⟨w.heap.size + 1 + 1 + 1 + 1, 0, none⟩ = some (.int .i64 p1) := cell_later hb (by first | (with_reducible exact kp0) | (with_reducible exact cell_al _ kp0) | (with_reducible exact cell_al _ (cell_al _ kp0)) | go_simp)
  replace kp1 : w23.cell? ⟨w.heap.size + 1 + 1 + 1 + 1, 1, none⟩ = some (.int .i64 p2) := cell_later hb (by first | (with_reducible exact kp1) | (with_reducible exact cell_al _ kp1) | (with_reducible exact cell_al _ (cell_al _ kp1)) | go_simp)
  replace kx0 : w23.cell? ⟨w2.heap.size, 0, none⟩ = some (.int .i64 oJoin0) := cell_later hb (by first | (with_reducible exact kx0) | (with_reducible exact cell_al _ kx0) | (with_reducible exact cell_al _ (cell_al _ kx0)) | go_simp)
  replace jx0 : w23.frozen? ⟨w2.heap.size, 0, none⟩ = false := by rw [(bcell hb).2 _ _ (by first | omega | (simp <;> omega))]; first | (with_reducible exact jx0) | go_simp
  replace kx1 : w23.cell? ⟨w2.heap.size, 1, none⟩ = some (.int .i64 oJoin1) := cell_later hb (by first | (with_reducible exact kx1) | (with_reducible exact cell_al _ kx1) | (with_reducible exact cell_al _ (cell_al _ kx1)) | go_simp)
  replace jx1 : w23.frozen? ⟨w2.heap.size, 1, none⟩ = false := by rw [(bcell hb).2 _ _ (by first | omega | (simp <;> omega))]; first | (with_reducible exact jx1) | go_simp
  replace kyq0 : w23.cell? ⟨w3.heap.size, 0, none⟩ = some (.int .i64 oJoin0) := cell_later hb (by first | (with_reducible exact kyq0) | (with_reducible exact cell_al _ kyq0) | (with_reducible exact cell_al _ (cell_al _ kyq0)) | go_simp)
  replace jyq0 : w23.frozen? ⟨w3.heap.size, 0, none⟩ = false := by rw [(bcell hb).2 _ _ (by first | omega | (simp <;> omega))]; first | (with_reducible exact jyq0) | go_simp
  replace kyq1 : w23.cell? ⟨w3.heap.size, 1, none⟩ = some (.int .i64 oJoin1) := cell_later hb (by first | (with_reducible exact kyq1) | (with_reducible exact cell_al _ kyq1) | (with_reducible exact cell_al _ (cell_al _ kyq1)) | go_simp)
  replace jyq1 : w23.frozen? ⟨w3.heap.size, 1, none⟩ = false := by rw [(bcell hb).2 _ _ (by first | omega | (simp <;> omega))]; first | (with_reducible exact jyq1) | go_simp
  replace kv0 : w23.cell? ⟨w14.heap.size, 0, none⟩ = some (.int .i64 oGrowBox0) := cell_later hb (by first | (with_reducible exact kv0) | (with_reducible exact cell_al _ kv0) | (with_reducible exact cell_al _ (cell_al _ kv0)) | go_simp)
  replace jv0 : w23.frozen? ⟨w14.heap.size, 0, none⟩ = false := by rw [(bcell hb).2 _ _ (by first | omega | (simp <;> omega))]; first | (with_reducible exact jv0) | go_simp
  replace kv1 : w23.cell? ⟨w14.heap.size, 1, none⟩ = some (.int .i64 oGrowBox1) := cell_later hb (by first | (with_reducible exact kv1) | (with_reducible exact cell_al _ kv1) | (with_reducible exact cell_al _ (cell_al _ kv1)) | go_simp)
  replace jv1 : w23.frozen? ⟨w14.heap.size, 1, none⟩ = false := by rw [(bcell hb).2 _ _ (by first | omega | (simp <;> omega))]; first | (with_reducible exact jv1) | go_simp
  replace kv2 : w23.cell? ⟨w14.heap.size, 2, none⟩ = some (.int .i64 oGrowBox2) := cell_later hb (by first | (with_reducible exact kv2) | (with_reducible exact cell_al _ kv2) | (with_reducible exact cell_al _ (cell_al _ kv2)) | go_simp)
  replace jv2 : w23.frozen? ⟨w14.heap.size, 2, none⟩ = false := by rw [(bcell hb).2 _ _ (by first | omega | (simp <;> omega))]; first | (with_reducible exact jv2) | go_simp
  replace kv3 : w23.cell? ⟨w14.heap.size, 3, none⟩ = some (.int .i64 oGrowBox3) := cell_later hb (by first | (with_reducible exact kv3) | (with_reducible exact cell_al _ kv3) | (with_reducible exact cell_al _ (cell_al _ kv3)) | go_simp)
  replace jv3 : w23.frozen? ⟨w14.heap.size, 3, none⟩ = false := by rw [(bcell hb).2 _ _ (by first | omega | (simp <;> omega))]; first | (with_reducible exact jv3) | go_simp
  replace kwq0 : w23.cell? ⟨w15.heap.size, 0, none⟩ = some (.int .i64 oGrowBox0) := cell_later hb (by first | (with_reducible exact kwq0) | (with_reducible exact cell_al _ kwq0) | (with_reducible exact cell_al _ (cell_al _ kwq0)) | go_simp)
  replace jwq0 : w23.frozen? ⟨w15.heap.size, 0, none⟩ = false := by rw [(bcell hb).2 _ _ (by first | omega | (simp <;> omega))]; first | (with_reducible exact jwq0) | go_simp
  replace kwq1 : w23.cell? ⟨w15.heap.size, 1, none⟩ = some (.int .i64 oGrowBox1) := cell_later hb (by first | (with_reducible exact kwq1) | (with_reducible exact cell_al _ kwq1) | (with_reducible exact cell_al _ (cell_al _ kwq1)) | go_simp)
  replace jwq1 : w23.frozen? ⟨w15.heap.size, 1, none⟩ = false := by rw [(bcell hb).2 _ _ (by first | omega | (simp <;> omega))]; first | (with_reducible exact jwq1) | go_simp
  replace kwq2 : w23.cell? ⟨w15.heap.size, 2, none⟩ = some (.int .i64 oGrowBox2) := cell_later hb (by first | (with_reducible exact kwq2) | (with_reducible exact cell_al _ kwq2) | (with_reducible exact cell_al _ (cell_al _ kwq2)) | go_simp)
  replace jwq2 : w23.frozen? ⟨w15.heap.size, 2, none⟩ = false := by rw [(bcell hb).2 _ _ (by first | omega | (simp <;> omega))]; first | (with_reducible exact jwq2) | go_simp
  replace kwq3 : w23.cell? ⟨w15.heap.size, 3, none⟩ = some (.int .i64 oGrowBox3) := cell_later hb (by first | (with_reducible exact kwq3) | (with_reducible exact cell_al _ kwq3) | (with_reducible exact cell_al _ (cell_al _ kwq3)) | go_simp)
  replace jwq3 : w23.frozen? ⟨w15.heap.size, 3, none⟩ = false := by rw [(bcell hb).2 _ _ (by first | omega | (simp <;> omega))]; first | (with_reducible exact jwq3) | go_simp
  replace zs : w.heap.size < w23.heap.size := World.block_lt_of_cell? _ _ ks0
  replace zt : w.heap.size + 1 < w23.heap.size := World.block_lt_of_cell? _ _ kt0
  replace za : w.heap.size + 1 + 1 < w23.heap.size := World.block_lt_of_cell? _ _ ka0
  replace zb : w.heap.size + 1 + 1 + 1 < w23.heap.size := World.block_lt_of_cell? _ _ kb0
  replace zp : w.heap.size + 1 + 1 + 1 + 1 < w23.heap.size := World.block_lt_of_cell? _ _ kp0
  replace zx : w2.heap.size < w23.heap.size := World.block_lt_of_cell? _ _ kx0
  replace zyq : w3.heap.size < w23.heap.size := World.block_lt_of_cell? _ _ kyq0
  replace zv : w14.heap.size < w23.heap.size := World.block_lt_of_cell? _ _ kv0
  replace zwq : w15.heap.size < w23.heap.size := World.block_lt_of_cell? _ _ kwq0
  replace hb0 : Below w.heap.size w w23 := (by repeat (first | exact Below.refl _ _ | assumption | refine bstep ?_ (by assumption) | refine Below.drew ?_ | refine balloc ?_ _ | refine Below.setCell ?_ (by first | omega | (simp <;> omega)) _))
  clear hb
  go_wp2
  all_goals first | (exfalso; omega) | (go_ret; refine ret_bool ?_ (by repeat (first | exact Below.refl _ _ | assumption | refine bstep ?_ (by assumption) | refine Below.drew ?_ | refine balloc ?_ _ | refine Below.setCell ?_ (by first | omega | (simp <;> omega)) _)); first | (simp; done) | (simp <;> omega))


end Go.Proofs.Ytendnhmobhicmaa

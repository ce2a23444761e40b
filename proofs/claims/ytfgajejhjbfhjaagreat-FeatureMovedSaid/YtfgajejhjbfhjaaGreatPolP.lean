/- PolP: Box of package poly. -/
import Derived.Test.YtfgajejhjbfhjaaGreatPolO
import Derived.Test.YtfgajejhjbfhjaaGreatGe
import Derived.Test.YtfgajejhjbfhjaaGreatRows
import Derived.WalkKit
import Derived.WalkSpells
import Derived.WalkLawsBesides
import Derived.Lib.Hide
import Derived.Deep.QuietTactic
import Derived.BigQuiet
import Derived.RegionTactic
import Derived.ChangeAlike
import Derived.BigRegion
import Derived.Deep.RegionHeld3
import Derived.Deep.RegionWith
import Derived.Outline
import Derived.IntWalk
import Derived.LoopTactic
namespace Go.Proofs.YtfgajejhjbfhjaaGreat.Po
open Go.RowKit
set_option linter.unusedSimpArgs false
set_option linter.unusedVariables false

open Go.Proofs.YtfgajejhjbfhjaaGreat.Sp in
set_option maxHeartbeats 800000 in
theorem boxOf_c (p1 p2 : Int) (w : World) : Calls Tryz.prog 204 #[(.agg #[.int .i64 p1, .int .i64 p2])] w (Ret w (.agg #[(.int .i64 p1), (.int .i64 p1), (.int .i64 p2), (.int .i64 p2)])) := by
  go_enter Tryz.func204, Tryz.ntmps204
  go_wp2
  refine bodyPost_ret ?_ rfl ⟨rfl, (by repeat (first | with_reducible exact Below.refl _ _ | with_reducible assumption | with_reducible refine Below.setCell ?_ (by first | omega | (simp <;> omega)) _ | with_reducible refine balloc ?_ _ | with_reducible refine Below.drew ?_ | with_reducible refine bstep ?_ (by with_reducible assumption)))⟩
  simp [results, Tryz.results204, go_sem]

/-- The box of the first k places. -/
def bxL (l : List Pt) : Nat → (Int × Int) × (Int × Int)
  | 0 => (((gp l 0).1, (gp l 0).1), ((gp l 0).2, (gp l 0).2))
  | k + 1 => ((min (bxL l k).1.1 (gp l k).1, max (bxL l k).1.2 (gp l k).1), (min (bxL l k).2.1 (gp l k).2, max (bxL l k).2.2 (gp l k).2))
theorem bxL_ok {l : List Pt} (h : okL l = true) (k : Nat) : Sp.vB (bxL l k).1.1 (bxL l k).1.2 (bxL l k).2.1 (bxL l k).2.2 = true := by
  rw [Sp.vB_iff]
  induction k with
  | zero => have := okL_gp h 0; unfold okP ok at this; simp only [bxL]; omega
  | succ k ih => have := okL_gp h k; unfold okP ok at this; simp only [bxL]; omega

set_option maxRecDepth 100000 in
set_option maxHeartbeats 3200000 in
theorem Box_ok (v : Value) (l : List Pt) (w : World) (hp : Pts w v l) (hv : vaL l = true) :
    Calls Tryz.prog 200 #[v] w (Ret w (.tuple #[.agg #[(.int .i64 ((bxL l l.length).1.1)), (.int .i64 ((bxL l l.length).1.2)), (.int .i64 ((bxL l l.length).2.1)), (.int .i64 ((bxL l l.length).2.2))], (.int .i64 0)])) := by
  obtain ⟨a3, a24, aok, -⟩ := vaL_iff.1 hv
  obtain ⟨b, off, cap, rfl, hr⟩ := hp.row (vaL_len hv)
  have h0l := vaL_len hv
  have hbl := hr.lt h0l
  have HR := Lib.hid hr
  have HP := Lib.hid hp
  have HV := Lib.hid hv
  clear hr hp
  have y1 : (0 : Int) < (l.length : Int) := by omega
  go_enter Tryz.func200, Tryz.ntmps200
  go_wp2_with fail
  refine Calls.mono (Valid_c _ l _ (HP.out.below (by repeat (first | with_reducible exact Below.refl _ _ | with_reducible assumption | with_reducible refine Below.setCell ?_ (by first | omega | (simp <;> omega)) _ | with_reducible refine balloc ?_ _ | with_reducible refine Below.drew ?_ | with_reducible refine bstep ?_ (by with_reducible assumption))))) ?_
  rintro e w1 ⟨rfl, hb1⟩
  obtain ⟨hc1, hf1⟩ := bcell hb1
  have hs1 := hb1.size
  (try simp at hs1)
  have hB1 : Below w.heap.size w w1 := (by repeat (first | with_reducible exact Below.refl _ _ | with_reducible assumption | with_reducible refine Below.setCell ?_ (by first | omega | (simp <;> omega)) _ | with_reducible refine balloc ?_ _ | with_reducible refine Below.drew ?_ | with_reducible refine bstep ?_ (by with_reducible assumption)))
  have r0 : ∀ i, i < 4 → w1.cell? ⟨w.heap.size, i, none⟩ = some (.int .i64 0) := fun i hi => by
    rw [hc1 _ _ (by first | omega | (simp <;> omega))]
    match i, hi with
    | 0, _ => go_simp
    | 1, _ => go_simp
    | 2, _ => go_simp
    | 3, _ => go_simp
  have f0 : ∀ i, i < 4 → w1.frozen? ⟨w.heap.size, i, none⟩ = false := fun i hi => by rw [hf1 _ _ (by first | omega | (simp <;> omega))]; go_simp
  have HR0 := Lib.hid r0
  have HF0 := Lib.hid f0
  have zz : w.heap.size < w1.heap.size := by omega
  clear hc1 hf1 r0 f0 hb1
  obtain ⟨c1, c2⟩ := HR.out.below hbl hB1 0 h0l
  simp only [Nat.zero_mul, Nat.add_zero] at c1 c2
  go_wp2_with fail
  refine Calls.mono (boxOf_c _ _ _) ?_
  rintro e w2 ⟨rfl, hb2⟩
  have hs2 := hb2.size
  have hB2 : Below w.heap.size w w2 := bstep hB1 hb2
  have HB12 := Lib.hid hb2
  have zz2 : w.heap.size < w2.heap.size := by omega
  clear hb2 c1 c2
  have r0 : ∀ i, i < 4 → w2.cell? ⟨w.heap.size, i, none⟩ = some (.int .i64 0) := fun i hi => (HB12.out.cell (p := ⟨w.heap.size, i, none⟩) zz).trans (HR0.out i hi)
  have f0 : ∀ i, i < 4 → w2.frozen? ⟨w.heap.size, i, none⟩ = false := fun i hi => (HB12.out.frozen (p := ⟨w.heap.size, i, none⟩) zz).trans (HF0.out i hi)
  have rz0 := r0 0 (by omega)
  have rz1 := r0 1 (by omega)
  have rz2 := r0 2 (by omega)
  have rz3 := r0 3 (by omega)
  have fz0 := f0 0 (by omega)
  have fz1 := f0 1 (by omega)
  have fz2 := f0 2 (by omega)
  have fz3 := f0 3 (by omega)
  clear r0 f0 HR0 HF0
  obtain ⟨B, hBB⟩ : ∃ B, w2.heap.size = B := ⟨_, rfl⟩
  have HBB := Lib.hid hBB
  go_wp2_with fail
  go_loopw [17] (fun i wr => ∃ k : Nat, i = (.int .i64 k) ∧ k ≤ l.length ∧ (wr.cell? ⟨B, 0, none⟩ = some (.int .i64 ((bxL l k).1.1)) ∧ wr.cell? ⟨B, 1, none⟩ = some (.int .i64 ((bxL l k).1.2)) ∧ wr.cell? ⟨B, 2, none⟩ = some (.int .i64 ((bxL l k).2.1)) ∧ wr.cell? ⟨B, 3, none⟩ = some (.int .i64 ((bxL l k).2.2))) ∧ (wr.frozen? ⟨B, 0, none⟩ = false ∧ wr.frozen? ⟨B, 1, none⟩ = false ∧ wr.frozen? ⟨B, 2, none⟩ = false ∧ wr.frozen? ⟨B, 3, none⟩ = false) ∧ (wr.cell? ⟨w.heap.size, 0, none⟩ = some (.int .i64 0) ∧ wr.cell? ⟨w.heap.size, 1, none⟩ = some (.int .i64 0) ∧ wr.cell? ⟨w.heap.size, 2, none⟩ = some (.int .i64 0) ∧ wr.cell? ⟨w.heap.size, 3, none⟩ = some (.int .i64 0)) ∧ (wr.frozen? ⟨w.heap.size, 0, none⟩ = false ∧ wr.frozen? ⟨w.heap.size, 1, none⟩ = false ∧ wr.frozen? ⟨w.heap.size, 2, none⟩ = false ∧ wr.frozen? ⟨w.heap.size, 3, none⟩ = false) ∧ B < wr.heap.size ∧ Below w.heap.size w wr) (fun i _ => l.length - (intOf i).toNat)
  case atStart =>
    subst hBB
    refine ⟨0, rfl, by omega, ⟨?_, ?_, ?_, ?_⟩, ⟨?_, ?_, ?_, ?_⟩, ⟨?_, ?_, ?_, ?_⟩, ⟨?_, ?_, ?_, ?_⟩, by simp, (by repeat (first | with_reducible exact Below.refl _ _ | with_reducible assumption | with_reducible refine Below.setCell ?_ (by first | omega | (simp <;> omega)) _ | with_reducible refine balloc ?_ _ | with_reducible refine Below.drew ?_ | with_reducible refine bstep ?_ (by with_reducible assumption)))⟩
    all_goals first | (simp only [bxL]; go_simp; done) | go_simp
  case round =>
    obtain ⟨k, rfl, hk, ⟨b0, b1, b2, b3⟩, ⟨f0, f1, f2, f3⟩, ⟨r0, r1, r2, r3⟩, ⟨e0, e1, e2, e3⟩, hsz, hbel⟩ := hrel
    clear hBB rz0 rz1 rz2 rz3 fz0 fz1 fz2 fz3
    have hZB : w.heap.size < B := by rw [← HBB.out]; exact zz2
    have hZr : w.heap.size < wr.heap.size := by omega
    have nZ : w.heap.size ≠ B := by omega
    have nZ' : B ≠ w.heap.size := by omega
    by_cases hlt : k < l.length
    · obtain ⟨c1, c2⟩ := HR.out.below hbl hbel k hlt
      have hxo := bxL_ok aok k
      have hgo := okL_gp aok k
      have HX := Lib.hid (show bxL l (k + 1) = ((min (bxL l k).1.1 (gp l k).1, max (bxL l k).1.2 (gp l k).1), (min (bxL l k).2.1 (gp l k).2, max (bxL l k).2.2 (gp l k).2)) from rfl)
      generalize bxL l k = xx at *
      obtain ⟨⟨x1, x2⟩, x3, x4⟩ := xx
      generalize gp l k = gg at *
      obtain ⟨g1, g2⟩ := gg
      dsimp only at b0 b1 b2 b3 c1 c2 hxo hgo
      have HJ := Lib.hid (show Sp.vJoinBox x1 x2 x3 x4 g1 g1 g2 g2 = true by
        unfold okP ok at hgo
        unfold Sp.vJoinBox
        rw [hxo, Bool.true_and, Sp.vB_iff]
        dsimp only at hgo
        omega)
      clear hxo hgo
      go_wp2_with fail
      go_region_with (first | (go_at_call 204; refine Calls.mono (boxOf_c _ _ _) ?_; rintro e w3 ⟨rfl, hb3⟩; obtain ⟨hc3, hf3⟩ := bcell hb3; have hs3 := hb3.size; (try simp at hs3); have hB3 : Below w.heap.size w w3 := (by repeat (first | with_reducible exact Below.refl _ _ | with_reducible assumption | with_reducible refine Below.setCell ?_ (by first | omega | (simp <;> omega)) _ | with_reducible refine balloc ?_ _ | with_reducible refine Below.drew ?_ | with_reducible refine bstep ?_ (by with_reducible assumption))); have j3_0 := fun o => hc3 (wr.heap.size) o (by first | omega | (simp <;> omega)); have q3_0 := fun o => hf3 (wr.heap.size) o (by first | omega | (simp <;> omega)); have j3_1 := fun o => hc3 (B) o (by first | omega | (simp <;> omega)); have q3_1 := fun o => hf3 (B) o (by first | omega | (simp <;> omega)); have j3_2 := fun o => hc3 (w.heap.size) o (by first | omega | (simp <;> omega)); have q3_2 := fun o => hf3 (w.heap.size) o (by first | omega | (simp <;> omega)); have z3 : B < w3.heap.size := (by first | omega | (simp <;> omega)); have y3 : wr.heap.size < w3.heap.size := (by first | omega | (simp <;> omega)); have x3 : w.heap.size < w3.heap.size := (by first | omega | (simp <;> omega)); clear hc3 hf3 hb3) | (go_at_call 205; refine Calls.mono (Sp.JoinBox_c _ _ _ _ _ _ _ _ _) ?_; rw [HJ.out]; simp only [Sp.selI, Sp.erv, cond_true]; rintro e w4 ⟨rfl, hb4⟩; obtain ⟨hc4, hf4⟩ := bcell hb4; have hs4 := hb4.size; (try simp at hs4); have hB4 : Below w.heap.size w w4 := (by repeat (first | with_reducible exact Below.refl _ _ | with_reducible assumption | with_reducible refine Below.setCell ?_ (by first | omega | (simp <;> omega)) _ | with_reducible refine balloc ?_ _ | with_reducible refine Below.drew ?_ | with_reducible refine bstep ?_ (by with_reducible assumption))); have j4_0 := fun o => hc4 (wr.heap.size) o (by first | omega | (simp <;> omega)); have q4_0 := fun o => hf4 (wr.heap.size) o (by first | omega | (simp <;> omega)); have j4_1 := fun o => hc4 (B) o (by first | omega | (simp <;> omega)); have q4_1 := fun o => hf4 (B) o (by first | omega | (simp <;> omega)); have j4_2 := fun o => hc4 (w.heap.size) o (by first | omega | (simp <;> omega)); have q4_2 := fun o => hf4 (w.heap.size) o (by first | omega | (simp <;> omega)); have z4 : B < w4.heap.size := (by first | omega | (simp <;> omega)); have y4 : wr.heap.size < w4.heap.size := (by first | omega | (simp <;> omega)); have x4 : w.heap.size < w4.heap.size := (by first | omega | (simp <;> omega)); clear hc4 hf4 hb4))
      all_goals
        go_wp2
        go_roundw
        case rel =>
          refine ⟨k + 1, by go_num, by omega, ⟨?_, ?_, ?_, ?_⟩, ⟨?_, ?_, ?_, ?_⟩, ⟨?_, ?_, ?_, ?_⟩, ⟨?_, ?_, ?_, ?_⟩, by simp; omega, (by repeat (first | with_reducible exact Below.refl _ _ | with_reducible assumption | with_reducible refine Below.setCell ?_ (by first | omega | (simp <;> omega)) _ | with_reducible refine balloc ?_ _ | with_reducible refine Below.drew ?_ | with_reducible refine bstep ?_ (by with_reducible assumption)))⟩
          all_goals first | (rw [HX.out]; go_simp; done) | go_simp
        case measure => simp [intOf]; omega
    · obtain rfl : k = l.length := by omega
      generalize bxL l l.length = xx at *
      obtain ⟨⟨x1, x2⟩, x3, x4⟩ := xx
      dsimp only at b0 b1 b2 b3
      go_wp2
      refine bodyPost_ret ?_ rfl ⟨rfl, (by repeat (first | with_reducible exact Below.refl _ _ | with_reducible assumption | with_reducible refine Below.setCell ?_ (by first | omega | (simp <;> omega)) _ | with_reducible refine balloc ?_ _ | with_reducible refine Below.drew ?_ | with_reducible refine bstep ?_ (by with_reducible assumption)))⟩
      have p0 : wr.cell? ⟨w.heap.size, 0, none⟩ = some (.int .i64 0) := by go_simp
      have s0 : (wr.setCell ⟨w.heap.size, 0, none⟩ (.int .i64 x1)).cell? ⟨w.heap.size, 0, none⟩ = some (.int .i64 x1) := World.cell?_setCell_same' _ _ _ (by rw [p0]; rfl)
      have p1 : (wr.setCell ⟨w.heap.size, 0, none⟩ (.int .i64 x1)).cell? ⟨w.heap.size, 1, none⟩ = some (.int .i64 0) := by go_simp
      have s1 : ((wr.setCell ⟨w.heap.size, 0, none⟩ (.int .i64 x1)).setCell ⟨w.heap.size, 1, none⟩ (.int .i64 x2)).cell? ⟨w.heap.size, 1, none⟩ = some (.int .i64 x2) := World.cell?_setCell_same' _ _ _ (by rw [p1]; rfl)
      have p2 : ((wr.setCell ⟨w.heap.size, 0, none⟩ (.int .i64 x1)).setCell ⟨w.heap.size, 1, none⟩ (.int .i64 x2)).cell? ⟨w.heap.size, 2, none⟩ = some (.int .i64 0) := by go_simp
      have s2 : (((wr.setCell ⟨w.heap.size, 0, none⟩ (.int .i64 x1)).setCell ⟨w.heap.size, 1, none⟩ (.int .i64 x2)).setCell ⟨w.heap.size, 2, none⟩ (.int .i64 x3)).cell? ⟨w.heap.size, 2, none⟩ = some (.int .i64 x3) := World.cell?_setCell_same' _ _ _ (by rw [p2]; rfl)
      have p3 : (((wr.setCell ⟨w.heap.size, 0, none⟩ (.int .i64 x1)).setCell ⟨w.heap.size, 1, none⟩ (.int .i64 x2)).setCell ⟨w.heap.size, 2, none⟩ (.int .i64 x3)).cell? ⟨w.heap.size, 3, none⟩ = some (.int .i64 0) := by go_simp
      have s3 : ((((wr.setCell ⟨w.heap.size, 0, none⟩ (.int .i64 x1)).setCell ⟨w.heap.size, 1, none⟩ (.int .i64 x2)).setCell ⟨w.heap.size, 2, none⟩ (.int .i64 x3)).setCell ⟨w.heap.size, 3, none⟩ (.int .i64 x4)).cell? ⟨w.heap.size, 3, none⟩ = some (.int .i64 x4) := World.cell?_setCell_same' _ _ _ (by rw [p3]; rfl)
      simp [results, Tryz.results200, go_sem, s0, s1, s2, s3]


set_option maxRecDepth 100000 in
set_option maxHeartbeats 1600000 in
theorem Box_no (v : Value) (l : List Pt) (w : World) (hp : Pts w v l) (hv : vaL l = false) : Calls Tryz.prog 200 #[v] w (Ret w (.tuple #[.agg #[(.int .i64 0), (.int .i64 0), (.int .i64 0), (.int .i64 0)], (.int .i64 1)])) := by
  have HP := Lib.hid hp
  clear hp
  go_enter Tryz.func200, Tryz.ntmps200
  go_wp2_with fail
  refine Calls.mono (Valid_c _ l _ (HP.out.below (by repeat (first | with_reducible exact Below.refl _ _ | with_reducible assumption | with_reducible refine Below.setCell ?_ (by first | omega | (simp <;> omega)) _ | with_reducible refine balloc ?_ _ | with_reducible refine Below.drew ?_ | with_reducible refine bstep ?_ (by with_reducible assumption))))) ?_
  rintro e w2 ⟨rfl, hb2⟩
  obtain ⟨hc, hf⟩ := bcell hb2
  go_wp2
  refine bodyPost_ret ?_ rfl ⟨rfl, (by repeat (first | with_reducible exact Below.refl _ _ | with_reducible assumption | with_reducible refine Below.setCell ?_ (by first | omega | (simp <;> omega)) _ | with_reducible refine balloc ?_ _ | with_reducible refine Below.drew ?_ | with_reducible refine bstep ?_ (by with_reducible assumption)))⟩
  simp [results, Tryz.results200, go_sem, hc]

/-- The rectangle of a box. -/
def rcL (b1 b2 b3 b4 : Int) : List Pt := [(b1, b3), (b2, b3), (b2, b4), (b1, b4)]
def RectPost (w : World) (l : List Pt) (e : Ending) (w' : World) : Prop := ∃ g, e = .returned (.tuple #[.slice (some ⟨g, 0, none⟩) 4 4, (.int .i64 0)]) ∧ Row w' g 0 l ∧ w.heap.size ≤ g ∧ Below w.heap.size w w'
end Go.Proofs.YtfgajejhjbfhjaaGreat.Po

/- SecD: divisor. -/
import Derived.Test.YtpadkmlckmopfaaSecC
import Derived.Test.YtpadkmlckmopfaaRows
import Derived.WalkKit
import Derived.WalkSpells
import Derived.WalkLawsBesides
import Derived.Lib.Hide
import Derived.Deep.QuietTactic
import Derived.BigQuiet
import Derived.RegionTactic
import Derived.ChangeAlike
import Derived.BigRegion
import Derived.Deep.RegionHeld3
import Derived.Deep.RegionWith
import Derived.Outline
import Derived.IntWalk
import Derived.Deep.DeepCutAuto
import Derived.LoopTactic
namespace Go.Proofs.Ytpadkmlckmopfaa.Se
open Go.RowKit
set_option linter.unusedSimpArgs false
set_option linter.unusedVariables false

theorem gc_step (m n : Int) (h : n ≠ 0) : gcI n (Int.tmod m n) = gcI m n := by
  unfold gcI
  rw [Int.natAbs_tmod, Nat.gcd_comm m.natAbs n.natAbs, Nat.gcd_comm n.natAbs (m.natAbs % n.natAbs), ← Nat.gcd_rec]
theorem gc_zero (m : Int) : gcI m 0 = max m (-m) := by
  unfold gcI
  simp
  omega
theorem gc_pos {m n : Int} (h : ¬ (m = 0 ∧ n = 0)) : 0 < gcI m n := by
  unfold gcI
  have : 0 < Nat.gcd m.natAbs n.natAbs := by
    rw [Nat.pos_iff_ne_zero]
    intro h2
    rw [Nat.gcd_eq_zero_iff] at h2
    omega
  omega
theorem tmod_bd {m n : Int} {B : Int} (h1 : -B ≤ m) (h2 : m ≤ B) (h : n ≠ 0) : -B ≤ Int.tmod m n ∧ Int.tmod m n ≤ B ∧ (Int.tmod m n).natAbs < n.natAbs := by
  have e := Int.natAbs_tmod m n
  have l := Nat.mod_lt m.natAbs (y := n.natAbs) (by omega)
  have l2 := Nat.mod_le m.natAbs n.natAbs
  omega
theorem tdiv_bd {m n : Int} {B : Int} (h1 : -B ≤ m) (h2 : m ≤ B) : -B ≤ Int.tdiv m n ∧ Int.tdiv m n ≤ B := by
  have e : (Int.tdiv m n).natAbs = m.natAbs / n.natAbs := Int.natAbs_tdiv m n
  have l := Nat.div_le_self m.natAbs n.natAbs
  generalize m.natAbs / n.natAbs = q at *
  generalize Int.tdiv m n = t at *
  omega

set_option maxRecDepth 20000 in
set_option maxHeartbeats 800000 in
theorem divisor_c (m0 n0 : Int) (w : World) (hm : -1000000 ≤ m0 ∧ m0 ≤ 1000000) (hn : -1000000 ≤ n0 ∧ n0 ≤ 1000000) : Calls Try.prog 79 #[(.int .i64 m0), (.int .i64 n0)] w fun e w' => e = .returned (.int .i64 (gcI m0 n0)) ∧ Below w.heap.size w w' := by
  obtain ⟨G, hG⟩ : ∃ G, gcI m0 n0 = G := ⟨_, rfl⟩
  rw [hG]
  have HG := Lib.hid hG
  clear hG
  go_enter Try.func79, Try.ntmps79
  go_wp2
  go_loopw [0, 1] (fun s0 s1 wr => ∃ m n : Int, s0 = (.int .i64 m) ∧ s1 = (.int .i64 n) ∧ (-1000000 ≤ m ∧ m ≤ 1000000) ∧ (-1000000 ≤ n ∧ n ≤ 1000000) ∧ Hid (gcI m n = G) ∧ Below w.heap.size w wr) (fun _ s1 _ => (intOf s1).natAbs)
  case atStart => exact ⟨m0, n0, rfl, rfl, hm, hn, HG, Below.refl _ _⟩
  case round =>
    obtain ⟨m, n, rfl, rfl, ⟨hm1, hm2⟩, ⟨hn1, hn2⟩, HP, hbel⟩ := hrel
    by_cases h0 : n = 0
    · subst h0
      have HQ := Lib.hid (gc_zero m)
      go_wp2
      all_goals
        go_ret
        refine ⟨?_, by first | exact hbel | exact hbel.drew⟩
        refine congrArg (fun x => Ending.returned (.int .i64 x)) ?_
        rw [← HP.out, HQ.out]
        omega
    · have HS := Lib.hid (gc_step m n h0)
      obtain ⟨b1, b2, b3⟩ := tmod_bd hm1 hm2 h0
      have x1 : IntKind.i64.wrap (Int.tmod m n) = Int.tmod m n := IntWalk.i64_in _ (by omega)
      generalize hT : Int.tmod m n = t at *
      have HT := Lib.hid hT
      clear hT
      go_wp2_with fail
      go_region
      all_goals
        go_wp2
        go_roundw
        case rel => exact ⟨n, t, rfl, by first | rfl | simp [HT.out], ⟨hn1, hn2⟩, ⟨b1, b2⟩, Lib.hid (HS.out.trans HP.out), by first | exact hbel | exact hbel.drew⟩
        case measure => simp [intOf, HT.out]; omega

theorem gc_dvd1 (m n : Int) : gcI m n ∣ m := by unfold gcI; exact Int.ofNat_dvd_left.2 (Nat.gcd_dvd_left _ _)
theorem gc_dvd2 (m n : Int) : gcI m n ∣ n := by unfold gcI; exact Int.ofNat_dvd_left.2 (Nat.gcd_dvd_right _ _)
set_option maxRecDepth 20000 in
set_option maxHeartbeats 800000 in
theorem least_c (d1 d2 : Int) (w : World) (h : okD (d1, d2) = true) : Calls Try.prog 69 #[(.agg #[.int .i64 d1, .int .i64 d2])] w fun e w' => e = .returned (.agg #[(.int .i64 ((leV (d1, d2)).1)), (.int .i64 ((leV (d1, d2)).2))]) ∧ Below w.heap.size w w' := by
  obtain ⟨h0, ⟨h1, h2⟩, h3, h4⟩ := okD_iff.1 h
  dsimp only at h1 h2 h3 h4
  have hp : 0 < gcI d1 d2 := gc_pos (fun h => h0 (Prod.ext h.1 h.2))
  obtain ⟨b1, b2⟩ := tdiv_bd (n := gcI d1 d2) h1 h2
  obtain ⟨b3, b4⟩ := tdiv_bd (n := gcI d1 d2) h3 h4
  have C1 : ∀ w, Calls Try.prog 79 #[(.int .i64 d1), (.int .i64 d2)] w fun e w' => e = .returned (.int .i64 (gcI d1 d2)) ∧ Below w.heap.size w w' := fun w => divisor_c d1 d2 w ⟨h1, h2⟩ ⟨h3, h4⟩
  unfold leV
  dsimp only
  clear h h0
  generalize gcI d1 d2 = g at *
  have x1 : IntKind.i64.wrap (Int.tdiv d1 g) = Int.tdiv d1 g := IntWalk.i64_in _ (by omega)
  have x2 : IntKind.i64.wrap (Int.tdiv d2 g) = Int.tdiv d2 g := IntWalk.i64_in _ (by omega)
  have g0 : g ≠ 0 := by omega
  go_enter Try.func69, Try.ntmps69
  go_wp2_with fail
  refine Calls.mono (C1 _) ?_
  rintro e w1 ⟨rfl, hb⟩
  have kd0 : w1.cell? ⟨w.heap.size, 0, none⟩ = some (.int .i64 d1) := cell_later hb (by go_simp)
  have kd1 : w1.cell? ⟨w.heap.size, 1, none⟩ = some (.int .i64 d2) := cell_later hb (by go_simp)
  have kr0 : w1.cell? ⟨w.heap.size + 1, 0, none⟩ = some (.int .i64 0) := cell_later hb (by go_simp)
  have jr0 : w1.frozen? ⟨w.heap.size + 1, 0, none⟩ = false := by rw [(bcell hb).2 _ _ (by first | omega | (simp <;> omega))]; go_simp
  have kr1 : w1.cell? ⟨w.heap.size + 1, 1, none⟩ = some (.int .i64 0) := cell_later hb (by go_simp)
  have jr1 : w1.frozen? ⟨w.heap.size + 1, 1, none⟩ = false := by rw [(bcell hb).2 _ _ (by first | omega | (simp <;> omega))]; go_simp
  have zd : w.heap.size < w1.heap.size := World.block_lt_of_cell? _ _ kd0
  have zd_w1 := zd
  have zr : w.heap.size + 1 < w1.heap.size := World.block_lt_of_cell? _ _ kr0
  have zr_w1 := zr
  have hb0 : Below w.heap.size w w1 := (by repeat (first | with_reducible exact Below.refl _ _ | with_reducible assumption | with_reducible refine Below.setCell ?_ (by first | omega | (simp <;> omega)) _ | with_reducible refine balloc ?_ _ | with_reducible refine Below.drew ?_ | with_reducible refine bstep ?_ (by with_reducible assumption)))
  have hs_w1 := hb.size; (try simp only [World.size_alloc, World.size_setCell] at hs_w1)
  clear hb
  go_wp2_with fail
  go_region
  all_goals
    go_wp2
    refine bodyPost_ret ?_ rfl ⟨rfl, (by repeat (first | with_reducible exact Below.refl _ _ | with_reducible assumption | with_reducible refine Below.setCell ?_ (by first | omega | (simp <;> omega)) _ | with_reducible refine balloc ?_ _ | with_reducible refine Below.drew ?_ | with_reducible refine bstep ?_ (by with_reducible assumption)))⟩
    simp [results, Try.results69, go_sem, kr0, kr1]


end Go.Proofs.Ytpadkmlckmopfaa.Se

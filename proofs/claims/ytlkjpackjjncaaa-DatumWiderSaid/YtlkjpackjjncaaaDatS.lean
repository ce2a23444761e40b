/- DatS: how wrong rows are. -/
import Derived.Test.YtlkjpackjjncaaaDatC
import Derived.Test.YtlkjpackjjncaaaRows
import Derived.WalkKit
import Derived.WalkSpells
import Derived.WalkLawsBesides
import Derived.Lib.Hide
import Derived.Deep.QuietTactic
import Derived.BigQuiet
import Derived.RegionTactic
import Derived.ChangeAlike
import Derived.BigRegion
import Derived.Deep.RegionHeld3
import Derived.Deep.RegionWith
import Derived.Outline
import Derived.Laws.EntriesVeiled
import Derived.Deep.DeepCutAuto
import Derived.IntWalk
namespace Go.Proofs.Ytlkjpackjjncaaa.Da
open Go.RowKit Sp
set_option linter.unusedSimpArgs false
set_option linter.unusedVariables false

theorem fldU (w : World) : Sem.run Try.prog (Instr.field 84 (.agg #[.func (.func 73) #[] #[], .func (.func 74) #[] #[], .func (.func 75) #[] #[]]) 1) w = .ok (.func (.func 74) #[] #[]) w := by kernel_rfl
theorem fldN (w : World) : Sem.run Try.prog (Instr.field 84 (.agg #[.func (.func 73) #[] #[], .func (.func 74) #[] #[], .func (.func 75) #[] #[]]) 2) w = .ok (.func (.func 75) #[] #[]) w := by kernel_rfl
theorem fldA (m1 m2 m3 m4 m5 m6 m7 : Int) (w : World) : Sem.run Try.prog (Instr.field 58 (.agg #[(.int .i64 m1), (.int .i64 m2), (.int .i64 m3), (.int .i64 m4), (.int .i64 m5), (.int .i64 m6), (.int .i64 m7)]) 0) w = .ok (.agg #[(.int .i64 m1), (.int .i64 m2), (.int .i64 m3), (.int .i64 m4), (.int .i64 m5), (.int .i64 m6)]) w := by first | kernel_rfl | rfl
set_option maxRecDepth 20000 in
set_option maxHeartbeats 3200000 in
theorem spread_c (m1 m2 m3 m4 m5 m6 n k : Int) (w : World) (hm1 : -10000000 ≤ m1 ∧ m1 ≤ 10000000) (hm2 : -10000000 ≤ m2 ∧ m2 ≤ 10000000) (hm4 : -10000000 ≤ m4 ∧ m4 ≤ 10000000) (hm5 : -10000000 ≤ m5 ∧ m5 ≤ 10000000) (hn : 0 ≤ n ∧ n ≤ 1000) (hk : 0 ≤ k ∧ k ≤ 1) : Calls Try.prog 71 #[(.agg #[(.int .i64 m1), (.int .i64 m2), (.int .i64 m3), (.int .i64 m4), (.int .i64 m5), (.int .i64 m6)]), (.int .i64 n), (.int .i64 k)] w (Ret w (.int .i64 (upd (max (max m1 (-m1) + max m2 (-m2) + k) (max m4 (-m4) + max m5 (-m5) + k) * n) 1000000))) := by
  obtain ⟨a, ha⟩ : ∃ a, max m1 (-m1) + max m2 (-m2) + k = a := ⟨_, rfl⟩
  obtain ⟨c, hc_⟩ : ∃ c, max m4 (-m4) + max m5 (-m5) + k = c := ⟨_, rfl⟩
  have ba : 0 ≤ a ∧ a ≤ 20000001 := by omega
  have bc : 0 ≤ c ∧ c ≤ 20000001 := by omega
  have C1 := fun w => both_weight m1 m2 m3 m4 m5 m6 k w hm1 hm2 hm4 hm5 hk
  rw [ha, hc_] at C1 ⊢
  clear ha hc_
  have mba := mul_bd (a := a) (b := n) (A := 20000001) (B := 1000) (by omega) (by omega) (by omega) (by omega)
  have mbc := mul_bd (a := c) (b := n) (A := 20000001) (B := 1000) (by omega) (by omega) (by omega) (by omega)
  have e1 : IntKind.i64.wrap (a * n) = a * n := IntWalk.i64_in _ (by omega)
  have e2 : IntKind.i64.wrap (c * n) = c * n := IntWalk.i64_in _ (by omega)
  have e3 := IntWalk.wrap64_in (a * n) (by omega)
  have e4 := IntWalk.wrap64_in (c * n) (by omega)
  rcases Int.le_total a c with hle | hle
  · have e : max a c = c := by omega
    rw [e]
    have hfd := fun w => fldU w
    go_enter Try.func71, Try.ntmps71
    go_wp2_with fail
    refine Calls.mono (C1 _) ?_
    rintro e w1 ⟨rfl, hb⟩
    have km0 : w1.cell? ⟨w.heap.size, 0, none⟩ = some (.int .i64 m1) := cell_later hb (by go_simp)
    have km1 : w1.cell? ⟨w.heap.size, 1, none⟩ = some (.int .i64 m2) := cell_later hb (by go_simp)
    have km2 : w1.cell? ⟨w.heap.size, 2, none⟩ = some (.int .i64 m3) := cell_later hb (by go_simp)
    have km3 : w1.cell? ⟨w.heap.size, 3, none⟩ = some (.int .i64 m4) := cell_later hb (by go_simp)
    have km4 : w1.cell? ⟨w.heap.size, 4, none⟩ = some (.int .i64 m5) := cell_later hb (by go_simp)
    have km5 : w1.cell? ⟨w.heap.size, 5, none⟩ = some (.int .i64 m6) := cell_later hb (by go_simp)
    have zm : w.heap.size < w1.heap.size := World.block_lt_of_cell? _ _ km0
    have hb0 : Below w.heap.size w w1 := (by repeat (first | with_reducible exact Below.refl _ _ | with_reducible assumption | with_reducible refine Below.setCell ?_ (by first | omega | (simp <;> omega)) _ | with_reducible refine balloc ?_ _ | with_reducible refine Below.drew ?_ | with_reducible refine bstep ?_ (by with_reducible assumption)))
    clear hb
    go_wp2_with fail
    refine Calls.mono (ways_c _) ?_
    rintro e w2 ⟨rfl, hb⟩
    replace km0 := cell_later hb km0
    replace km1 := cell_later hb km1
    replace km2 := cell_later hb km2
    replace km3 := cell_later hb km3
    replace km4 := cell_later hb km4
    replace km5 := cell_later hb km5
    replace zm : w.heap.size < w2.heap.size := World.block_lt_of_cell? _ _ km0
    replace hb0 : Below w.heap.size w w2 := (by repeat (first | with_reducible exact Below.refl _ _ | with_reducible assumption | with_reducible refine Below.setCell ?_ (by first | omega | (simp <;> omega)) _ | with_reducible refine balloc ?_ _ | with_reducible refine Below.drew ?_ | with_reducible refine bstep ?_ (by with_reducible assumption)))
    clear hb
    go_wp2_with (go_at_call 74; refine Calls.mono (up_c _ _ _ (by omega) (by omega) (by omega)) ?_; rintro e wy ⟨rfl, rfl⟩)
    all_goals first | (exfalso; omega) | skip
    all_goals
      go_ret
      refine ret_int ?_ (by repeat (first | with_reducible exact Below.refl _ _ | with_reducible assumption | with_reducible refine Below.setCell ?_ (by first | omega | (simp <;> omega)) _ | with_reducible refine balloc ?_ _ | with_reducible refine Below.drew ?_ | with_reducible refine bstep ?_ (by with_reducible assumption)))
      first | rfl | (have hac : a = c := (by omega); subst hac; rfl)
  · have e : max a c = a := by omega
    rw [e]
    have hfd := fun w => fldU w
    go_enter Try.func71, Try.ntmps71
    go_wp2_with fail
    refine Calls.mono (C1 _) ?_
    rintro e w1 ⟨rfl, hb⟩
    have km0 : w1.cell? ⟨w.heap.size, 0, none⟩ = some (.int .i64 m1) := cell_later hb (by go_simp)
    have km1 : w1.cell? ⟨w.heap.size, 1, none⟩ = some (.int .i64 m2) := cell_later hb (by go_simp)
    have km2 : w1.cell? ⟨w.heap.size, 2, none⟩ = some (.int .i64 m3) := cell_later hb (by go_simp)
    have km3 : w1.cell? ⟨w.heap.size, 3, none⟩ = some (.int .i64 m4) := cell_later hb (by go_simp)
    have km4 : w1.cell? ⟨w.heap.size, 4, none⟩ = some (.int .i64 m5) := cell_later hb (by go_simp)
    have km5 : w1.cell? ⟨w.heap.size, 5, none⟩ = some (.int .i64 m6) := cell_later hb (by go_simp)
    have zm : w.heap.size < w1.heap.size := World.block_lt_of_cell? _ _ km0
    have hb0 : Below w.heap.size w w1 := (by repeat (first | with_reducible exact Below.refl _ _ | with_reducible assumption | with_reducible refine Below.setCell ?_ (by first | omega | (simp <;> omega)) _ | with_reducible refine balloc ?_ _ | with_reducible refine Below.drew ?_ | with_reducible refine bstep ?_ (by with_reducible assumption)))
    clear hb
    go_wp2_with fail
    refine Calls.mono (ways_c _) ?_
    rintro e w2 ⟨rfl, hb⟩
    replace km0 := cell_later hb km0
    replace km1 := cell_later hb km1
    replace km2 := cell_later hb km2
    replace km3 := cell_later hb km3
    replace km4 := cell_later hb km4
    replace km5 := cell_later hb km5
    replace zm : w.heap.size < w2.heap.size := World.block_lt_of_cell? _ _ km0
    replace hb0 : Below w.heap.size w w2 := (by repeat (first | with_reducible exact Below.refl _ _ | with_reducible assumption | with_reducible refine Below.setCell ?_ (by first | omega | (simp <;> omega)) _ | with_reducible refine balloc ?_ _ | with_reducible refine Below.drew ?_ | with_reducible refine bstep ?_ (by with_reducible assumption)))
    clear hb
    go_wp2_with (go_at_call 74; refine Calls.mono (up_c _ _ _ (by omega) (by omega) (by omega)) ?_; rintro e wy ⟨rfl, rfl⟩)
    all_goals first | (exfalso; omega) | skip
    all_goals
      go_ret
      refine ret_int ?_ (by repeat (first | with_reducible exact Below.refl _ _ | with_reducible assumption | with_reducible refine Below.setCell ?_ (by first | omega | (simp <;> omega)) _ | with_reducible refine balloc ?_ _ | with_reducible refine Below.drew ?_ | with_reducible refine bstep ?_ (by with_reducible assumption)))
      first | rfl | (have hac : a = c := (by omega); subst hac; rfl)


end Go.Proofs.Ytlkjpackjjncaaa.Da

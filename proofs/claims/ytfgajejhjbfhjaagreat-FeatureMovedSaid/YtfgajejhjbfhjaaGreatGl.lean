/- FeaM: features in plain words. -/
import Derived.Test.YtfgajejhjbfhjaaGreatPlaneM
import Derived.Test.YtfgajejhjbfhjaaGreatBase
import Derived.Test.YtfgajejhjbfhjaaGreatRows
import Derived.WalkKit
import Derived.WalkSpells
import Derived.WalkLawsBesides
import Derived.Lib.Hide
import Derived.Deep.QuietTactic
import Derived.BigQuiet
import Derived.RegionTactic
import Derived.ChangeAlike
import Derived.BigRegion
import Derived.Deep.RegionHeld3
import Derived.Deep.RegionWith
import Derived.Outline
import Derived.IntWalk
import Derived.Deep.DeepCutAuto
import Derived.Test.YtfgajejhjbfhjaaGreatPlaneI
import Derived.Test.YtfgajejhjbfhjaaGreatPolO
import Derived.Test.YtfgajejhjbfhjaaGreatSecU
import Derived.LoopTactic
import Derived.Test.YtfgajejhjbfhjaaGreatPolP
section
namespace Go.Proofs.YtfgajejhjbfhjaaGreat.Fe
open Go.RowKit
set_option linter.unusedVariables false

def bt (n a b : Int) : Bool := decide (a ≤ n) && decide (n ≤ b)
theorem bt_iff {n a b : Int} : bt n a b = true ↔ a ≤ n ∧ n ≤ b := by simp [bt]
/-- A disc stays within the places. -/
def limB (x y r : Int) : Bool := okB (wrap64 (x - r)) (wrap64 (y - r)) && okB (wrap64 (x + r)) (wrap64 (y + r))
end Go.Proofs.YtfgajejhjbfhjaaGreat.Fe
end

section
namespace Go.Proofs.YtfgajejhjbfhjaaGreat.Fe
open Go.RowKit
set_option linter.unusedSimpArgs false
set_option linter.unusedVariables false

set_option maxHeartbeats 400000 in
theorem bt_c (n a b : Int) (w : World) : Calls Tryz.prog 55 #[(.int .i64 n), (.int .i64 a), (.int .i64 b)] w (Same w (.bool (bt n a b))) := by
  go_enter Tryz.func55, Tryz.ntmps55
  go_wp2
  all_goals
    go_ret
    refine same_bool ?_
    simp [bt] <;> omega

set_option maxHeartbeats 400000 in
theorem dbox_c (d1 d2 d3 : Int) (w : World)  : Calls Tryz.prog 138 #[(.agg #[(.int .i64 d1), (.int .i64 d2), (.int .i64 d3)])] w (Ret w (.agg #[(.int .i64 (wrap64 (d1 - d3))), (.int .i64 (wrap64 (d1 + d3))), (.int .i64 (wrap64 (d2 - d3))), (.int .i64 (wrap64 (d2 + d3)))])) := by
  go_enter Tryz.func138, Tryz.ntmps138
  go_wp2
  all_goals
    refine bodyPost_ret ?_ rfl ⟨rfl, (by repeat (first | with_reducible exact Below.refl _ _ | with_reducible assumption | with_reducible refine Below.setCell ?_ (by first | omega | (simp <;> omega)) _ | with_reducible refine balloc ?_ _ | with_reducible refine Below.drew ?_ | with_reducible refine bstep ?_ (by with_reducible assumption)))⟩
    simp [results, Tryz.results138, go_sem]

set_option maxHeartbeats 400000 in
theorem lcovers_c (l1 l2 p1 p2 : Int) (ls : Value) (w : World)  : Calls Tryz.prog 132 #[(.agg #[(.int .i64 l1), (.int .i64 l2), ls]), (.agg #[(.int .i64 p1), (.int .i64 p2)])] w (Ret w (.bool false)) := by
  go_enter Tryz.func132, Tryz.ntmps132
  go_wp2
  all_goals
    go_ret
    exact ⟨rfl, (by repeat (first | with_reducible exact Below.refl _ _ | with_reducible assumption | with_reducible refine Below.setCell ?_ (by first | omega | (simp <;> omega)) _ | with_reducible refine balloc ?_ _ | with_reducible refine Below.drew ?_ | with_reducible refine bstep ?_ (by with_reducible assumption)))⟩

set_option maxHeartbeats 400000 in
theorem lholdsDisc_c (l1 l2 d1 d2 d3 : Int) (ls : Value) (w : World)  : Calls Tryz.prog 133 #[(.agg #[(.int .i64 l1), (.int .i64 l2), ls]), (.agg #[(.int .i64 d1), (.int .i64 d2), (.int .i64 d3)])] w (Ret w (.bool false)) := by
  go_enter Tryz.func133, Tryz.ntmps133
  go_wp2
  all_goals
    go_ret
    exact ⟨rfl, (by repeat (first | with_reducible exact Below.refl _ _ | with_reducible assumption | with_reducible refine Below.setCell ?_ (by first | omega | (simp <;> omega)) _ | with_reducible refine balloc ?_ _ | with_reducible refine Below.drew ?_ | with_reducible refine bstep ?_ (by with_reducible assumption)))⟩

set_option maxHeartbeats 400000 in
theorem ltouchesDisc_c (l1 l2 d1 d2 d3 : Int) (ls : Value) (w : World)  : Calls Tryz.prog 136 #[(.agg #[(.int .i64 l1), (.int .i64 l2), ls]), (.agg #[(.int .i64 d1), (.int .i64 d2), (.int .i64 d3)])] w (Ret w (.bool false)) := by
  go_enter Tryz.func136, Tryz.ntmps136
  go_wp2
  all_goals
    go_ret
    exact ⟨rfl, (by repeat (first | with_reducible exact Below.refl _ _ | with_reducible assumption | with_reducible refine Below.setCell ?_ (by first | omega | (simp <;> omega)) _ | with_reducible refine balloc ?_ _ | with_reducible refine Below.drew ?_ | with_reducible refine bstep ?_ (by with_reducible assumption)))⟩

set_option maxHeartbeats 400000 in
theorem lholdsPolygon_c (l1 l2 : Int) (ls a : Value) (w : World)  : Calls Tryz.prog 134 #[(.agg #[(.int .i64 l1), (.int .i64 l2), ls]), a] w (Ret w (.bool false)) := by
  go_enter Tryz.func134, Tryz.ntmps134
  go_wp2
  all_goals
    go_ret
    exact ⟨rfl, (by repeat (first | with_reducible exact Below.refl _ _ | with_reducible assumption | with_reducible refine Below.setCell ?_ (by first | omega | (simp <;> omega)) _ | with_reducible refine balloc ?_ _ | with_reducible refine Below.drew ?_ | with_reducible refine bstep ?_ (by with_reducible assumption)))⟩

set_option maxHeartbeats 400000 in
theorem ltouchesPolygon_c (l1 l2 : Int) (ls a : Value) (w : World)  : Calls Tryz.prog 137 #[(.agg #[(.int .i64 l1), (.int .i64 l2), ls]), a] w (Ret w (.bool false)) := by
  go_enter Tryz.func137, Tryz.ntmps137
  go_wp2
  all_goals
    go_ret
    exact ⟨rfl, (by repeat (first | with_reducible exact Below.refl _ _ | with_reducible assumption | with_reducible refine Below.setCell ?_ (by first | omega | (simp <;> omega)) _ | with_reducible refine balloc ?_ _ | with_reducible refine Below.drew ?_ | with_reducible refine bstep ?_ (by with_reducible assumption)))⟩


end Go.Proofs.YtfgajejhjbfhjaaGreat.Fe
end

section
namespace Go.Proofs.YtfgajejhjbfhjaaGreat.Fe
open Go.RowKit
set_option linter.unusedSimpArgs false
set_option linter.unusedVariables false

set_option maxRecDepth 100000 in
set_option maxHeartbeats 1600000 in
theorem within_c (d1 d2 d3 : Int) (w : World) : Calls Tryz.prog 142 #[(.agg #[(.int .i64 d1), (.int .i64 d2), (.int .i64 d3)])] w (Ret w (.bool (limB d1 d2 d3))) := by
  have C := fun w => dbox_c d1 d2 d3 w
  unfold limB
  generalize wrap64 (d1 - d3) = x1 at *
  generalize wrap64 (d1 + d3) = x2 at *
  generalize wrap64 (d2 - d3) = x3 at *
  generalize wrap64 (d2 + d3) = x4 at *
  go_enter Tryz.func142, Tryz.ntmps142
  go_wp2_with fail
  refine Calls.mono (C _) ?_
  rintro e w1 ⟨rfl, hb1⟩
  clear C
  rcases Bool.eq_false_or_eq_true (okB x1 x3) with v1 | v1
  all_goals
    go_wp2_with (first | (go_at_call 44; refine Calls.mono (valid_c _ _ _) ?_; rintro e w2 ⟨rfl, hb2⟩; obtain ⟨hc1, hf1⟩ := bcell hb2; have hsz := hb2.size; (try simp at hsz); have g0 := fun o => hc1 (w1.heap.size) o (by first | omega | (simp <;> omega)); clear hc1 hf1))
    all_goals
      go_ret
      refine ret_bool ?_ (by repeat (first | with_reducible exact Below.refl _ _ | with_reducible assumption | with_reducible refine Below.setCell ?_ (by first | omega | (simp <;> omega)) _ | with_reducible refine balloc ?_ _ | with_reducible refine Below.drew ?_ | with_reducible refine bstep ?_ (by with_reducible assumption)))
      simp [v1]

set_option maxHeartbeats 400000 in
theorem reaches_c (d1 d2 d3 p1 p2 n : Int) (w : World) (hp : ok p1 p2) (hd : ok d1 d2) (h3 : 0 ≤ d3 ∧ d3 ≤ 100000) (hn : 0 ≤ n ∧ n ≤ 100000) : Calls Tryz.prog 146 #[(.agg #[(.int .i64 d1), (.int .i64 d2), (.int .i64 d3)]), (.agg #[(.int .i64 p1), (.int .i64 p2)]), (.int .i64 n)] w (Ret w (.bool (nearB p1 p2 d1 d2 d1 d2 (d3 + n)))) := by
  obtain ⟨g1, g2⟩ := h3
  obtain ⟨g3, g4⟩ := hn
  have hs : okd (d3 + n) := by unfold okd; omega
  generalize hq : d3 + n = q at hs
  have hq2 : wrap64 (d3 + n) = q := by rw [hq]; unfold okd at hs; exact IntWalk.wrap64_in _ (by omega)
  go_enter Tryz.func146, Tryz.ntmps146
  go_simp
  go_wp2_with fail
  refine Calls.mono (Near_ok _ _ _ _ _ _ _ _ hp hd hd hs) ?_
  rintro e w1 ⟨rfl, hbW⟩
  have hc := (bcell hbW).1
  have hf := (bcell hbW).2
  go_wp2
  all_goals
    refine bodyPost_ret ?_ rfl ⟨rfl, (by repeat (first | with_reducible exact Below.refl _ _ | with_reducible assumption | with_reducible refine Below.setCell ?_ (by first | omega | (simp <;> omega)) _ | with_reducible refine balloc ?_ _ | with_reducible refine Below.drew ?_ | with_reducible refine bstep ?_ (by with_reducible assumption)))⟩
    simp [results, Tryz.results146, go_sem, hc]


end Go.Proofs.YtfgajejhjbfhjaaGreat.Fe
end

section
namespace Go.Proofs.YtfgajejhjbfhjaaGreat.Fe
open Go.RowKit
set_option linter.unusedSimpArgs false
set_option linter.unusedVariables false

set_option maxRecDepth 100000 in
set_option maxHeartbeats 1600000 in
theorem dsuits_c (d1 d2 d3 : Int) (f1 f2 f3 f4 f5 f6 f7 : Int) (pa ps : Option Addr) (na ca ns cs : Nat) (w : World)  : Calls Tryz.prog 143 #[(.agg #[(.int .i64 d1), (.int .i64 d2), (.int .i64 d3)]), (.agg #[(.int .i64 f1), (.int .i64 f2), (.int .i64 f3), (.int .i64 f4), (.int .i64 f5), .slice pa na ca, (.int .i64 f6), (.int .i64 f7), .slice ps ns cs])] w (Ret w (.bool (bt d3 0 100000 && limB d1 d2 d3 && bt f6 0 100000 && decide (na = 0) && decide (ns = 0)))) := by
  rcases Bool.eq_false_or_eq_true (bt d3 0 100000) with v1 | v1
  · rcases Bool.eq_false_or_eq_true (limB d1 d2 d3) with v2 | v2
    · rcases Bool.eq_false_or_eq_true (bt f6 0 100000) with v3 | v3
      · rcases Nat.eq_zero_or_pos na with v4 | v4
        · subst v4
          rcases Nat.eq_zero_or_pos ns with v5 | v5
          · subst v5
            go_enter Tryz.func143, Tryz.ntmps143
            go_wp2_with (first | (go_at_call 142; refine Calls.mono (within_c _ _ _ _) ?_; rintro e w2 ⟨rfl, hb2⟩; obtain ⟨hc1, hf1⟩ := bcell hb2; have hsz := hb2.size; (try simp at hsz); have gs0 : w.heap.size < w2.heap.size := (by first | omega | (simp <;> omega)); have g0 := fun o => hc1 (w.heap.size) o (by first | omega | (simp <;> omega)); have gs1 : w.heap.size + 1 < w2.heap.size := (by first | omega | (simp <;> omega)); have g1 := fun o => hc1 (w.heap.size + 1) o (by first | omega | (simp <;> omega)); clear hc1 hf1 hsz) | (go_at_call 55; refine Calls.mono (bt_c _ _ _ _) ?_; rintro e wx ⟨rfl, rfl⟩))
            all_goals
              go_ret
              refine ret_bool ?_ (by repeat (first | with_reducible exact Below.refl _ _ | with_reducible assumption | with_reducible refine Below.setCell ?_ (by first | omega | (simp <;> omega)) _ | with_reducible refine balloc ?_ _ | with_reducible refine Below.drew ?_ | with_reducible refine bstep ?_ (by with_reducible assumption)))
              simp [v1, v2, v3]
          · have v52 : ((ns : Int) == 0) = false := by rw [beq_eq_false_iff_ne]; omega
            have v53 : decide (ns = 0) = false := by rw [decide_eq_false_iff_not]; omega
            go_enter Tryz.func143, Tryz.ntmps143
            go_wp2_with (first | (go_at_call 142; refine Calls.mono (within_c _ _ _ _) ?_; rintro e w2 ⟨rfl, hb2⟩; obtain ⟨hc1, hf1⟩ := bcell hb2; have hsz := hb2.size; (try simp at hsz); have gs0 : w.heap.size < w2.heap.size := (by first | omega | (simp <;> omega)); have g0 := fun o => hc1 (w.heap.size) o (by first | omega | (simp <;> omega)); have gs1 : w.heap.size + 1 < w2.heap.size := (by first | omega | (simp <;> omega)); have g1 := fun o => hc1 (w.heap.size + 1) o (by first | omega | (simp <;> omega)); clear hc1 hf1 hsz) | (go_at_call 55; refine Calls.mono (bt_c _ _ _ _) ?_; rintro e wx ⟨rfl, rfl⟩))
            all_goals
              go_ret
              refine ret_bool ?_ (by repeat (first | with_reducible exact Below.refl _ _ | with_reducible assumption | with_reducible refine Below.setCell ?_ (by first | omega | (simp <;> omega)) _ | with_reducible refine balloc ?_ _ | with_reducible refine Below.drew ?_ | with_reducible refine bstep ?_ (by with_reducible assumption)))
              simp [v1, v2, v3, v52, v53]
        · have v42 : ((na : Int) == 0) = false := by rw [beq_eq_false_iff_ne]; omega
          have v43 : decide (na = 0) = false := by rw [decide_eq_false_iff_not]; omega
          go_enter Tryz.func143, Tryz.ntmps143
          go_wp2_with (first | (go_at_call 142; refine Calls.mono (within_c _ _ _ _) ?_; rintro e w2 ⟨rfl, hb2⟩; obtain ⟨hc1, hf1⟩ := bcell hb2; have hsz := hb2.size; (try simp at hsz); have gs0 : w.heap.size < w2.heap.size := (by first | omega | (simp <;> omega)); have g0 := fun o => hc1 (w.heap.size) o (by first | omega | (simp <;> omega)); have gs1 : w.heap.size + 1 < w2.heap.size := (by first | omega | (simp <;> omega)); have g1 := fun o => hc1 (w.heap.size + 1) o (by first | omega | (simp <;> omega)); clear hc1 hf1 hsz) | (go_at_call 55; refine Calls.mono (bt_c _ _ _ _) ?_; rintro e wx ⟨rfl, rfl⟩))
          all_goals
            go_ret
            refine ret_bool ?_ (by repeat (first | with_reducible exact Below.refl _ _ | with_reducible assumption | with_reducible refine Below.setCell ?_ (by first | omega | (simp <;> omega)) _ | with_reducible refine balloc ?_ _ | with_reducible refine Below.drew ?_ | with_reducible refine bstep ?_ (by with_reducible assumption)))
            simp [v1, v2, v3, v42, v43]
      · go_enter Tryz.func143, Tryz.ntmps143
        go_wp2_with (first | (go_at_call 142; refine Calls.mono (within_c _ _ _ _) ?_; rintro e w2 ⟨rfl, hb2⟩; obtain ⟨hc1, hf1⟩ := bcell hb2; have hsz := hb2.size; (try simp at hsz); have gs0 : w.heap.size < w2.heap.size := (by first | omega | (simp <;> omega)); have g0 := fun o => hc1 (w.heap.size) o (by first | omega | (simp <;> omega)); have gs1 : w.heap.size + 1 < w2.heap.size := (by first | omega | (simp <;> omega)); have g1 := fun o => hc1 (w.heap.size + 1) o (by first | omega | (simp <;> omega)); clear hc1 hf1 hsz) | (go_at_call 55; refine Calls.mono (bt_c _ _ _ _) ?_; rintro e wx ⟨rfl, rfl⟩))
        all_goals
          go_ret
          refine ret_bool ?_ (by repeat (first | with_reducible exact Below.refl _ _ | with_reducible assumption | with_reducible refine Below.setCell ?_ (by first | omega | (simp <;> omega)) _ | with_reducible refine balloc ?_ _ | with_reducible refine Below.drew ?_ | with_reducible refine bstep ?_ (by with_reducible assumption)))
          simp [v1, v2, v3]
    · go_enter Tryz.func143, Tryz.ntmps143
      go_wp2_with (first | (go_at_call 142; refine Calls.mono (within_c _ _ _ _) ?_; rintro e w2 ⟨rfl, hb2⟩; obtain ⟨hc1, hf1⟩ := bcell hb2; have hsz := hb2.size; (try simp at hsz); have gs0 : w.heap.size < w2.heap.size := (by first | omega | (simp <;> omega)); have g0 := fun o => hc1 (w.heap.size) o (by first | omega | (simp <;> omega)); have gs1 : w.heap.size + 1 < w2.heap.size := (by first | omega | (simp <;> omega)); have g1 := fun o => hc1 (w.heap.size + 1) o (by first | omega | (simp <;> omega)); clear hc1 hf1 hsz) | (go_at_call 55; refine Calls.mono (bt_c _ _ _ _) ?_; rintro e wx ⟨rfl, rfl⟩))
      all_goals
        go_ret
        refine ret_bool ?_ (by repeat (first | with_reducible exact Below.refl _ _ | with_reducible assumption | with_reducible refine Below.setCell ?_ (by first | omega | (simp <;> omega)) _ | with_reducible refine balloc ?_ _ | with_reducible refine Below.drew ?_ | with_reducible refine bstep ?_ (by with_reducible assumption)))
        simp [v1, v2]
  · go_enter Tryz.func143, Tryz.ntmps143
    go_wp2_with (first | (go_at_call 142; refine Calls.mono (within_c _ _ _ _) ?_; rintro e w2 ⟨rfl, hb2⟩; obtain ⟨hc1, hf1⟩ := bcell hb2; have hsz := hb2.size; (try simp at hsz); have gs0 : w.heap.size < w2.heap.size := (by first | omega | (simp <;> omega)); have g0 := fun o => hc1 (w.heap.size) o (by first | omega | (simp <;> omega)); have gs1 : w.heap.size + 1 < w2.heap.size := (by first | omega | (simp <;> omega)); have g1 := fun o => hc1 (w.heap.size + 1) o (by first | omega | (simp <;> omega)); clear hc1 hf1 hsz) | (go_at_call 55; refine Calls.mono (bt_c _ _ _ _) ?_; rintro e wx ⟨rfl, rfl⟩))
    all_goals
      go_ret
      refine ret_bool ?_ (by repeat (first | with_reducible exact Below.refl _ _ | with_reducible assumption | with_reducible refine Below.setCell ?_ (by first | omega | (simp <;> omega)) _ | with_reducible refine balloc ?_ _ | with_reducible refine Below.drew ?_ | with_reducible refine bstep ?_ (by with_reducible assumption)))
      simp [v1]

end Go.Proofs.YtfgajejhjbfhjaaGreat.Fe
end

section
namespace Go.Proofs.YtfgajejhjbfhjaaGreat.Fe
open Go.RowKit
set_option linter.unusedSimpArgs false
set_option linter.unusedVariables false

theorem md_dsuits (x y r : Int) (k : Nat) (w : World) : (method (k + 1) 81 (.agg #[(.int .i64 x), (.int .i64 y), (.int .i64 r)]) "seamark/feature.suits").run Tryz.prog w = .ok (143, (.agg #[(.int .i64 x), (.int .i64 y), (.int .i64 r)])) w := by kernel_rfl
theorem md_dbox (x y r : Int) (k : Nat) (w : World) : (method (k + 1) 81 (.agg #[(.int .i64 x), (.int .i64 y), (.int .i64 r)]) "seamark/feature.box").run Tryz.prog w = .ok (138, (.agg #[(.int .i64 x), (.int .i64 y), (.int .i64 r)])) w := by kernel_rfl
theorem md_dcovers (x y r : Int) (k : Nat) (w : World) : (method (k + 1) 81 (.agg #[(.int .i64 x), (.int .i64 y), (.int .i64 r)]) "seamark/feature.covers").run Tryz.prog w = .ok (139, (.agg #[(.int .i64 x), (.int .i64 y), (.int .i64 r)])) w := by kernel_rfl
theorem md_dholdsDisc (x y r : Int) (k : Nat) (w : World) : (method (k + 1) 81 (.agg #[(.int .i64 x), (.int .i64 y), (.int .i64 r)]) "seamark/feature.holdsDisc").run Tryz.prog w = .ok (140, (.agg #[(.int .i64 x), (.int .i64 y), (.int .i64 r)])) w := by kernel_rfl
theorem md_dholdsPolygon (x y r : Int) (k : Nat) (w : World) : (method (k + 1) 81 (.agg #[(.int .i64 x), (.int .i64 y), (.int .i64 r)]) "seamark/feature.holdsPolygon").run Tryz.prog w = .ok (141, (.agg #[(.int .i64 x), (.int .i64 y), (.int .i64 r)])) w := by kernel_rfl
theorem md_dtouchesDisc (x y r : Int) (k : Nat) (w : World) : (method (k + 1) 81 (.agg #[(.int .i64 x), (.int .i64 y), (.int .i64 r)]) "seamark/feature.touchesDisc").run Tryz.prog w = .ok (144, (.agg #[(.int .i64 x), (.int .i64 y), (.int .i64 r)])) w := by kernel_rfl
theorem md_dtouchesPolygon (x y r : Int) (k : Nat) (w : World) : (method (k + 1) 81 (.agg #[(.int .i64 x), (.int .i64 y), (.int .i64 r)]) "seamark/feature.touchesPolygon").run Tryz.prog w = .ok (145, (.agg #[(.int .i64 x), (.int .i64 y), (.int .i64 r)])) w := by kernel_rfl

set_option maxRecDepth 100000 in
set_option maxHeartbeats 1600000 in
theorem shd_c (f1 f2 f3 f4 f5 f6 f7 : Int) (pa ps : Option Addr) (na ca ns cs : Nat) (w : World) (hk : f2 = 1 ∨ f2 = 2 ∨ f2 = 5) : Calls Tryz.prog 33 #[(.agg #[(.int .i64 f1), (.int .i64 f2), (.int .i64 f3), (.int .i64 f4), (.int .i64 f5), .slice pa na ca, (.int .i64 f6), (.int .i64 f7), .slice ps ns cs])] w (Ret w (.tuple #[.iface 81 (.agg #[(.int .i64 f3), (.int .i64 f4), (.int .i64 f5)]), (.bool (bt f1 1 100000 && bt f7 0 999 && (bt f5 0 100000 && limB f3 f4 f5 && bt f6 0 100000 && decide (na = 0) && decide (ns = 0))))])) := by
  have C := fun W => dsuits_c f3 f4 f5 f1 f2 f3 f4 f5 f6 f7 pa ps na ca ns cs W
  have M := fun k W => md_dsuits f3 f4 f5 k W
  generalize hr : (bt f5 0 100000 && limB f3 f4 f5 && bt f6 0 100000 && decide (na = 0) && decide (ns = 0)) = r at *
  clear hr
  rcases Bool.eq_false_or_eq_true (bt f1 1 100000) with v1 | v1
  · rcases Bool.eq_false_or_eq_true (bt f7 0 999) with v2 | v2
    · rcases hk with rfl | rfl | rfl
      all_goals
        go_enter Tryz.func33, Tryz.ntmps33
        go_wp2_with (first | (go_at_call 143; refine Calls.mono (C _) ?_; rintro e w2 ⟨rfl, hb2⟩) | (go_at_call 55; refine Calls.mono (bt_c _ _ _ _) ?_; rintro e wx ⟨rfl, rfl⟩))
        (try clear M)
        go_ret2
        refine ⟨?_, (by repeat (first | with_reducible exact Below.refl _ _ | with_reducible assumption | with_reducible refine Below.setCell ?_ (by first | omega | (simp <;> omega)) _ | with_reducible refine balloc ?_ _ | with_reducible refine Below.drew ?_ | with_reducible refine bstep ?_ (by with_reducible assumption)))⟩
        simp [v1, v2]
    · rcases hk with rfl | rfl | rfl
      all_goals
        go_enter Tryz.func33, Tryz.ntmps33
        go_wp2_with (first | (go_at_call 143; refine Calls.mono (C _) ?_; rintro e w2 ⟨rfl, hb2⟩) | (go_at_call 55; refine Calls.mono (bt_c _ _ _ _) ?_; rintro e wx ⟨rfl, rfl⟩))
        (try clear M)
        go_ret2
        refine ⟨?_, (by repeat (first | with_reducible exact Below.refl _ _ | with_reducible assumption | with_reducible refine Below.setCell ?_ (by first | omega | (simp <;> omega)) _ | with_reducible refine balloc ?_ _ | with_reducible refine Below.drew ?_ | with_reducible refine bstep ?_ (by with_reducible assumption)))⟩
        simp [v1, v2]
  · rcases hk with rfl | rfl | rfl
    all_goals
      go_enter Tryz.func33, Tryz.ntmps33
      go_wp2_with (first | (go_at_call 143; refine Calls.mono (C _) ?_; rintro e w2 ⟨rfl, hb2⟩) | (go_at_call 55; refine Calls.mono (bt_c _ _ _ _) ?_; rintro e wx ⟨rfl, rfl⟩))
      (try clear M)
      go_ret2
      refine ⟨?_, (by repeat (first | with_reducible exact Below.refl _ _ | with_reducible assumption | with_reducible refine Below.setCell ?_ (by first | omega | (simp <;> omega)) _ | with_reducible refine balloc ?_ _ | with_reducible refine Below.drew ?_ | with_reducible refine bstep ?_ (by with_reducible assumption)))⟩
      simp [v1]


end Go.Proofs.YtfgajejhjbfhjaaGreat.Fe
end

section
namespace Go.Proofs.YtfgajejhjbfhjaaGreat.Fe
open Go.RowKit
set_option linter.unusedSimpArgs false
set_option linter.unusedVariables false

set_option maxRecDepth 100000 in
set_option maxHeartbeats 1600000 in
theorem psuits_c (v : Value) (l : List Po.Pt) (f1 f2 f3 f4 f5 f6 f7 : Int) (pa ps : Option Addr) (na ca ns cs : Nat) (w : World) (hp : Po.Pts w v l) : Calls Tryz.prog 198 #[v, (.agg #[(.int .i64 f1), (.int .i64 f2), (.int .i64 f3), (.int .i64 f4), (.int .i64 f5), .slice pa na ca, (.int .i64 f6), (.int .i64 f7), .slice ps ns cs])] w (Ret w (.bool (Po.vaL l && bt f6 0 (if f2 = 6 then 0 else 100000) && (decide (f3 = 0) && decide (f4 = 0)) && decide (f5 = 0) && decide (ns = 0)))) := by
  have HP := Lib.hid hp
  clear hp
  have hm : ∃ m : Int, (if f2 = 6 then 0 else 100000) = m := ⟨_, rfl⟩
  obtain ⟨m, hm⟩ := hm
  rw [hm]
  have hk : (f2 = 6 ∧ m = 0) ∨ ((f2 == 6) = false ∧ m = 100000) := by
    rw [beq_eq_false_iff_ne]; split at hm <;> omega
  clear hm
  rcases Bool.eq_false_or_eq_true (Po.vaL l) with v1 | v1
  · rcases Bool.eq_false_or_eq_true (bt f6 0 m) with v2 | v2
    · rcases Decidable.em (f3 = 0) with v3 | v3
      · subst v3
        rcases Decidable.em (f4 = 0) with v4 | v4
        · subst v4
          rcases Decidable.em (f5 = 0) with v5 | v5
          · subst v5
            rcases Nat.eq_zero_or_pos ns with v6 | v6
            · subst v6
              rcases hk with ⟨rfl, rfl⟩ | ⟨hk, rfl⟩
              all_goals
                go_enter Tryz.func198, Tryz.ntmps198
                go_wp2_with (first | (go_at_call 159; refine Calls.mono (Po.Valid_c _ l _ (HP.out.below (by repeat (first | with_reducible exact Below.refl _ _ | with_reducible assumption | with_reducible refine Below.setCell ?_ (by first | omega | (simp <;> omega)) _ | with_reducible refine balloc ?_ _ | with_reducible refine Below.drew ?_ | with_reducible refine bstep ?_ (by with_reducible assumption))))) ?_; rintro e w2 ⟨rfl, hb2⟩; obtain ⟨hc1, hf1⟩ := bcell hb2; have hsz := hb2.size; (try simp at hsz); have gs0 : w.heap.size < w2.heap.size := (by first | omega | (simp <;> omega)); have g0 := fun o => hc1 (w.heap.size) o (by first | omega | (simp <;> omega)); clear hc1 hf1 hsz) | (go_at_call 55; refine Calls.mono (bt_c _ _ _ _) ?_; rintro e wx ⟨rfl, rfl⟩))
                all_goals
                  go_ret
                  refine ret_bool ?_ (by repeat (first | with_reducible exact Below.refl _ _ | with_reducible assumption | with_reducible refine Below.setCell ?_ (by first | omega | (simp <;> omega)) _ | with_reducible refine balloc ?_ _ | with_reducible refine Below.drew ?_ | with_reducible refine bstep ?_ (by with_reducible assumption)))
                  simp [v1, v2]
            · have v62 : ((ns : Int) == 0) = false := by rw [beq_eq_false_iff_ne]; omega
              have v63 : decide (ns = 0) = false := by rw [decide_eq_false_iff_not]; omega
              rcases hk with ⟨rfl, rfl⟩ | ⟨hk, rfl⟩
              all_goals
                go_enter Tryz.func198, Tryz.ntmps198
                go_wp2_with (first | (go_at_call 159; refine Calls.mono (Po.Valid_c _ l _ (HP.out.below (by repeat (first | with_reducible exact Below.refl _ _ | with_reducible assumption | with_reducible refine Below.setCell ?_ (by first | omega | (simp <;> omega)) _ | with_reducible refine balloc ?_ _ | with_reducible refine Below.drew ?_ | with_reducible refine bstep ?_ (by with_reducible assumption))))) ?_; rintro e w2 ⟨rfl, hb2⟩; obtain ⟨hc1, hf1⟩ := bcell hb2; have hsz := hb2.size; (try simp at hsz); have gs0 : w.heap.size < w2.heap.size := (by first | omega | (simp <;> omega)); have g0 := fun o => hc1 (w.heap.size) o (by first | omega | (simp <;> omega)); clear hc1 hf1 hsz) | (go_at_call 55; refine Calls.mono (bt_c _ _ _ _) ?_; rintro e wx ⟨rfl, rfl⟩))
                all_goals
                  go_ret
                  refine ret_bool ?_ (by repeat (first | with_reducible exact Below.refl _ _ | with_reducible assumption | with_reducible refine Below.setCell ?_ (by first | omega | (simp <;> omega)) _ | with_reducible refine balloc ?_ _ | with_reducible refine Below.drew ?_ | with_reducible refine bstep ?_ (by with_reducible assumption)))
                  simp [v1, v2, v62, v63]
          · have v52 : (f5 == 0) = false := by rw [beq_eq_false_iff_ne]; omega
            have v53 : decide (f5 = 0) = false := by rw [decide_eq_false_iff_not]; omega
            rcases hk with ⟨rfl, rfl⟩ | ⟨hk, rfl⟩
            all_goals
              go_enter Tryz.func198, Tryz.ntmps198
              go_wp2_with (first | (go_at_call 159; refine Calls.mono (Po.Valid_c _ l _ (HP.out.below (by repeat (first | with_reducible exact Below.refl _ _ | with_reducible assumption | with_reducible refine Below.setCell ?_ (by first | omega | (simp <;> omega)) _ | with_reducible refine balloc ?_ _ | with_reducible refine Below.drew ?_ | with_reducible refine bstep ?_ (by with_reducible assumption))))) ?_; rintro e w2 ⟨rfl, hb2⟩; obtain ⟨hc1, hf1⟩ := bcell hb2; have hsz := hb2.size; (try simp at hsz); have gs0 : w.heap.size < w2.heap.size := (by first | omega | (simp <;> omega)); have g0 := fun o => hc1 (w.heap.size) o (by first | omega | (simp <;> omega)); clear hc1 hf1 hsz) | (go_at_call 55; refine Calls.mono (bt_c _ _ _ _) ?_; rintro e wx ⟨rfl, rfl⟩))
              all_goals
                go_ret
                refine ret_bool ?_ (by repeat (first | with_reducible exact Below.refl _ _ | with_reducible assumption | with_reducible refine Below.setCell ?_ (by first | omega | (simp <;> omega)) _ | with_reducible refine balloc ?_ _ | with_reducible refine Below.drew ?_ | with_reducible refine bstep ?_ (by with_reducible assumption)))
                simp [v1, v2, v52, v53]
        · have v42 : (f4 == 0) = false := by rw [beq_eq_false_iff_ne]; omega
          have v43 : decide (f4 = 0) = false := by rw [decide_eq_false_iff_not]; omega
          rcases hk with ⟨rfl, rfl⟩ | ⟨hk, rfl⟩
          all_goals
            go_enter Tryz.func198, Tryz.ntmps198
            go_wp2_with (first | (go_at_call 159; refine Calls.mono (Po.Valid_c _ l _ (HP.out.below (by repeat (first | with_reducible exact Below.refl _ _ | with_reducible assumption | with_reducible refine Below.setCell ?_ (by first | omega | (simp <;> omega)) _ | with_reducible refine balloc ?_ _ | with_reducible refine Below.drew ?_ | with_reducible refine bstep ?_ (by with_reducible assumption))))) ?_; rintro e w2 ⟨rfl, hb2⟩; obtain ⟨hc1, hf1⟩ := bcell hb2; have hsz := hb2.size; (try simp at hsz); have gs0 : w.heap.size < w2.heap.size := (by first | omega | (simp <;> omega)); have g0 := fun o => hc1 (w.heap.size) o (by first | omega | (simp <;> omega)); clear hc1 hf1 hsz) | (go_at_call 55; refine Calls.mono (bt_c _ _ _ _) ?_; rintro e wx ⟨rfl, rfl⟩))
            all_goals
              go_ret
              refine ret_bool ?_ (by repeat (first | with_reducible exact Below.refl _ _ | with_reducible assumption | with_reducible refine Below.setCell ?_ (by first | omega | (simp <;> omega)) _ | with_reducible refine balloc ?_ _ | with_reducible refine Below.drew ?_ | with_reducible refine bstep ?_ (by with_reducible assumption)))
              simp [v1, v2, v42, v43]
      · have v32 : (f3 == 0) = false := by rw [beq_eq_false_iff_ne]; omega
        have v33 : decide (f3 = 0) = false := by rw [decide_eq_false_iff_not]; omega
        rcases hk with ⟨rfl, rfl⟩ | ⟨hk, rfl⟩
        all_goals
          go_enter Tryz.func198, Tryz.ntmps198
          go_wp2_with (first | (go_at_call 159; refine Calls.mono (Po.Valid_c _ l _ (HP.out.below (by repeat (first | with_reducible exact Below.refl _ _ | with_reducible assumption | with_reducible refine Below.setCell ?_ (by first | omega | (simp <;> omega)) _ | with_reducible refine balloc ?_ _ | with_reducible refine Below.drew ?_ | with_reducible refine bstep ?_ (by with_reducible assumption))))) ?_; rintro e w2 ⟨rfl, hb2⟩; obtain ⟨hc1, hf1⟩ := bcell hb2; have hsz := hb2.size; (try simp at hsz); have gs0 : w.heap.size < w2.heap.size := (by first | omega | (simp <;> omega)); have g0 := fun o => hc1 (w.heap.size) o (by first | omega | (simp <;> omega)); clear hc1 hf1 hsz) | (go_at_call 55; refine Calls.mono (bt_c _ _ _ _) ?_; rintro e wx ⟨rfl, rfl⟩))
          all_goals
            go_ret
            refine ret_bool ?_ (by repeat (first | with_reducible exact Below.refl _ _ | with_reducible assumption | with_reducible refine Below.setCell ?_ (by first | omega | (simp <;> omega)) _ | with_reducible refine balloc ?_ _ | with_reducible refine Below.drew ?_ | with_reducible refine bstep ?_ (by with_reducible assumption)))
            simp [v1, v2, v32, v33]
    · rcases hk with ⟨rfl, rfl⟩ | ⟨hk, rfl⟩
      all_goals
        go_enter Tryz.func198, Tryz.ntmps198
        go_wp2_with (first | (go_at_call 159; refine Calls.mono (Po.Valid_c _ l _ (HP.out.below (by repeat (first | with_reducible exact Below.refl _ _ | with_reducible assumption | with_reducible refine Below.setCell ?_ (by first | omega | (simp <;> omega)) _ | with_reducible refine balloc ?_ _ | with_reducible refine Below.drew ?_ | with_reducible refine bstep ?_ (by with_reducible assumption))))) ?_; rintro e w2 ⟨rfl, hb2⟩; obtain ⟨hc1, hf1⟩ := bcell hb2; have hsz := hb2.size; (try simp at hsz); have gs0 : w.heap.size < w2.heap.size := (by first | omega | (simp <;> omega)); have g0 := fun o => hc1 (w.heap.size) o (by first | omega | (simp <;> omega)); clear hc1 hf1 hsz) | (go_at_call 55; refine Calls.mono (bt_c _ _ _ _) ?_; rintro e wx ⟨rfl, rfl⟩))
        all_goals
          go_ret
          refine ret_bool ?_ (by repeat (first | with_reducible exact Below.refl _ _ | with_reducible assumption | with_reducible refine Below.setCell ?_ (by first | omega | (simp <;> omega)) _ | with_reducible refine balloc ?_ _ | with_reducible refine Below.drew ?_ | with_reducible refine bstep ?_ (by with_reducible assumption)))
          simp [v1, v2]
  · rcases hk with ⟨rfl, rfl⟩ | ⟨hk, rfl⟩
    all_goals
      go_enter Tryz.func198, Tryz.ntmps198
      go_wp2_with (first | (go_at_call 159; refine Calls.mono (Po.Valid_c _ l _ (HP.out.below (by repeat (first | with_reducible exact Below.refl _ _ | with_reducible assumption | with_reducible refine Below.setCell ?_ (by first | omega | (simp <;> omega)) _ | with_reducible refine balloc ?_ _ | with_reducible refine Below.drew ?_ | with_reducible refine bstep ?_ (by with_reducible assumption))))) ?_; rintro e w2 ⟨rfl, hb2⟩; obtain ⟨hc1, hf1⟩ := bcell hb2; have hsz := hb2.size; (try simp at hsz); have gs0 : w.heap.size < w2.heap.size := (by first | omega | (simp <;> omega)); have g0 := fun o => hc1 (w.heap.size) o (by first | omega | (simp <;> omega)); clear hc1 hf1 hsz) | (go_at_call 55; refine Calls.mono (bt_c _ _ _ _) ?_; rintro e wx ⟨rfl, rfl⟩))
      all_goals
        go_ret
        refine ret_bool ?_ (by repeat (first | with_reducible exact Below.refl _ _ | with_reducible assumption | with_reducible refine Below.setCell ?_ (by first | omega | (simp <;> omega)) _ | with_reducible refine balloc ?_ _ | with_reducible refine Below.drew ?_ | with_reducible refine bstep ?_ (by with_reducible assumption)))
        simp [v1]

end Go.Proofs.YtfgajejhjbfhjaaGreat.Fe
end

section
namespace Go.Proofs.YtfgajejhjbfhjaaGreat.Fe
open Go.RowKit
set_option linter.unusedSimpArgs false
set_option linter.unusedVariables false

theorem md_psuits (a : Option Addr) (n c : Nat) (k : Nat) (w : World) : (method (k + 1) 82 (.slice a n c) "seamark/feature.suits").run Tryz.prog w = .ok (198, (.slice a n c)) w := by kernel_rfl
theorem md_pbox (a : Option Addr) (n c : Nat) (k : Nat) (w : World) : (method (k + 1) 82 (.slice a n c) "seamark/feature.box").run Tryz.prog w = .ok (194, (.slice a n c)) w := by kernel_rfl
theorem md_pcovers (a : Option Addr) (n c : Nat) (k : Nat) (w : World) : (method (k + 1) 82 (.slice a n c) "seamark/feature.covers").run Tryz.prog w = .ok (195, (.slice a n c)) w := by kernel_rfl
theorem md_pholdsDisc (a : Option Addr) (n c : Nat) (k : Nat) (w : World) : (method (k + 1) 82 (.slice a n c) "seamark/feature.holdsDisc").run Tryz.prog w = .ok (196, (.slice a n c)) w := by kernel_rfl
theorem md_pholdsPolygon (a : Option Addr) (n c : Nat) (k : Nat) (w : World) : (method (k + 1) 82 (.slice a n c) "seamark/feature.holdsPolygon").run Tryz.prog w = .ok (197, (.slice a n c)) w := by kernel_rfl
theorem md_ptouchesDisc (a : Option Addr) (n c : Nat) (k : Nat) (w : World) : (method (k + 1) 82 (.slice a n c) "seamark/feature.touchesDisc").run Tryz.prog w = .ok (150, (.slice a n c)) w := by kernel_rfl
theorem md_ptouchesPolygon (a : Option Addr) (n c : Nat) (k : Nat) (w : World) : (method (k + 1) 82 (.slice a n c) "seamark/feature.touchesPolygon").run Tryz.prog w = .ok (199, (.slice a n c)) w := by kernel_rfl

set_option maxRecDepth 100000 in
set_option maxHeartbeats 1600000 in
theorem shp_c (f1 f2 f3 f4 f5 f6 f7 : Int) (pa ps : Option Addr) (na ca ns cs : Nat) (l : List Po.Pt) (w : World) (hp : Po.Pts w (.slice pa na ca) l) (hk : f2 = 3 ∨ f2 = 6) : Calls Tryz.prog 33 #[(.agg #[(.int .i64 f1), (.int .i64 f2), (.int .i64 f3), (.int .i64 f4), (.int .i64 f5), .slice pa na ca, (.int .i64 f6), (.int .i64 f7), .slice ps ns cs])] w (Ret w (.tuple #[.iface 82 (.slice pa na ca), (.bool (bt f1 1 100000 && bt f7 0 999 && (Po.vaL l && bt f6 0 (if f2 = 6 then 0 else 100000) && (decide (f3 = 0) && decide (f4 = 0)) && decide (f5 = 0) && decide (ns = 0))))])) := by
  have C := fun W h => psuits_c (.slice pa na ca) l f1 f2 f3 f4 f5 f6 f7 pa ps na ca ns cs W h
  have HP := Lib.hid hp
  clear hp
  have M := fun k W => md_psuits pa na ca k W
  generalize hr : (Po.vaL l && bt f6 0 (if f2 = 6 then 0 else 100000) && (decide (f3 = 0) && decide (f4 = 0)) && decide (f5 = 0) && decide (ns = 0)) = r at *
  clear hr
  rcases Bool.eq_false_or_eq_true (bt f1 1 100000) with v1 | v1
  · rcases Bool.eq_false_or_eq_true (bt f7 0 999) with v2 | v2
    · rcases hk with rfl | rfl
      all_goals
        go_enter Tryz.func33, Tryz.ntmps33
        go_wp2_with (first | (go_at_call 198; refine Calls.mono (C _ (HP.out.below (by repeat (first | with_reducible exact Below.refl _ _ | with_reducible assumption | with_reducible refine Below.setCell ?_ (by first | omega | (simp <;> omega)) _ | with_reducible refine balloc ?_ _ | with_reducible refine Below.drew ?_ | with_reducible refine bstep ?_ (by with_reducible assumption))))) ?_; rintro e w2 ⟨rfl, hb2⟩) | (go_at_call 55; refine Calls.mono (bt_c _ _ _ _) ?_; rintro e wx ⟨rfl, rfl⟩))
        (try clear M)
        go_ret2
        refine ⟨?_, (by repeat (first | with_reducible exact Below.refl _ _ | with_reducible assumption | with_reducible refine Below.setCell ?_ (by first | omega | (simp <;> omega)) _ | with_reducible refine balloc ?_ _ | with_reducible refine Below.drew ?_ | with_reducible refine bstep ?_ (by with_reducible assumption)))⟩
        simp [v1, v2]
    · rcases hk with rfl | rfl
      all_goals
        go_enter Tryz.func33, Tryz.ntmps33
        go_wp2_with (first | (go_at_call 198; refine Calls.mono (C _ (HP.out.below (by repeat (first | with_reducible exact Below.refl _ _ | with_reducible assumption | with_reducible refine Below.setCell ?_ (by first | omega | (simp <;> omega)) _ | with_reducible refine balloc ?_ _ | with_reducible refine Below.drew ?_ | with_reducible refine bstep ?_ (by with_reducible assumption))))) ?_; rintro e w2 ⟨rfl, hb2⟩) | (go_at_call 55; refine Calls.mono (bt_c _ _ _ _) ?_; rintro e wx ⟨rfl, rfl⟩))
        (try clear M)
        go_ret2
        refine ⟨?_, (by repeat (first | with_reducible exact Below.refl _ _ | with_reducible assumption | with_reducible refine Below.setCell ?_ (by first | omega | (simp <;> omega)) _ | with_reducible refine balloc ?_ _ | with_reducible refine Below.drew ?_ | with_reducible refine bstep ?_ (by with_reducible assumption)))⟩
        simp [v1, v2]
  · rcases hk with rfl | rfl
    all_goals
      go_enter Tryz.func33, Tryz.ntmps33
      go_wp2_with (first | (go_at_call 198; refine Calls.mono (C _ (HP.out.below (by repeat (first | with_reducible exact Below.refl _ _ | with_reducible assumption | with_reducible refine Below.setCell ?_ (by first | omega | (simp <;> omega)) _ | with_reducible refine balloc ?_ _ | with_reducible refine Below.drew ?_ | with_reducible refine bstep ?_ (by with_reducible assumption))))) ?_; rintro e w2 ⟨rfl, hb2⟩) | (go_at_call 55; refine Calls.mono (bt_c _ _ _ _) ?_; rintro e wx ⟨rfl, rfl⟩))
      (try clear M)
      go_ret2
      refine ⟨?_, (by repeat (first | with_reducible exact Below.refl _ _ | with_reducible assumption | with_reducible refine Below.setCell ?_ (by first | omega | (simp <;> omega)) _ | with_reducible refine balloc ?_ _ | with_reducible refine Below.drew ?_ | with_reducible refine bstep ?_ (by with_reducible assumption)))⟩
      simp [v1]


end Go.Proofs.YtfgajejhjbfhjaaGreat.Fe
end

section
namespace Go.Proofs.YtfgajejhjbfhjaaGreat.Fe
open Go.RowKit
set_option linter.unusedSimpArgs false
set_option linter.unusedVariables false

set_option maxRecDepth 100000 in
set_option maxHeartbeats 1600000 in
theorem lsuits_c (x1 x2 : Int) (v : Value) (l : List Se.Sec) (f1 f2 f3 f4 f5 f6 f7 : Int) (pa ps : Option Addr) (na ca ns cs : Nat) (w : World) (hp : Se.Secs w v l) : Calls Tryz.prog 135 #[(.agg #[(.int .i64 x1), (.int .i64 x2), v]), (.agg #[(.int .i64 f1), (.int .i64 f2), (.int .i64 f3), (.int .i64 f4), (.int .i64 f5), .slice pa na ca, (.int .i64 f6), (.int .i64 f7), .slice ps ns cs])] w (Ret w (.bool (okB x1 x2 && Se.vaL l && decide (f5 = 0) && decide (f6 = 0) && decide (na = 0)))) := by
  have HP := Lib.hid hp
  clear hp
  rcases Bool.eq_false_or_eq_true (okB x1 x2) with v1 | v1
  · rcases Bool.eq_false_or_eq_true (Se.vaL l) with v2 | v2
    · rcases Decidable.em (f5 = 0) with v3 | v3
      · subst v3
        rcases Decidable.em (f6 = 0) with v4 | v4
        · subst v4
          rcases Nat.eq_zero_or_pos na with v5 | v5
          · subst v5
            go_enter Tryz.func135, Tryz.ntmps135
            go_wp2_with (first | (go_at_call 44; refine Calls.mono (valid_c _ _ _) ?_; rintro e w2 ⟨rfl, hb2⟩; obtain ⟨hc1, hf1⟩ := bcell hb2; have hsz := hb2.size; (try simp at hsz); have gs0 : w.heap.size < w2.heap.size := (by first | omega | (simp <;> omega)); have g0 := fun o => hc1 (w.heap.size) o (by first | omega | (simp <;> omega)); have gs1 : w.heap.size + 1 < w2.heap.size := (by first | omega | (simp <;> omega)); have g1 := fun o => hc1 (w.heap.size + 1) o (by first | omega | (simp <;> omega)); clear hc1 hf1 hsz; have hbW : Below w.heap.size w w2 := (by repeat (first | with_reducible exact Below.refl _ _ | with_reducible assumption | with_reducible refine Below.setCell ?_ (by first | omega | (simp <;> omega)) _ | with_reducible refine balloc ?_ _ | with_reducible refine Below.drew ?_ | with_reducible refine bstep ?_ (by with_reducible assumption)))) | (go_at_call 84; refine Calls.mono (Se.Valid_c _ l _ (HP.out.below (by repeat (first | with_reducible exact Below.refl _ _ | with_reducible assumption | with_reducible refine Below.setCell ?_ (by first | omega | (simp <;> omega)) _ | with_reducible refine balloc ?_ _ | with_reducible refine Below.drew ?_ | with_reducible refine bstep ?_ (by with_reducible assumption))))) ?_; rintro e w3 ⟨rfl, hb3⟩; obtain ⟨hc1, hf1⟩ := bcell hb3; have hsz := hb3.size; (try simp at hsz); have gs0 : w.heap.size < w3.heap.size := (by first | omega | (simp <;> omega)); have g0 := fun o => hc1 (w.heap.size) o (by first | omega | (simp <;> omega)); have gs1 : w.heap.size + 1 < w3.heap.size := (by first | omega | (simp <;> omega)); have g1 := fun o => hc1 (w.heap.size + 1) o (by first | omega | (simp <;> omega)); clear hc1 hf1 hsz))
            all_goals
              go_ret
              refine ret_bool ?_ (by repeat (first | with_reducible exact Below.refl _ _ | with_reducible assumption | with_reducible refine Below.setCell ?_ (by first | omega | (simp <;> omega)) _ | with_reducible refine balloc ?_ _ | with_reducible refine Below.drew ?_ | with_reducible refine bstep ?_ (by with_reducible assumption)))
              simp [v1, v2]
          · have v52 : ((na : Int) == 0) = false := by rw [beq_eq_false_iff_ne]; omega
            have v53 : decide (na = 0) = false := by rw [decide_eq_false_iff_not]; omega
            go_enter Tryz.func135, Tryz.ntmps135
            go_wp2_with (first | (go_at_call 44; refine Calls.mono (valid_c _ _ _) ?_; rintro e w2 ⟨rfl, hb2⟩; obtain ⟨hc1, hf1⟩ := bcell hb2; have hsz := hb2.size; (try simp at hsz); have gs0 : w.heap.size < w2.heap.size := (by first | omega | (simp <;> omega)); have g0 := fun o => hc1 (w.heap.size) o (by first | omega | (simp <;> omega)); have gs1 : w.heap.size + 1 < w2.heap.size := (by first | omega | (simp <;> omega)); have g1 := fun o => hc1 (w.heap.size + 1) o (by first | omega | (simp <;> omega)); clear hc1 hf1 hsz; have hbW : Below w.heap.size w w2 := (by repeat (first | with_reducible exact Below.refl _ _ | with_reducible assumption | with_reducible refine Below.setCell ?_ (by first | omega | (simp <;> omega)) _ | with_reducible refine balloc ?_ _ | with_reducible refine Below.drew ?_ | with_reducible refine bstep ?_ (by with_reducible assumption)))) | (go_at_call 84; refine Calls.mono (Se.Valid_c _ l _ (HP.out.below (by repeat (first | with_reducible exact Below.refl _ _ | with_reducible assumption | with_reducible refine Below.setCell ?_ (by first | omega | (simp <;> omega)) _ | with_reducible refine balloc ?_ _ | with_reducible refine Below.drew ?_ | with_reducible refine bstep ?_ (by with_reducible assumption))))) ?_; rintro e w3 ⟨rfl, hb3⟩; obtain ⟨hc1, hf1⟩ := bcell hb3; have hsz := hb3.size; (try simp at hsz); have gs0 : w.heap.size < w3.heap.size := (by first | omega | (simp <;> omega)); have g0 := fun o => hc1 (w.heap.size) o (by first | omega | (simp <;> omega)); have gs1 : w.heap.size + 1 < w3.heap.size := (by first | omega | (simp <;> omega)); have g1 := fun o => hc1 (w.heap.size + 1) o (by first | omega | (simp <;> omega)); clear hc1 hf1 hsz))
            all_goals
              go_ret
              refine ret_bool ?_ (by repeat (first | with_reducible exact Below.refl _ _ | with_reducible assumption | with_reducible refine Below.setCell ?_ (by first | omega | (simp <;> omega)) _ | with_reducible refine balloc ?_ _ | with_reducible refine Below.drew ?_ | with_reducible refine bstep ?_ (by with_reducible assumption)))
              simp [v1, v2, v52, v53]
        · have v42 : (f6 == 0) = false := by rw [beq_eq_false_iff_ne]; omega
          have v43 : decide (f6 = 0) = false := by rw [decide_eq_false_iff_not]; omega
          go_enter Tryz.func135, Tryz.ntmps135
          go_wp2_with (first | (go_at_call 44; refine Calls.mono (valid_c _ _ _) ?_; rintro e w2 ⟨rfl, hb2⟩; obtain ⟨hc1, hf1⟩ := bcell hb2; have hsz := hb2.size; (try simp at hsz); have gs0 : w.heap.size < w2.heap.size := (by first | omega | (simp <;> omega)); have g0 := fun o => hc1 (w.heap.size) o (by first | omega | (simp <;> omega)); have gs1 : w.heap.size + 1 < w2.heap.size := (by first | omega | (simp <;> omega)); have g1 := fun o => hc1 (w.heap.size + 1) o (by first | omega | (simp <;> omega)); clear hc1 hf1 hsz; have hbW : Below w.heap.size w w2 := (by repeat (first | with_reducible exact Below.refl _ _ | with_reducible assumption | with_reducible refine Below.setCell ?_ (by first | omega | (simp <;> omega)) _ | with_reducible refine balloc ?_ _ | with_reducible refine Below.drew ?_ | with_reducible refine bstep ?_ (by with_reducible assumption)))) | (go_at_call 84; refine Calls.mono (Se.Valid_c _ l _ (HP.out.below (by repeat (first | with_reducible exact Below.refl _ _ | with_reducible assumption | with_reducible refine Below.setCell ?_ (by first | omega | (simp <;> omega)) _ | with_reducible refine balloc ?_ _ | with_reducible refine Below.drew ?_ | with_reducible refine bstep ?_ (by with_reducible assumption))))) ?_; rintro e w3 ⟨rfl, hb3⟩; obtain ⟨hc1, hf1⟩ := bcell hb3; have hsz := hb3.size; (try simp at hsz); have gs0 : w.heap.size < w3.heap.size := (by first | omega | (simp <;> omega)); have g0 := fun o => hc1 (w.heap.size) o (by first | omega | (simp <;> omega)); have gs1 : w.heap.size + 1 < w3.heap.size := (by first | omega | (simp <;> omega)); have g1 := fun o => hc1 (w.heap.size + 1) o (by first | omega | (simp <;> omega)); clear hc1 hf1 hsz))
          all_goals
            go_ret
            refine ret_bool ?_ (by repeat (first | with_reducible exact Below.refl _ _ | with_reducible assumption | with_reducible refine Below.setCell ?_ (by first | omega | (simp <;> omega)) _ | with_reducible refine balloc ?_ _ | with_reducible refine Below.drew ?_ | with_reducible refine bstep ?_ (by with_reducible assumption)))
            simp [v1, v2, v42, v43]
      · have v32 : (f5 == 0) = false := by rw [beq_eq_false_iff_ne]; omega
        have v33 : decide (f5 = 0) = false := by rw [decide_eq_false_iff_not]; omega
        go_enter Tryz.func135, Tryz.ntmps135
        go_wp2_with (first | (go_at_call 44; refine Calls.mono (valid_c _ _ _) ?_; rintro e w2 ⟨rfl, hb2⟩; obtain ⟨hc1, hf1⟩ := bcell hb2; have hsz := hb2.size; (try simp at hsz); have gs0 : w.heap.size < w2.heap.size := (by first | omega | (simp <;> omega)); have g0 := fun o => hc1 (w.heap.size) o (by first | omega | (simp <;> omega)); have gs1 : w.heap.size + 1 < w2.heap.size := (by first | omega | (simp <;> omega)); have g1 := fun o => hc1 (w.heap.size + 1) o (by first | omega | (simp <;> omega)); clear hc1 hf1 hsz; have hbW : Below w.heap.size w w2 := (by repeat (first | with_reducible exact Below.refl _ _ | with_reducible assumption | with_reducible refine Below.setCell ?_ (by first | omega | (simp <;> omega)) _ | with_reducible refine balloc ?_ _ | with_reducible refine Below.drew ?_ | with_reducible refine bstep ?_ (by with_reducible assumption)))) | (go_at_call 84; refine Calls.mono (Se.Valid_c _ l _ (HP.out.below (by repeat (first | with_reducible exact Below.refl _ _ | with_reducible assumption | with_reducible refine Below.setCell ?_ (by first | omega | (simp <;> omega)) _ | with_reducible refine balloc ?_ _ | with_reducible refine Below.drew ?_ | with_reducible refine bstep ?_ (by with_reducible assumption))))) ?_; rintro e w3 ⟨rfl, hb3⟩; obtain ⟨hc1, hf1⟩ := bcell hb3; have hsz := hb3.size; (try simp at hsz); have gs0 : w.heap.size < w3.heap.size := (by first | omega | (simp <;> omega)); have g0 := fun o => hc1 (w.heap.size) o (by first | omega | (simp <;> omega)); have gs1 : w.heap.size + 1 < w3.heap.size := (by first | omega | (simp <;> omega)); have g1 := fun o => hc1 (w.heap.size + 1) o (by first | omega | (simp <;> omega)); clear hc1 hf1 hsz))
        all_goals
          go_ret
          refine ret_bool ?_ (by repeat (first | with_reducible exact Below.refl _ _ | with_reducible assumption | with_reducible refine Below.setCell ?_ (by first | omega | (simp <;> omega)) _ | with_reducible refine balloc ?_ _ | with_reducible refine Below.drew ?_ | with_reducible refine bstep ?_ (by with_reducible assumption)))
          simp [v1, v2, v32, v33]
    · go_enter Tryz.func135, Tryz.ntmps135
      go_wp2_with (first | (go_at_call 44; refine Calls.mono (valid_c _ _ _) ?_; rintro e w2 ⟨rfl, hb2⟩; obtain ⟨hc1, hf1⟩ := bcell hb2; have hsz := hb2.size; (try simp at hsz); have gs0 : w.heap.size < w2.heap.size := (by first | omega | (simp <;> omega)); have g0 := fun o => hc1 (w.heap.size) o (by first | omega | (simp <;> omega)); have gs1 : w.heap.size + 1 < w2.heap.size := (by first | omega | (simp <;> omega)); have g1 := fun o => hc1 (w.heap.size + 1) o (by first | omega | (simp <;> omega)); clear hc1 hf1 hsz; have hbW : Below w.heap.size w w2 := (by repeat (first | with_reducible exact Below.refl _ _ | with_reducible assumption | with_reducible refine Below.setCell ?_ (by first | omega | (simp <;> omega)) _ | with_reducible refine balloc ?_ _ | with_reducible refine Below.drew ?_ | with_reducible refine bstep ?_ (by with_reducible assumption)))) | (go_at_call 84; refine Calls.mono (Se.Valid_c _ l _ (HP.out.below (by repeat (first | with_reducible exact Below.refl _ _ | with_reducible assumption | with_reducible refine Below.setCell ?_ (by first | omega | (simp <;> omega)) _ | with_reducible refine balloc ?_ _ | with_reducible refine Below.drew ?_ | with_reducible refine bstep ?_ (by with_reducible assumption))))) ?_; rintro e w3 ⟨rfl, hb3⟩; obtain ⟨hc1, hf1⟩ := bcell hb3; have hsz := hb3.size; (try simp at hsz); have gs0 : w.heap.size < w3.heap.size := (by first | omega | (simp <;> omega)); have g0 := fun o => hc1 (w.heap.size) o (by first | omega | (simp <;> omega)); have gs1 : w.heap.size + 1 < w3.heap.size := (by first | omega | (simp <;> omega)); have g1 := fun o => hc1 (w.heap.size + 1) o (by first | omega | (simp <;> omega)); clear hc1 hf1 hsz))
      all_goals
        go_ret
        refine ret_bool ?_ (by repeat (first | with_reducible exact Below.refl _ _ | with_reducible assumption | with_reducible refine Below.setCell ?_ (by first | omega | (simp <;> omega)) _ | with_reducible refine balloc ?_ _ | with_reducible refine Below.drew ?_ | with_reducible refine bstep ?_ (by with_reducible assumption)))
        simp [v1, v2]
  · go_enter Tryz.func135, Tryz.ntmps135
    go_wp2_with (first | (go_at_call 44; refine Calls.mono (valid_c _ _ _) ?_; rintro e w2 ⟨rfl, hb2⟩; obtain ⟨hc1, hf1⟩ := bcell hb2; have hsz := hb2.size; (try simp at hsz); have gs0 : w.heap.size < w2.heap.size := (by first | omega | (simp <;> omega)); have g0 := fun o => hc1 (w.heap.size) o (by first | omega | (simp <;> omega)); have gs1 : w.heap.size + 1 < w2.heap.size := (by first | omega | (simp <;> omega)); have g1 := fun o => hc1 (w.heap.size + 1) o (by first | omega | (simp <;> omega)); clear hc1 hf1 hsz; have hbW : Below w.heap.size w w2 := (by repeat (first | with_reducible exact Below.refl _ _ | with_reducible assumption | with_reducible refine Below.setCell ?_ (by first | omega | (simp <;> omega)) _ | with_reducible refine balloc ?_ _ | with_reducible refine Below.drew ?_ | with_reducible refine bstep ?_ (by with_reducible assumption)))) | (go_at_call 84; refine Calls.mono (Se.Valid_c _ l _ (HP.out.below (by repeat (first | with_reducible exact Below.refl _ _ | with_reducible assumption | with_reducible refine Below.setCell ?_ (by first | omega | (simp <;> omega)) _ | with_reducible refine balloc ?_ _ | with_reducible refine Below.drew ?_ | with_reducible refine bstep ?_ (by with_reducible assumption))))) ?_; rintro e w3 ⟨rfl, hb3⟩; obtain ⟨hc1, hf1⟩ := bcell hb3; have hsz := hb3.size; (try simp at hsz); have gs0 : w.heap.size < w3.heap.size := (by first | omega | (simp <;> omega)); have g0 := fun o => hc1 (w.heap.size) o (by first | omega | (simp <;> omega)); have gs1 : w.heap.size + 1 < w3.heap.size := (by first | omega | (simp <;> omega)); have g1 := fun o => hc1 (w.heap.size + 1) o (by first | omega | (simp <;> omega)); clear hc1 hf1 hsz))
    all_goals
      go_ret
      refine ret_bool ?_ (by repeat (first | with_reducible exact Below.refl _ _ | with_reducible assumption | with_reducible refine Below.setCell ?_ (by first | omega | (simp <;> omega)) _ | with_reducible refine balloc ?_ _ | with_reducible refine Below.drew ?_ | with_reducible refine bstep ?_ (by with_reducible assumption)))
      simp [v1]

end Go.Proofs.YtfgajejhjbfhjaaGreat.Fe
end

section
namespace Go.Proofs.YtfgajejhjbfhjaaGreat.Fe
open Go.RowKit
set_option linter.unusedSimpArgs false
set_option linter.unusedVariables false

theorem md_lsuits (x y : Int) (s : Value) (k : Nat) (w : World) : (method (k + 1) 75 (.agg #[(.int .i64 x), (.int .i64 y), s]) "seamark/feature.suits").run Tryz.prog w = .ok (135, (.agg #[(.int .i64 x), (.int .i64 y), s])) w := by kernel_rfl
theorem md_lbox (x y : Int) (s : Value) (k : Nat) (w : World) : (method (k + 1) 75 (.agg #[(.int .i64 x), (.int .i64 y), s]) "seamark/feature.box").run Tryz.prog w = .ok (131, (.agg #[(.int .i64 x), (.int .i64 y), s])) w := by kernel_rfl
theorem md_lcovers (x y : Int) (s : Value) (k : Nat) (w : World) : (method (k + 1) 75 (.agg #[(.int .i64 x), (.int .i64 y), s]) "seamark/feature.covers").run Tryz.prog w = .ok (132, (.agg #[(.int .i64 x), (.int .i64 y), s])) w := by kernel_rfl
theorem md_lholdsDisc (x y : Int) (s : Value) (k : Nat) (w : World) : (method (k + 1) 75 (.agg #[(.int .i64 x), (.int .i64 y), s]) "seamark/feature.holdsDisc").run Tryz.prog w = .ok (133, (.agg #[(.int .i64 x), (.int .i64 y), s])) w := by kernel_rfl
theorem md_lholdsPolygon (x y : Int) (s : Value) (k : Nat) (w : World) : (method (k + 1) 75 (.agg #[(.int .i64 x), (.int .i64 y), s]) "seamark/feature.holdsPolygon").run Tryz.prog w = .ok (134, (.agg #[(.int .i64 x), (.int .i64 y), s])) w := by kernel_rfl
theorem md_ltouchesDisc (x y : Int) (s : Value) (k : Nat) (w : World) : (method (k + 1) 75 (.agg #[(.int .i64 x), (.int .i64 y), s]) "seamark/feature.touchesDisc").run Tryz.prog w = .ok (136, (.agg #[(.int .i64 x), (.int .i64 y), s])) w := by kernel_rfl
theorem md_ltouchesPolygon (x y : Int) (s : Value) (k : Nat) (w : World) : (method (k + 1) 75 (.agg #[(.int .i64 x), (.int .i64 y), s]) "seamark/feature.touchesPolygon").run Tryz.prog w = .ok (137, (.agg #[(.int .i64 x), (.int .i64 y), s])) w := by kernel_rfl

set_option maxRecDepth 100000 in
set_option maxHeartbeats 1600000 in
theorem shl_c (f1 f2 f3 f4 f5 f6 f7 : Int) (pa ps : Option Addr) (na ca ns cs : Nat) (l : List Se.Sec) (w : World) (hp : Se.Secs w (.slice ps ns cs) l) (hk : f2 = 4) : Calls Tryz.prog 33 #[(.agg #[(.int .i64 f1), (.int .i64 f2), (.int .i64 f3), (.int .i64 f4), (.int .i64 f5), .slice pa na ca, (.int .i64 f6), (.int .i64 f7), .slice ps ns cs])] w (Ret w (.tuple #[.iface 75 (.agg #[(.int .i64 f3), (.int .i64 f4), .slice ps ns cs]), (.bool (bt f1 1 100000 && bt f7 0 999 && (okB f3 f4 && Se.vaL l && decide (f5 = 0) && decide (f6 = 0) && decide (na = 0))))])) := by
  have C := fun W h => lsuits_c f3 f4 (.slice ps ns cs) l f1 f2 f3 f4 f5 f6 f7 pa ps na ca ns cs W h
  have HP := Lib.hid hp
  clear hp
  have M := fun k W => md_lsuits f3 f4 (.slice ps ns cs) k W
  generalize hr : (okB f3 f4 && Se.vaL l && decide (f5 = 0) && decide (f6 = 0) && decide (na = 0)) = r at *
  clear hr
  rcases Bool.eq_false_or_eq_true (bt f1 1 100000) with v1 | v1
  · rcases Bool.eq_false_or_eq_true (bt f7 0 999) with v2 | v2
    · rcases hk with rfl
      all_goals
        go_enter Tryz.func33, Tryz.ntmps33
        go_wp2_with (first | (go_at_call 135; refine Calls.mono (C _ (HP.out.below (by repeat (first | with_reducible exact Below.refl _ _ | with_reducible assumption | with_reducible refine Below.setCell ?_ (by first | omega | (simp <;> omega)) _ | with_reducible refine balloc ?_ _ | with_reducible refine Below.drew ?_ | with_reducible refine bstep ?_ (by with_reducible assumption))))) ?_; rintro e w2 ⟨rfl, hb2⟩) | (go_at_call 55; refine Calls.mono (bt_c _ _ _ _) ?_; rintro e wx ⟨rfl, rfl⟩))
        (try clear M)
        go_ret2
        refine ⟨?_, (by repeat (first | with_reducible exact Below.refl _ _ | with_reducible assumption | with_reducible refine Below.setCell ?_ (by first | omega | (simp <;> omega)) _ | with_reducible refine balloc ?_ _ | with_reducible refine Below.drew ?_ | with_reducible refine bstep ?_ (by with_reducible assumption)))⟩
        simp [v1, v2]
    · rcases hk with rfl
      all_goals
        go_enter Tryz.func33, Tryz.ntmps33
        go_wp2_with (first | (go_at_call 135; refine Calls.mono (C _ (HP.out.below (by repeat (first | with_reducible exact Below.refl _ _ | with_reducible assumption | with_reducible refine Below.setCell ?_ (by first | omega | (simp <;> omega)) _ | with_reducible refine balloc ?_ _ | with_reducible refine Below.drew ?_ | with_reducible refine bstep ?_ (by with_reducible assumption))))) ?_; rintro e w2 ⟨rfl, hb2⟩) | (go_at_call 55; refine Calls.mono (bt_c _ _ _ _) ?_; rintro e wx ⟨rfl, rfl⟩))
        (try clear M)
        go_ret2
        refine ⟨?_, (by repeat (first | with_reducible exact Below.refl _ _ | with_reducible assumption | with_reducible refine Below.setCell ?_ (by first | omega | (simp <;> omega)) _ | with_reducible refine balloc ?_ _ | with_reducible refine Below.drew ?_ | with_reducible refine bstep ?_ (by with_reducible assumption)))⟩
        simp [v1, v2]
  · rcases hk with rfl
    all_goals
      go_enter Tryz.func33, Tryz.ntmps33
      go_wp2_with (first | (go_at_call 135; refine Calls.mono (C _ (HP.out.below (by repeat (first | with_reducible exact Below.refl _ _ | with_reducible assumption | with_reducible refine Below.setCell ?_ (by first | omega | (simp <;> omega)) _ | with_reducible refine balloc ?_ _ | with_reducible refine Below.drew ?_ | with_reducible refine bstep ?_ (by with_reducible assumption))))) ?_; rintro e w2 ⟨rfl, hb2⟩) | (go_at_call 55; refine Calls.mono (bt_c _ _ _ _) ?_; rintro e wx ⟨rfl, rfl⟩))
      (try clear M)
      go_ret2
      refine ⟨?_, (by repeat (first | with_reducible exact Below.refl _ _ | with_reducible assumption | with_reducible refine Below.setCell ?_ (by first | omega | (simp <;> omega)) _ | with_reducible refine balloc ?_ _ | with_reducible refine Below.drew ?_ | with_reducible refine bstep ?_ (by with_reducible assumption)))⟩
      simp [v1]

set_option maxRecDepth 100000 in
set_option maxHeartbeats 1600000 in
theorem shn_c (f1 f2 f3 f4 f5 f6 f7 : Int) (pa ps : Option Addr) (na ca ns cs : Nat) (w : World) (hk : f2 < 1 ∨ 6 < f2) : Calls Tryz.prog 33 #[(.agg #[(.int .i64 f1), (.int .i64 f2), (.int .i64 f3), (.int .i64 f4), (.int .i64 f5), .slice pa na ca, (.int .i64 f6), (.int .i64 f7), .slice ps ns cs])] w (Ret w (.tuple #[.nilIface, (.bool false)])) := by
  have e1 : (f2 == 1) = false := by rw [beq_eq_false_iff_ne]; omega
  have e2 : (f2 == 2) = false := by rw [beq_eq_false_iff_ne]; omega
  have e3 : (f2 == 3) = false := by rw [beq_eq_false_iff_ne]; omega
  have e4 : (f2 == 4) = false := by rw [beq_eq_false_iff_ne]; omega
  have e5 : (f2 == 5) = false := by rw [beq_eq_false_iff_ne]; omega
  have e6 : (f2 == 6) = false := by rw [beq_eq_false_iff_ne]; omega
  go_enter Tryz.func33, Tryz.ntmps33
  go_wp2
  go_ret2
  exact ⟨rfl, (by repeat (first | with_reducible exact Below.refl _ _ | with_reducible assumption | with_reducible refine Below.setCell ?_ (by first | omega | (simp <;> omega)) _ | with_reducible refine balloc ?_ _ | with_reducible refine Below.drew ?_ | with_reducible refine bstep ?_ (by with_reducible assumption)))⟩

end Go.Proofs.YtfgajejhjbfhjaaGreat.Fe
end

section
namespace Go.Proofs.YtfgajejhjbfhjaaGreat.Fe
open Go.RowKit
set_option linter.unusedSimpArgs false
set_option linter.unusedVariables false

set_option maxRecDepth 100000 in
set_option maxHeartbeats 400000 in
theorem dcovers_c (d1 d2 d3 p1 p2 : Int) (w : World) (hp : ok p1 p2) (hd : ok d1 d2) (h3 : 0 ≤ d3 ∧ d3 ≤ 100000) : Calls Tryz.prog 139 #[(.agg #[(.int .i64 d1), (.int .i64 d2), (.int .i64 d3)]), (.agg #[(.int .i64 p1), (.int .i64 p2)])] w (Ret w (.bool (nearB p1 p2 d1 d2 d1 d2 d3))) := by
  have C := fun w => reaches_c d1 d2 d3 p1 p2 0 w hp hd h3 (by omega)
  rw [Int.add_zero] at C
  go_enter Tryz.func139, Tryz.ntmps139
  go_wp2_with fail
  refine Calls.mono (C _) ?_
  rintro e w1 ⟨rfl, hbW⟩
  have hc := (bcell hbW).1
  have hf := (bcell hbW).2
  go_wp2
  all_goals
    go_ret
    exact ⟨rfl, (by repeat (first | with_reducible exact Below.refl _ _ | with_reducible assumption | with_reducible refine Below.setCell ?_ (by first | omega | (simp <;> omega)) _ | with_reducible refine balloc ?_ _ | with_reducible refine Below.drew ?_ | with_reducible refine bstep ?_ (by with_reducible assumption)))⟩

set_option maxRecDepth 100000 in
set_option maxHeartbeats 400000 in
theorem dtouchesDisc_c (d1 d2 d3 e1 e2 e3 : Int) (w : World) (hd : ok d1 d2) (h3 : 0 ≤ d3 ∧ d3 ≤ 100000) (he : ok e1 e2) (h4 : 0 ≤ e3 ∧ e3 ≤ 100000) : Calls Tryz.prog 144 #[(.agg #[(.int .i64 d1), (.int .i64 d2), (.int .i64 d3)]), (.agg #[(.int .i64 e1), (.int .i64 e2), (.int .i64 e3)])] w (Ret w (.bool (nearB e1 e2 d1 d2 d1 d2 (d3 + e3)))) := by
  go_enter Tryz.func144, Tryz.ntmps144
  go_wp2_with fail
  refine Calls.mono (reaches_c d1 d2 d3 e1 e2 e3 _ he hd h3 h4) ?_
  rintro e w1 ⟨rfl, hbW⟩
  have hc := (bcell hbW).1
  have hf := (bcell hbW).2
  go_wp2
  all_goals
    go_ret
    exact ⟨rfl, (by repeat (first | with_reducible exact Below.refl _ _ | with_reducible assumption | with_reducible refine Below.setCell ?_ (by first | omega | (simp <;> omega)) _ | with_reducible refine balloc ?_ _ | with_reducible refine Below.drew ?_ | with_reducible refine bstep ?_ (by with_reducible assumption)))⟩

set_option maxRecDepth 100000 in
set_option maxHeartbeats 400000 in
theorem dholdsDisc_c (d1 d2 d3 e1 e2 e3 : Int) (w : World) (hd : ok d1 d2) (h3 : 0 ≤ d3 ∧ d3 ≤ 100000) (he : ok e1 e2) (h4 : 0 ≤ e3 ∧ e3 ≤ 100000) : Calls Tryz.prog 140 #[(.agg #[(.int .i64 d1), (.int .i64 d2), (.int .i64 d3)]), (.agg #[(.int .i64 e1), (.int .i64 e2), (.int .i64 e3)])] w (Ret w (.bool (lieB e1 e2 e3 d1 d2 d3))) := by
  go_enter Tryz.func140, Tryz.ntmps140
  go_wp2_with fail
  refine Calls.mono (Lies_ok e1 e2 e3 d1 d2 d3 _ he hd (by unfold okd; omega) (by unfold okd; omega)) ?_
  rintro e w1 ⟨rfl, hbW⟩
  have hc := (bcell hbW).1
  have hf := (bcell hbW).2
  go_wp2
  all_goals
    go_ret
    exact ⟨rfl, (by repeat (first | with_reducible exact Below.refl _ _ | with_reducible assumption | with_reducible refine Below.setCell ?_ (by first | omega | (simp <;> omega)) _ | with_reducible refine balloc ?_ _ | with_reducible refine Below.drew ?_ | with_reducible refine bstep ?_ (by with_reducible assumption)))⟩


end Go.Proofs.YtfgajejhjbfhjaaGreat.Fe
end

section
namespace Go.Proofs.YtfgajejhjbfhjaaGreat.Fe
open Go.RowKit
set_option linter.unusedSimpArgs false
set_option linter.unusedVariables false

set_option maxRecDepth 100000 in
theorem clos_c (d1 d2 d3 p1 p2 : Int) (g : Nat) (w : World) (hp : ok p1 p2) (hd : ok d1 d2) (h3 : 0 ≤ d3 ∧ d3 ≤ 100000) (k0 : w.cell? ⟨g, 0, none⟩ = some (.int .i64 d1)) (k1 : w.cell? ⟨g, 1, none⟩ = some (.int .i64 d2)) (k2 : w.cell? ⟨g, 2, none⟩ = some (.int .i64 d3)) :
    Calls Tryz.prog 149 #[(.agg #[.int .i64 p1, .int .i64 p2]), .pointer (some ⟨g, 0, none⟩)] w (Ret w (.bool (!nearB p1 p2 d1 d2 d1 d2 d3))) := by
  have hg : g < w.heap.size := World.block_lt_of_cell? _ _ k0
  have C := fun W => dcovers_c d1 d2 d3 p1 p2 W hp hd h3
  go_enter Tryz.func149, Tryz.ntmps149
  go_wp2_with fail
  refine Calls.mono (C _) ?_
  rintro e w1 ⟨rfl, hb1⟩
  clear C
  go_wp2
  go_ret
  exact ⟨rfl, (by repeat (first | with_reducible exact Below.refl _ _ | with_reducible assumption | with_reducible refine Below.setCell ?_ (by first | omega | (simp <;> omega)) _ | with_reducible refine balloc ?_ _ | with_reducible refine Below.drew ?_ | with_reducible refine bstep ?_ (by with_reducible assumption)))⟩

/-- A corner lies outside of the disc. -/
def lackD (m : List Po.Pt) (d1 d2 d3 : Int) : Bool := (List.range m.length).any fun j => !nearB (Po.gp m j).1 (Po.gp m j).2 d1 d2 d1 d2 d3
def IdxPost (w : World) (x : Bool) (e : Ending) (w' : World) : Prop := ∃ r : Int, e = .returned (.int .i64 r) ∧ decide (0 ≤ r) = x ∧ Below w.heap.size w w'

set_option maxRecDepth 100000 in
set_option maxHeartbeats 3200000 in
theorem index_c (d1 d2 d3 : Int) (g b2 off2 cap2 : Nat) (m : List Po.Pt) (w : World) (hd : ok d1 d2) (h3 : 0 ≤ d3 ∧ d3 ≤ 100000) (k0 : w.cell? ⟨g, 0, none⟩ = some (.int .i64 d1)) (k1 : w.cell? ⟨g, 1, none⟩ = some (.int .i64 d2)) (k2 : w.cell? ⟨g, 2, none⟩ = some (.int .i64 d3)) (hm : Po.okL m = true) (m24 : m.length ≤ 24) (h0m : 0 < m.length) (hcm : Po.Row w b2 off2 m) :
    Calls Tryz.prog 155 #[.slice (some ⟨b2, off2, none⟩) m.length cap2, .func (.func 149) #[] #[.pointer (some ⟨g, 0, none⟩)]] w (IdxPost w (lackD m d1 d2 d3)) := by
  have hg : g < w.heap.size := World.block_lt_of_cell? _ _ k0
  have hbm := hcm.lt h0m
  have K0 := Lib.hid k0
  have K1 := Lib.hid k1
  have K2 := Lib.hid k2
  clear k0 k1 k2
  go_enter Tryz.func155, Tryz.ntmps155
  go_wp2
  go_loopw [8] (fun i wr => ∃ k : Nat, i = (.int .i64 k) ∧ k ≤ m.length ∧ (∀ j, j < k → nearB (Po.gp m j).1 (Po.gp m j).2 d1 d2 d1 d2 d3 = true) ∧ Below w.heap.size w wr) (fun i _ => m.length - (intOf i).toNat)
  case atStart => exact ⟨0, rfl, by omega, fun i hi => by omega, Below.refl _ _⟩
  case round =>
    obtain ⟨k, rfl, hk, hall, hbel⟩ := hrel
    have HA := Lib.hid hall
    clear hall
    by_cases hlt : k < m.length
    · have hrr := hcm.below hbm hbel
      obtain ⟨c1, c2⟩ := hrr k hlt
      have HQ := Lib.hid hcm
      have q0 := Lib.hid (cell_later hbel K0.out)
      have q1 := Lib.hid (cell_later hbel K1.out)
      have q2 := Lib.hid (cell_later hbel K2.out)
      clear hcm hrr
      have o1 := Po.okL_gp hm k
      unfold Po.okP at o1
      cases hv : nearB (Po.gp m k).1 (Po.gp m k).2 d1 d2 d1 d2 d3
      · have HV := Lib.hid hv
        have C := fun W h0 h1 h2 => clos_c d1 d2 d3 _ _ g W o1 hd h3 h0 h1 h2
        rw [hv] at C
        clear hv
        go_wp2_with fail
        refine Calls.mono (C _ q0.out q1.out q2.out) ?_
        rintro e w1 ⟨rfl, hb1⟩
        have hB1 : Below w.heap.size w w1 := (by repeat (first | with_reducible exact Below.refl _ _ | with_reducible assumption | with_reducible refine Below.setCell ?_ (by first | omega | (simp <;> omega)) _ | with_reducible refine balloc ?_ _ | with_reducible refine Below.drew ?_ | with_reducible refine bstep ?_ (by with_reducible assumption)))
        clear C
        go_wp2
        go_ret
        refine ⟨k, rfl, ?_, hB1⟩
        rw [decide_eq_true (by omega)]
        unfold lackD
        exact (List.any_eq_true.2 ⟨k, List.mem_range.2 hlt, by rw [HV.out]; rfl⟩).symm
      · have HV := Lib.hid hv
        have C := fun W h0 h1 h2 => clos_c d1 d2 d3 _ _ g W o1 hd h3 h0 h1 h2
        rw [hv] at C
        clear hv
        go_wp2_with fail
        refine Calls.mono (C _ q0.out q1.out q2.out) ?_
        rintro e w1 ⟨rfl, hb1⟩
        have hB1 : Below w.heap.size w w1 := (by repeat (first | with_reducible exact Below.refl _ _ | with_reducible assumption | with_reducible refine Below.setCell ?_ (by first | omega | (simp <;> omega)) _ | with_reducible refine balloc ?_ _ | with_reducible refine Below.drew ?_ | with_reducible refine bstep ?_ (by with_reducible assumption)))
        clear C
        go_wp2
        go_roundw
        case rel =>
          refine ⟨k + 1, by go_num, by omega, fun i hi => ?_, hB1⟩
          by_cases hik : i = k
          · subst hik; exact HV.out
          · exact HA.out i (by omega)
        case measure => simp [intOf]; omega
    · obtain rfl : k = m.length := by omega
      go_wp2
      go_ret
      refine ⟨-1, rfl, ?_, hbel⟩
      have : lackD m d1 d2 d3 = false := by
        unfold lackD
        rw [List.any_eq_false]
        intro j hj
        simp [HA.out j (List.mem_range.1 hj)]
      rw [this]
      rfl

set_option maxHeartbeats 800000 in
theorem contains_c (d1 d2 d3 : Int) (g b2 off2 cap2 : Nat) (m : List Po.Pt) (w : World) (hd : ok d1 d2) (h3 : 0 ≤ d3 ∧ d3 ≤ 100000) (k0 : w.cell? ⟨g, 0, none⟩ = some (.int .i64 d1)) (k1 : w.cell? ⟨g, 1, none⟩ = some (.int .i64 d2)) (k2 : w.cell? ⟨g, 2, none⟩ = some (.int .i64 d3)) (hm : Po.okL m = true) (m24 : m.length ≤ 24) (h0m : 0 < m.length) (hcm : Po.Row w b2 off2 m) :
    Calls Tryz.prog 148 #[.slice (some ⟨b2, off2, none⟩) m.length cap2, .func (.func 149) #[] #[.pointer (some ⟨g, 0, none⟩)]] w (Ret w (.bool (lackD m d1 d2 d3))) := by
  have HR := Lib.hid hcm
  clear hcm
  have C := fun W h0 h1 h2 h3' => index_c d1 d2 d3 g b2 off2 cap2 m W hd h3 h0 h1 h2 hm m24 h0m h3'
  go_enter Tryz.func148, Tryz.ntmps148
  go_wp2_with fail
  refine Calls.mono (C _ k0 k1 k2 HR.out) ?_
  rintro e w1 ⟨r, rfl, hr, hb1⟩
  have HR := Lib.hid hr
  clear hr C
  go_wp2
  all_goals
    go_ret
    refine ret_bool ?_ (by repeat (first | with_reducible exact Below.refl _ _ | with_reducible assumption | with_reducible refine Below.setCell ?_ (by first | omega | (simp <;> omega)) _ | with_reducible refine balloc ?_ _ | with_reducible refine Below.drew ?_ | with_reducible refine bstep ?_ (by with_reducible assumption)))
    rw [← HR.out]
    first | done | simp

set_option maxRecDepth 100000 in
set_option maxHeartbeats 800000 in
theorem dholdsPoly_c (d1 d2 d3 : Int) (v : Value) (m : List Po.Pt) (w : World) (hp : Po.Pts w v m) (hv : Po.vaL m = true) (hd : ok d1 d2) (h3 : 0 ≤ d3 ∧ d3 ≤ 100000) :
    Calls Tryz.prog 141 #[(.agg #[(.int .i64 d1), (.int .i64 d2), (.int .i64 d3)]), v] w (Ret w (.bool (!lackD m d1 d2 d3))) := by
  obtain ⟨a3, a24, aok, -⟩ := Po.vaL_iff.1 hv
  obtain ⟨b, off, cap, rfl, hr⟩ := hp.row (Po.vaL_len hv)
  have hbl := hr.lt (Po.vaL_len hv)
  have HR := Lib.hid hr
  clear hr hp hv
  have C := fun g W h0 h1 h2 h3' => contains_c d1 d2 d3 g b off cap m W hd h3 h0 h1 h2 aok a24 (by omega) h3'
  go_enter Tryz.func141, Tryz.ntmps141
  go_wp2_with fail
  refine Calls.mono (C _ _ (by go_simp) (by go_simp) (by go_simp) (HR.out.below hbl (by repeat (first | with_reducible exact Below.refl _ _ | with_reducible assumption | with_reducible refine Below.setCell ?_ (by first | omega | (simp <;> omega)) _ | with_reducible refine balloc ?_ _ | with_reducible refine Below.drew ?_ | with_reducible refine bstep ?_ (by with_reducible assumption))))) ?_
  rintro e w1 ⟨rfl, hb1⟩
  clear C
  go_wp2
  go_ret
  exact ⟨rfl, (by repeat (first | with_reducible exact Below.refl _ _ | with_reducible assumption | with_reducible refine Below.setCell ?_ (by first | omega | (simp <;> omega)) _ | with_reducible refine balloc ?_ _ | with_reducible refine Below.drew ?_ | with_reducible refine bstep ?_ (by with_reducible assumption)))⟩


end Go.Proofs.YtfgajejhjbfhjaaGreat.Fe
end

section
namespace Go.Proofs.YtfgajejhjbfhjaaGreat.Fe
open Go.RowKit
set_option linter.unusedVariables false

structure Fe where
  id : Int
  ki : Int
  x : Int
  y : Int
  ra : Int
  ar : List Po.Pt
  de : Int
  sy : Int
  se : List Se.Sec
inductive Sh where
  | dis (x y r : Int)
  | pol (l : List Po.Pt)
  | lig (x y : Int) (s : List Se.Sec)
def i64 (x : Int) : Prop := -9223372036854775808 ≤ x ∧ x ≤ 9223372036854775807
/-- A feature by value. -/
def FeV (w : World) (v : Value) (f : Fe) : Prop :=
  (∃ (pa ps : Option Addr) (ca cs : Nat), v = .agg #[(.int .i64 (f.id)), (.int .i64 (f.ki)), (.int .i64 (f.x)), (.int .i64 (f.y)), (.int .i64 (f.ra)), .slice pa f.ar.length ca, (.int .i64 (f.de)), (.int .i64 (f.sy)), .slice ps f.se.length cs]
    ∧ Po.Pts w (.slice pa f.ar.length ca) f.ar ∧ Se.Secs w (.slice ps f.se.length cs) f.se) ∧ i64 f.x ∧ i64 f.y
theorem FeV.below {w W : World} {v : Value} {f : Fe} (h : FeV w v f) (hb : Below w.heap.size w W) : FeV W v f := by
  obtain ⟨⟨pa, ps, ca, cs, hv, h1, h2⟩, h3⟩ := h
  exact ⟨⟨pa, ps, ca, cs, hv, h1.below hb, h2.below hb⟩, h3⟩
/-- A shape in an interface. -/
def ShV (w : World) (u : Value) : Sh → Prop
  | .dis x y r => u = .iface 81 (.agg #[(.int .i64 x), (.int .i64 y), (.int .i64 r)]) ∧ ok x y ∧ 0 ≤ r ∧ r ≤ 100000
  | .pol l => ∃ (p : Option Addr) (n c : Nat), u = .iface 82 (.slice p n c) ∧ Po.Pts w (.slice p n c) l ∧ Po.vaL l = true
  | .lig x y s => ∃ (p : Option Addr) (n c : Nat), u = .iface 75 (.agg #[(.int .i64 x), (.int .i64 y), .slice p n c]) ∧ Se.Secs w (.slice p n c) s ∧ Se.vaL s = true ∧ ok x y
theorem ShV.below {w W : World} {u : Value} {s : Sh} (h : ShV w u s) (hb : Below w.heap.size w W) : ShV W u s := by
  cases s with
  | dis x y r => exact h
  | pol l => obtain ⟨p, n, c, hu, h1, h2⟩ := h; exact ⟨p, n, c, hu, h1.below hb, h2⟩
  | lig x y s => obtain ⟨p, n, c, hu, h1, h2⟩ := h; exact ⟨p, n, c, hu, h1.below hb, h2⟩
def shF (f : Fe) : Sh := if f.ki = 3 ∨ f.ki = 6 then .pol f.ar else if f.ki = 4 then .lig f.x f.y f.se else .dis f.x f.y f.ra
/-- The fields suit the shape. -/
def suF (f : Fe) : Bool :=
  if f.ki = 3 ∨ f.ki = 6 then Po.vaL f.ar && bt f.de 0 (if f.ki = 6 then 0 else 100000) && (decide (f.x = 0) && decide (f.y = 0)) && decide (f.ra = 0) && decide (f.se.length = 0)
  else if f.ki = 4 then okB f.x f.y && Se.vaL f.se && decide (f.ra = 0) && decide (f.de = 0) && decide (f.ar.length = 0)
  else if f.ki = 1 ∨ f.ki = 2 ∨ f.ki = 5 then bt f.ra 0 100000 && limB f.x f.y f.ra && bt f.de 0 100000 && decide (f.ar.length = 0) && decide (f.se.length = 0)
  else false
def vaF (f : Fe) : Bool := bt f.id 1 100000 && bt f.sy 0 999 && suF f
def SoPost (f : Fe) (w : World) (e : Ending) (w' : World) : Prop := ∃ u, e = .returned (.tuple #[u, (.bool (vaF f))]) ∧ (vaF f = true → ShV w' u (shF f)) ∧ Below w.heap.size w w'

/-- In each world in which the value is the feature, the interface is its shape. -/
def SoAll (v : Value) (f : Fe) (w : World) (e : Ending) (w' : World) : Prop := ∃ u, e = .returned (.tuple #[u, (.bool (vaF f))]) ∧ (vaF f = true → ∀ W0, FeV W0 v f → ShV W0 u (shF f)) ∧ Below w.heap.size w w'
/-- The shape's memory is the feature's. -/
def SoPre (f : Fe) (w : World) (e : Ending) (w' : World) : Prop := ∃ u, e = .returned (.tuple #[u, (.bool (vaF f))]) ∧ (vaF f = true → ShV w u (shF f)) ∧ Below w.heap.size w w'

theorem lim_ok {x y r : Int} (hx : i64 x) (hy : i64 y) (h0 : 0 ≤ r) (h1 : r ≤ 100000) (h : limB x y r = true) :
    -1000000 ≤ x - r ∧ x + r ≤ 1000000 ∧ -1000000 ≤ y - r ∧ y + r ≤ 1000000 := by
  unfold limB at h
  simp only [Bool.and_eq_true, okB_iff] at h
  obtain ⟨⟨a1, a2, a3, a4⟩, b1, b2, b3, b4⟩ := h
  obtain ⟨x1, x2⟩ := hx
  obtain ⟨y1, y2⟩ := hy
  simp only [wrap64] at *
  omega

set_option maxRecDepth 100000 in
theorem shapeOf_a (v : Value) (f : Fe) (w : World) (h : FeV w v f) : Calls Tryz.prog 33 #[v] w (SoAll v f w) := by
  obtain ⟨⟨pa, ps, ca, cs, rfl, ha, hs⟩, hx, hy⟩ := h
  have hv : ∀ r, suF f = r → vaF f = (bt f.id 1 100000 && bt f.sy 0 999 && r) := fun r e => by unfold vaF; rw [e]
  by_cases hp : f.ki = 3 ∨ f.ki = 6
  · have e1 := hv _ (if_pos hp)
    have e2 : shF f = .pol f.ar := if_pos hp
    refine (shp_c _ _ _ _ _ _ _ _ _ _ _ _ _ _ w ha hp).mono fun e w' ⟨he, hb⟩ => ⟨_, by rw [e1]; exact he, fun ht W0 h0 => ?_, hb⟩
    rw [e2]
    rw [e1] at ht
    simp only [Bool.and_eq_true] at ht
    obtain ⟨⟨pa', ps', ca', cs', e, ha', hs'⟩, _⟩ := h0
    simp only [Value.agg.injEq, Array.mk.injEq, List.cons.injEq, Value.slice.injEq, true_and, and_true] at e
    obtain ⟨⟨rfl, rfl⟩, rfl, rfl⟩ := e
    exact ⟨_, _, _, rfl, ha', ht.2.1.1.1.1⟩
  · by_cases hl : f.ki = 4
    · have e1 := hv _ ((if_neg hp).trans (if_pos hl))
      have e2 : shF f = .lig f.x f.y f.se := (if_neg hp).trans (if_pos hl)
      refine (shl_c _ _ _ _ _ _ _ _ _ _ _ _ _ _ w hs hl).mono fun e w' ⟨he, hb⟩ => ⟨_, by rw [e1]; exact he, fun ht W0 h0 => ?_, hb⟩
      rw [e2]
      rw [e1] at ht
      simp only [Bool.and_eq_true] at ht
      obtain ⟨⟨pa', ps', ca', cs', e, ha', hs'⟩, _⟩ := h0
      simp only [Value.agg.injEq, Array.mk.injEq, List.cons.injEq, Value.slice.injEq, true_and, and_true] at e
      obtain ⟨⟨rfl, rfl⟩, rfl, rfl⟩ := e
      exact ⟨_, _, _, rfl, hs', ht.2.1.1.1.2, okB_iff.1 ht.2.1.1.1.1⟩
    · by_cases hd : f.ki = 1 ∨ f.ki = 2 ∨ f.ki = 5
      · have e1 := hv _ ((if_neg hp).trans ((if_neg hl).trans (if_pos hd)))
        have e2 : shF f = .dis f.x f.y f.ra := (if_neg hp).trans (if_neg hl)
        refine (shd_c _ _ _ _ _ _ _ _ _ _ _ _ _ w hd).mono fun e w' ⟨he, hb⟩ => ⟨_, by rw [e1]; exact he, fun ht W0 h0 => ?_, hb⟩
        rw [e2]
        rw [e1] at ht
        simp only [Bool.and_eq_true, bt_iff] at ht
        obtain ⟨h0, h1⟩ := ht.2.1.1.1.1
        have := lim_ok hx hy h0 h1 ht.2.1.1.1.2
        exact ⟨rfl, by unfold ok; omega, h0, h1⟩
      · have e1 := hv false ((if_neg hp).trans ((if_neg hl).trans (if_neg hd)))
        have hn : f.ki < 1 ∨ 6 < f.ki := by omega
        refine (shn_c _ _ _ _ _ _ _ _ _ _ _ _ _ w hn).mono fun e w' ⟨he, hb⟩ => ⟨_, by rw [e1, Bool.and_false]; exact he, fun ht W0 h0 => ?_, hb⟩
        rw [e1, Bool.and_false] at ht
        exact absurd ht (by simp)
theorem shapeOf_s (v : Value) (f : Fe) (w : World) (h : FeV w v f) : Calls Tryz.prog 33 #[v] w (SoPre f w) :=
  (shapeOf_a v f w h).mono fun e w' ⟨u, he, hu, hb⟩ => ⟨u, he, fun ht => hu ht w h, hb⟩
theorem shapeOf_c (v : Value) (f : Fe) (w : World) (h : FeV w v f) : Calls Tryz.prog 33 #[v] w (SoPost f w) :=
  (shapeOf_s v f w h).mono fun e w' ⟨u, he, hu, hb⟩ => ⟨u, he, fun ht => (hu ht).below hb, hb⟩
end Go.Proofs.YtfgajejhjbfhjaaGreat.Fe
end

section
namespace Go.Proofs.YtfgajejhjbfhjaaGreat.Fe
open Go.RowKit
set_option linter.unusedSimpArgs false
set_option linter.unusedVariables false

set_option maxRecDepth 100000 in
set_option maxHeartbeats 1600000 in
theorem pcovers_c (v : Value) (l : List Po.Pt) (q1 q2 : Int) (w : World) (hp : Po.Pts w v l) (hv : Po.vaL l = true) (hq : ok q1 q2) : Calls Tryz.prog 195 #[v, (.agg #[.int .i64 q1, .int .i64 q2])] w (Ret w (.bool (decide (0 ≤ Po.siL (q1, q2) l)))) := by
  have HP := Lib.hid hp
  clear hp
  go_enter Tryz.func195, Tryz.ntmps195
  go_wp2_with fail
  refine Calls.mono (Po.In_ok q1 q2 _ l _ (HP.out.below (by repeat (first | with_reducible exact Below.refl _ _ | with_reducible assumption | with_reducible refine Below.setCell ?_ (by first | omega | (simp <;> omega)) _ | with_reducible refine balloc ?_ _ | with_reducible refine Below.drew ?_ | with_reducible refine bstep ?_ (by with_reducible assumption)))) hq hv) ?_
  rintro e w1 ⟨rfl, hb1⟩
  go_wp2
  go_ret
  exact ⟨rfl, (by repeat (first | with_reducible exact Below.refl _ _ | with_reducible assumption | with_reducible refine Below.setCell ?_ (by first | omega | (simp <;> omega)) _ | with_reducible refine balloc ?_ _ | with_reducible refine Below.drew ?_ | with_reducible refine bstep ?_ (by with_reducible assumption)))⟩

set_option maxRecDepth 100000 in
set_option maxHeartbeats 1600000 in
theorem pholdsDisc_c (v : Value) (l : List Po.Pt) (d1 d2 d3 : Int) (w : World) (hp : Po.Pts w v l) (hv : Po.vaL l = true) (hd : ok d1 d2) (h3 : okd d3) : Calls Tryz.prog 196 #[v, (.agg #[(.int .i64 d1), (.int .i64 d2), (.int .i64 d3)])] w (Ret w (.bool (decide (0 < Po.diL l (d1, d2) d3)))) := by
  have HP := Lib.hid hp
  clear hp
  go_enter Tryz.func196, Tryz.ntmps196
  go_wp2_with fail
  refine Calls.mono (Po.Disc_ok _ d1 d2 d3 l _ (HP.out.below (by repeat (first | with_reducible exact Below.refl _ _ | with_reducible assumption | with_reducible refine Below.setCell ?_ (by first | omega | (simp <;> omega)) _ | with_reducible refine balloc ?_ _ | with_reducible refine Below.drew ?_ | with_reducible refine bstep ?_ (by with_reducible assumption)))) hv hd h3) ?_
  rintro e w1 ⟨rfl, hb1⟩
  go_wp2
  go_ret
  exact ⟨rfl, (by repeat (first | with_reducible exact Below.refl _ _ | with_reducible assumption | with_reducible refine Below.setCell ?_ (by first | omega | (simp <;> omega)) _ | with_reducible refine balloc ?_ _ | with_reducible refine Below.drew ?_ | with_reducible refine bstep ?_ (by with_reducible assumption)))⟩

set_option maxRecDepth 100000 in
set_option maxHeartbeats 1600000 in
theorem ptouchesDisc_c (v : Value) (l : List Po.Pt) (d1 d2 d3 : Int) (w : World) (hp : Po.Pts w v l) (hv : Po.vaL l = true) (hd : ok d1 d2) (h3 : okd d3) : Calls Tryz.prog 150 #[v, (.agg #[(.int .i64 d1), (.int .i64 d2), (.int .i64 d3)])] w (Ret w (.bool (decide (0 ≤ Po.diL l (d1, d2) d3)))) := by
  have HP := Lib.hid hp
  clear hp
  go_enter Tryz.func150, Tryz.ntmps150
  go_wp2_with fail
  refine Calls.mono (Po.Disc_ok _ d1 d2 d3 l _ (HP.out.below (by repeat (first | with_reducible exact Below.refl _ _ | with_reducible assumption | with_reducible refine Below.setCell ?_ (by first | omega | (simp <;> omega)) _ | with_reducible refine balloc ?_ _ | with_reducible refine Below.drew ?_ | with_reducible refine bstep ?_ (by with_reducible assumption)))) hv hd h3) ?_
  rintro e w1 ⟨rfl, hb1⟩
  go_wp2
  go_ret
  exact ⟨rfl, (by repeat (first | with_reducible exact Below.refl _ _ | with_reducible assumption | with_reducible refine Below.setCell ?_ (by first | omega | (simp <;> omega)) _ | with_reducible refine balloc ?_ _ | with_reducible refine Below.drew ?_ | with_reducible refine bstep ?_ (by with_reducible assumption)))⟩

set_option maxRecDepth 100000 in
set_option maxHeartbeats 1600000 in
theorem pholdsPoly_c (v : Value) (l : List Po.Pt) (u : Value) (m : List Po.Pt) (w : World) (hp : Po.Pts w v l) (hv : Po.vaL l = true) (hu : Po.Pts w u m) (hm : Po.vaL m = true) : Calls Tryz.prog 197 #[v, u] w (Ret w (.bool (Po.hoL l m))) := by
  have HP := Lib.hid hp
  clear hp
  have HU := Lib.hid hu
  clear hu
  go_enter Tryz.func197, Tryz.ntmps197
  go_wp2_with fail
  refine Calls.mono (Po.Holds_ok _ _ l m _ (HP.out.below (by repeat (first | with_reducible exact Below.refl _ _ | with_reducible assumption | with_reducible refine Below.setCell ?_ (by first | omega | (simp <;> omega)) _ | with_reducible refine balloc ?_ _ | with_reducible refine Below.drew ?_ | with_reducible refine bstep ?_ (by with_reducible assumption)))) (HU.out.below (by repeat (first | with_reducible exact Below.refl _ _ | with_reducible assumption | with_reducible refine Below.setCell ?_ (by first | omega | (simp <;> omega)) _ | with_reducible refine balloc ?_ _ | with_reducible refine Below.drew ?_ | with_reducible refine bstep ?_ (by with_reducible assumption)))) hv hm) ?_
  rintro e w1 ⟨rfl, hb1⟩
  go_wp2
  go_ret
  exact ⟨rfl, (by repeat (first | with_reducible exact Below.refl _ _ | with_reducible assumption | with_reducible refine Below.setCell ?_ (by first | omega | (simp <;> omega)) _ | with_reducible refine balloc ?_ _ | with_reducible refine Below.drew ?_ | with_reducible refine bstep ?_ (by with_reducible assumption)))⟩

set_option maxRecDepth 100000 in
set_option maxHeartbeats 1600000 in
theorem ptouchesPoly_c (v : Value) (l : List Po.Pt) (u : Value) (m : List Po.Pt) (w : World) (hp : Po.Pts w v l) (hv : Po.vaL l = true) (hu : Po.Pts w u m) (hm : Po.vaL m = true) : Calls Tryz.prog 199 #[v, u] w (Ret w (.bool (Po.touL l m))) := by
  have HP := Lib.hid hp
  clear hp
  have HU := Lib.hid hu
  clear hu
  go_enter Tryz.func199, Tryz.ntmps199
  go_wp2_with fail
  refine Calls.mono (Po.Touch_ok _ _ l m _ (HP.out.below (by repeat (first | with_reducible exact Below.refl _ _ | with_reducible assumption | with_reducible refine Below.setCell ?_ (by first | omega | (simp <;> omega)) _ | with_reducible refine balloc ?_ _ | with_reducible refine Below.drew ?_ | with_reducible refine bstep ?_ (by with_reducible assumption)))) (HU.out.below (by repeat (first | with_reducible exact Below.refl _ _ | with_reducible assumption | with_reducible refine Below.setCell ?_ (by first | omega | (simp <;> omega)) _ | with_reducible refine balloc ?_ _ | with_reducible refine Below.drew ?_ | with_reducible refine bstep ?_ (by with_reducible assumption)))) hv hm) ?_
  rintro e w1 ⟨rfl, hb1⟩
  go_wp2
  go_ret
  exact ⟨rfl, (by repeat (first | with_reducible exact Below.refl _ _ | with_reducible assumption | with_reducible refine Below.setCell ?_ (by first | omega | (simp <;> omega)) _ | with_reducible refine balloc ?_ _ | with_reducible refine Below.drew ?_ | with_reducible refine bstep ?_ (by with_reducible assumption)))⟩

set_option maxRecDepth 100000 in
set_option maxHeartbeats 1600000 in
theorem pbox_c (v : Value) (l : List Po.Pt) (w : World) (hp : Po.Pts w v l) (hv : Po.vaL l = true) : Calls Tryz.prog 194 #[v] w (Ret w (.agg #[(.int .i64 ((Po.bxL l l.length).1.1)), (.int .i64 ((Po.bxL l l.length).1.2)), (.int .i64 ((Po.bxL l l.length).2.1)), (.int .i64 ((Po.bxL l l.length).2.2))])) := by
  have C := fun W h => Po.Box_ok v l W h hv
  have HP := Lib.hid hp
  clear hp
  generalize (Po.bxL l l.length).1.1 = x1 at *
  generalize (Po.bxL l l.length).1.2 = x2 at *
  generalize (Po.bxL l l.length).2.1 = x3 at *
  generalize (Po.bxL l l.length).2.2 = x4 at *
  go_enter Tryz.func194, Tryz.ntmps194
  go_wp2_with fail
  refine Calls.mono (C _ (HP.out.below (by repeat (first | with_reducible exact Below.refl _ _ | with_reducible assumption | with_reducible refine Below.setCell ?_ (by first | omega | (simp <;> omega)) _ | with_reducible refine balloc ?_ _ | with_reducible refine Below.drew ?_ | with_reducible refine bstep ?_ (by with_reducible assumption))))) ?_
  rintro e w1 ⟨rfl, hbW⟩
  clear C
  obtain ⟨hc1, hf1⟩ := bcell hbW
  have hsz := hbW.size
  (try simp at hsz)
  have gs0 : w.heap.size < w1.heap.size := (by first | omega | (simp <;> omega))
  have g0 := fun o => hc1 w.heap.size o (by first | omega | (simp <;> omega))
  have j0 := fun o => hf1 w.heap.size o (by first | omega | (simp <;> omega))
  clear hc1 hf1 hsz
  have n0 : ¬ (w.heap.size = w1.heap.size) := by omega
  have n1 : ¬ (w1.heap.size = w.heap.size) := by omega
  go_wp2
  refine bodyPost_ret ?_ rfl ⟨rfl, (by repeat (first | with_reducible exact Below.refl _ _ | with_reducible assumption | with_reducible refine Below.setCell ?_ (by first | omega | (simp <;> omega)) _ | with_reducible refine balloc ?_ _ | with_reducible refine Below.drew ?_ | with_reducible refine bstep ?_ (by with_reducible assumption)))⟩
  simp [results, Tryz.results194, go_sem, g0, gs0, n0, n1]

set_option maxRecDepth 100000 in
set_option maxHeartbeats 1600000 in
theorem dtouchesPoly_c (v : Value) (l : List Po.Pt) (d1 d2 d3 : Int) (w : World) (hp : Po.Pts w v l) (hv : Po.vaL l = true) (hd : ok d1 d2) (h3 : okd d3) : Calls Tryz.prog 145 #[(.agg #[(.int .i64 d1), (.int .i64 d2), (.int .i64 d3)]), v] w (Ret w (.bool (decide (0 ≤ Po.diL l (d1, d2) d3)))) := by
  have HP := Lib.hid hp
  clear hp
  go_enter Tryz.func145, Tryz.ntmps145
  go_wp2_with fail
  refine Calls.mono (ptouchesDisc_c _ l d1 d2 d3 _ (HP.out.below (by repeat (first | with_reducible exact Below.refl _ _ | with_reducible assumption | with_reducible refine Below.setCell ?_ (by first | omega | (simp <;> omega)) _ | with_reducible refine balloc ?_ _ | with_reducible refine Below.drew ?_ | with_reducible refine bstep ?_ (by with_reducible assumption)))) hv hd h3) ?_
  rintro e w1 ⟨rfl, hb1⟩
  go_wp2
  go_ret
  exact ⟨rfl, (by repeat (first | with_reducible exact Below.refl _ _ | with_reducible assumption | with_reducible refine Below.setCell ?_ (by first | omega | (simp <;> omega)) _ | with_reducible refine balloc ?_ _ | with_reducible refine Below.drew ?_ | with_reducible refine bstep ?_ (by with_reducible assumption)))⟩


end Go.Proofs.YtfgajejhjbfhjaaGreat.Fe
end

section
namespace Go.Proofs.YtfgajejhjbfhjaaGreat.Fe
open Go.RowKit
set_option linter.unusedSimpArgs false
set_option linter.unusedVariables false

theorem ta_dd (x y r : Int) (w : World) : (Instr.typeAssert (.iface 81 (.agg #[(.int .i64 x), (.int .i64 y), (.int .i64 r)])) 57 81 true).run Tryz.prog w = .ok (.tuple #[(.agg #[(.int .i64 x), (.int .i64 y), (.int .i64 r)]), .bool true]) w := by kernel_rfl
theorem ta_dp (x y r : Int) (w : World) : (Instr.typeAssert (.iface 81 (.agg #[(.int .i64 x), (.int .i64 y), (.int .i64 r)])) 57 82 true).run Tryz.prog w = .ok (.tuple #[(.slice none 0 0), .bool false]) w := by kernel_rfl
theorem ta_dl (x y r : Int) (w : World) : (Instr.typeAssert (.iface 81 (.agg #[(.int .i64 x), (.int .i64 y), (.int .i64 r)])) 57 75 true).run Tryz.prog w = .ok (.tuple #[(.agg #[(.int .i64 0), (.int .i64 0), .slice none 0 0]), .bool false]) w := by kernel_rfl
theorem ta_pd (a : Option Addr) (n c : Nat) (w : World) : (Instr.typeAssert (.iface 82 (.slice a n c)) 57 81 true).run Tryz.prog w = .ok (.tuple #[(.agg #[(.int .i64 0), (.int .i64 0), (.int .i64 0)]), .bool false]) w := by kernel_rfl
theorem ta_pp (a : Option Addr) (n c : Nat) (w : World) : (Instr.typeAssert (.iface 82 (.slice a n c)) 57 82 true).run Tryz.prog w = .ok (.tuple #[(.slice a n c), .bool true]) w := by kernel_rfl
theorem ta_pl (a : Option Addr) (n c : Nat) (w : World) : (Instr.typeAssert (.iface 82 (.slice a n c)) 57 75 true).run Tryz.prog w = .ok (.tuple #[(.agg #[(.int .i64 0), (.int .i64 0), .slice none 0 0]), .bool false]) w := by kernel_rfl
theorem ta_ld (x y : Int) (s : Value) (w : World) : (Instr.typeAssert (.iface 75 (.agg #[(.int .i64 x), (.int .i64 y), s])) 57 81 true).run Tryz.prog w = .ok (.tuple #[(.agg #[(.int .i64 0), (.int .i64 0), (.int .i64 0)]), .bool false]) w := by kernel_rfl
theorem ta_lp (x y : Int) (s : Value) (w : World) : (Instr.typeAssert (.iface 75 (.agg #[(.int .i64 x), (.int .i64 y), s])) 57 82 true).run Tryz.prog w = .ok (.tuple #[(.slice none 0 0), .bool false]) w := by kernel_rfl
theorem ta_ll (x y : Int) (s : Value) (w : World) : (Instr.typeAssert (.iface 75 (.agg #[(.int .i64 x), (.int .i64 y), s])) 57 75 true).run Tryz.prog w = .ok (.tuple #[(.agg #[(.int .i64 x), (.int .i64 y), s]), .bool true]) w := by kernel_rfl

set_option maxRecDepth 100000 in
set_option maxHeartbeats 1600000 in
theorem yd_c (l1 l2 : Int) (v : Value) (d1 d2 d3 : Int) (w : World)  : Calls Tryz.prog 50 #[(.agg #[(.int .i64 l1), (.int .i64 l2), v]), .iface 81 (.agg #[(.int .i64 d1), (.int .i64 d2), (.int .i64 d3)])] w (Ret w (.bool false)) := by
  have T := fun W => ta_dl d1 d2 d3 W
  go_enter Tryz.func50, Tryz.ntmps50
  go_wp2
  all_goals
    go_ret
    exact ⟨rfl, (by repeat (first | with_reducible exact Below.refl _ _ | with_reducible assumption | with_reducible refine Below.setCell ?_ (by first | omega | (simp <;> omega)) _ | with_reducible refine balloc ?_ _ | with_reducible refine Below.drew ?_ | with_reducible refine bstep ?_ (by with_reducible assumption)))⟩

set_option maxRecDepth 100000 in
set_option maxHeartbeats 1600000 in
theorem yp_c (l1 l2 : Int) (v : Value) (pa : Option Addr) (na ca : Nat) (w : World)  : Calls Tryz.prog 50 #[(.agg #[(.int .i64 l1), (.int .i64 l2), v]), .iface 82 (.slice pa na ca)] w (Ret w (.bool false)) := by
  have T := fun W => ta_pl pa na ca W
  go_enter Tryz.func50, Tryz.ntmps50
  go_wp2
  all_goals
    go_ret
    exact ⟨rfl, (by repeat (first | with_reducible exact Below.refl _ _ | with_reducible assumption | with_reducible refine Below.setCell ?_ (by first | omega | (simp <;> omega)) _ | with_reducible refine balloc ?_ _ | with_reducible refine Below.drew ?_ | with_reducible refine bstep ?_ (by with_reducible assumption)))⟩

set_option maxRecDepth 100000 in
set_option maxHeartbeats 1600000 in
theorem yl_c (l1 l2 e1 e2 : Int) (v : Value) (pu : Option Addr) (nu cu : Nat) (l m : List Se.Sec) (w : World) (hl : Se.Secs w v l) (hm : Se.Secs w (.slice pu nu cu) m) (vl : Se.vaL l = true) (vm : Se.vaL m = true) : Calls Tryz.prog 50 #[(.agg #[(.int .i64 l1), (.int .i64 l2), v]), .iface 75 (.agg #[(.int .i64 e1), (.int .i64 e2), .slice pu nu cu])] w (Ret w (.bool (decide (e1 = l1) && decide (e2 = l2) && Se.hoL m l 1))) := by
  have HL := Lib.hid hl
  have HM := Lib.hid hm
  have C := fun W h1 h2 => Se.Safer_ok v (.slice pu nu cu) l m W h1 h2 vl vm
  clear hl hm vl vm
  have T := fun W => ta_ll e1 e2 (.slice pu nu cu) W
  generalize Se.hoL m l 1 = r at *
  rcases Decidable.em (e1 = l1) with v1 | v1
  · subst v1
    rcases Decidable.em (e2 = l2) with v2 | v2
    · subst v2
      go_enter Tryz.func50, Tryz.ntmps50
      go_wp2_with (first | (go_at_call 68; refine Calls.mono (C _ (HL.out.below (by repeat (first | with_reducible exact Below.refl _ _ | with_reducible assumption | with_reducible refine Below.setCell ?_ (by first | omega | (simp <;> omega)) _ | with_reducible refine balloc ?_ _ | with_reducible refine Below.drew ?_ | with_reducible refine bstep ?_ (by with_reducible assumption)))) (HM.out.below (by repeat (first | with_reducible exact Below.refl _ _ | with_reducible assumption | with_reducible refine Below.setCell ?_ (by first | omega | (simp <;> omega)) _ | with_reducible refine balloc ?_ _ | with_reducible refine Below.drew ?_ | with_reducible refine bstep ?_ (by with_reducible assumption))))) ?_; rintro e w1 ⟨rfl, hb1⟩))
      (try clear C)
      go_ret
      refine ⟨?_, (by repeat (first | with_reducible exact Below.refl _ _ | with_reducible assumption | with_reducible refine Below.setCell ?_ (by first | omega | (simp <;> omega)) _ | with_reducible refine balloc ?_ _ | with_reducible refine Below.drew ?_ | with_reducible refine bstep ?_ (by with_reducible assumption)))⟩
      simp
    · have v3 : (e2 == l2) = false := by rw [beq_eq_false_iff_ne]; exact v2
      have v4 : decide (e2 = l2) = false := decide_eq_false v2
      clear v2
      go_enter Tryz.func50, Tryz.ntmps50
      go_wp2
      go_ret
      refine ⟨?_, (by repeat (first | with_reducible exact Below.refl _ _ | with_reducible assumption | with_reducible refine Below.setCell ?_ (by first | omega | (simp <;> omega)) _ | with_reducible refine balloc ?_ _ | with_reducible refine Below.drew ?_ | with_reducible refine bstep ?_ (by with_reducible assumption)))⟩
      simp [v4]
  · have v3 : (e1 == l1) = false := by rw [beq_eq_false_iff_ne]; exact v1
    have v4 : decide (e1 = l1) = false := decide_eq_false v1
    clear v1
    go_enter Tryz.func50, Tryz.ntmps50
    go_wp2
    go_ret
    refine ⟨?_, (by repeat (first | with_reducible exact Below.refl _ _ | with_reducible assumption | with_reducible refine Below.setCell ?_ (by first | omega | (simp <;> omega)) _ | with_reducible refine balloc ?_ _ | with_reducible refine Below.drew ?_ | with_reducible refine bstep ?_ (by with_reducible assumption)))⟩
    simp [v4]

set_option maxRecDepth 100000 in
set_option maxHeartbeats 1600000 in
theorem lbox_c (l1 l2 : Int) (v : Value) (w : World) (h1 : ok l1 l2) : Calls Tryz.prog 131 #[(.agg #[(.int .i64 l1), (.int .i64 l2), v])] w (Ret w (.agg #[(.int .i64 l1), (.int .i64 l1), (.int .i64 l2), (.int .i64 l2)])) := by
  have C := fun W => dbox_c l1 l2 0 W
  have e1 : wrap64 (l1 - 0) = l1 := by unfold ok at h1; exact (IntWalk.wrap64_in _ (by omega)).trans (by omega)
  have e2 : wrap64 (l1 + 0) = l1 := by unfold ok at h1; exact (IntWalk.wrap64_in _ (by omega)).trans (by omega)
  have e3 : wrap64 (l2 - 0) = l2 := by unfold ok at h1; exact (IntWalk.wrap64_in _ (by omega)).trans (by omega)
  have e4 : wrap64 (l2 + 0) = l2 := by unfold ok at h1; exact (IntWalk.wrap64_in _ (by omega)).trans (by omega)
  rw [e1, e2, e3, e4] at C
  clear e1 e2 e3 e4 h1
  go_enter Tryz.func131, Tryz.ntmps131
  go_wp2_with fail
  refine Calls.mono (C _) ?_
  rintro e w1 ⟨rfl, hbW⟩
  clear C
  obtain ⟨hc1, hf1⟩ := bcell hbW
  have hsz := hbW.size
  (try simp at hsz)
  have gs0 : w.heap.size + 1 < w1.heap.size := (by first | omega | (simp <;> omega))
  have g0 := fun o => hc1 (w.heap.size + 1) o (by first | omega | (simp <;> omega))
  have j0 := fun o => hf1 (w.heap.size + 1) o (by first | omega | (simp <;> omega))
  clear hc1 hf1 hsz
  go_wp2
  refine bodyPost_ret ?_ rfl ⟨rfl, (by repeat (first | with_reducible exact Below.refl _ _ | with_reducible assumption | with_reducible refine Below.setCell ?_ (by first | omega | (simp <;> omega)) _ | with_reducible refine balloc ?_ _ | with_reducible refine Below.drew ?_ | with_reducible refine bstep ?_ (by with_reducible assumption)))⟩
  simp [results, Tryz.results131, go_sem, g0, gs0]

end Go.Proofs.YtfgajejhjbfhjaaGreat.Fe
end

section
namespace Go.Proofs.YtfgajejhjbfhjaaGreat.Fe
open Go.RowKit
set_option linter.unusedSimpArgs false
set_option linter.unusedVariables false

set_option maxRecDepth 100000 in
set_option maxHeartbeats 1600000 in
theorem holds_dd (d1 d2 d3 : Int) (e1 e2 e3 : Int) (w : World) (hd : ok d1 d2) (h3 : 0 ≤ d3 ∧ d3 ≤ 100000) (he : ok e1 e2) (h4 : 0 ≤ e3 ∧ e3 ≤ 100000) : Calls Tryz.prog 47 #[.iface 81 (.agg #[(.int .i64 d1), (.int .i64 d2), (.int .i64 d3)]), .iface 81 (.agg #[(.int .i64 e1), (.int .i64 e2), (.int .i64 e3)])] w (Ret w (.bool (lieB e1 e2 e3 d1 d2 d3))) := by
  have T := fun W => ta_dd e1 e2 e3 W
  have M := fun k W => md_dholdsDisc d1 d2 d3 k W
  go_enter Tryz.func47, Tryz.ntmps47
  go_wp2_with fail
  refine Calls.mono (dholdsDisc_c d1 d2 d3 e1 e2 e3 _ hd h3 he h4) ?_
  rintro e w1 ⟨rfl, hb1⟩
  clear T M
  go_wp2
  go_ret
  exact ⟨rfl, (by repeat (first | with_reducible exact Below.refl _ _ | with_reducible assumption | with_reducible refine Below.setCell ?_ (by first | omega | (simp <;> omega)) _ | with_reducible refine balloc ?_ _ | with_reducible refine Below.drew ?_ | with_reducible refine bstep ?_ (by with_reducible assumption)))⟩

set_option maxRecDepth 100000 in
set_option maxHeartbeats 1600000 in
theorem holds_dp (d1 d2 d3 : Int) (qa : Option Addr) (ma da : Nat) (m : List Po.Pt) (w : World) (hd : ok d1 d2) (h3 : 0 ≤ d3 ∧ d3 ≤ 100000) (hu : Po.Pts w (.slice qa ma da) m) (hm : Po.vaL m = true) : Calls Tryz.prog 47 #[.iface 81 (.agg #[(.int .i64 d1), (.int .i64 d2), (.int .i64 d3)]), .iface 82 (.slice qa ma da)] w (Ret w (.bool (!lackD m d1 d2 d3))) := by
  have HU := Lib.hid hu
  clear hu
  have T := fun W => ta_pd qa ma da W
  have T2 := fun W => ta_pp qa ma da W
  have M := fun k W => md_dholdsPolygon d1 d2 d3 k W
  go_enter Tryz.func47, Tryz.ntmps47
  go_wp2_with fail
  refine Calls.mono (dholdsPoly_c d1 d2 d3 _ m _ (HU.out.below (by repeat (first | with_reducible exact Below.refl _ _ | with_reducible assumption | with_reducible refine Below.setCell ?_ (by first | omega | (simp <;> omega)) _ | with_reducible refine balloc ?_ _ | with_reducible refine Below.drew ?_ | with_reducible refine bstep ?_ (by with_reducible assumption)))) hm hd h3) ?_
  rintro e w1 ⟨rfl, hb1⟩
  clear T M
  go_wp2
  go_ret
  exact ⟨rfl, (by repeat (first | with_reducible exact Below.refl _ _ | with_reducible assumption | with_reducible refine Below.setCell ?_ (by first | omega | (simp <;> omega)) _ | with_reducible refine balloc ?_ _ | with_reducible refine Below.drew ?_ | with_reducible refine bstep ?_ (by with_reducible assumption)))⟩

set_option maxRecDepth 100000 in
set_option maxHeartbeats 1600000 in
theorem holds_pd (pa : Option Addr) (na ca : Nat) (l : List Po.Pt) (e1 e2 e3 : Int) (w : World) (hp : Po.Pts w (.slice pa na ca) l) (hv : Po.vaL l = true) (he : ok e1 e2) (h4 : 0 ≤ e3 ∧ e3 ≤ 100000) : Calls Tryz.prog 47 #[.iface 82 (.slice pa na ca), .iface 81 (.agg #[(.int .i64 e1), (.int .i64 e2), (.int .i64 e3)])] w (Ret w (.bool (decide (0 < Po.diL l (e1, e2) e3)))) := by
  have HP := Lib.hid hp
  clear hp
  have T := fun W => ta_dd e1 e2 e3 W
  have M := fun k W => md_pholdsDisc pa na ca k W
  go_enter Tryz.func47, Tryz.ntmps47
  go_wp2_with fail
  refine Calls.mono (pholdsDisc_c _ l e1 e2 e3 _ (HP.out.below (by repeat (first | with_reducible exact Below.refl _ _ | with_reducible assumption | with_reducible refine Below.setCell ?_ (by first | omega | (simp <;> omega)) _ | with_reducible refine balloc ?_ _ | with_reducible refine Below.drew ?_ | with_reducible refine bstep ?_ (by with_reducible assumption)))) hv he (by unfold okd; omega)) ?_
  rintro e w1 ⟨rfl, hb1⟩
  clear T M
  go_wp2
  go_ret
  exact ⟨rfl, (by repeat (first | with_reducible exact Below.refl _ _ | with_reducible assumption | with_reducible refine Below.setCell ?_ (by first | omega | (simp <;> omega)) _ | with_reducible refine balloc ?_ _ | with_reducible refine Below.drew ?_ | with_reducible refine bstep ?_ (by with_reducible assumption)))⟩

set_option maxRecDepth 100000 in
set_option maxHeartbeats 1600000 in
theorem holds_pp (pa : Option Addr) (na ca : Nat) (l : List Po.Pt) (qa : Option Addr) (ma da : Nat) (m : List Po.Pt) (w : World) (hp : Po.Pts w (.slice pa na ca) l) (hv : Po.vaL l = true) (hu : Po.Pts w (.slice qa ma da) m) (hm : Po.vaL m = true) : Calls Tryz.prog 47 #[.iface 82 (.slice pa na ca), .iface 82 (.slice qa ma da)] w (Ret w (.bool (Po.hoL l m))) := by
  have HP := Lib.hid hp
  clear hp
  have HU := Lib.hid hu
  clear hu
  have T := fun W => ta_pd qa ma da W
  have T2 := fun W => ta_pp qa ma da W
  have M := fun k W => md_pholdsPolygon pa na ca k W
  go_enter Tryz.func47, Tryz.ntmps47
  go_wp2_with fail
  refine Calls.mono (pholdsPoly_c _ l _ m _ (HP.out.below (by repeat (first | with_reducible exact Below.refl _ _ | with_reducible assumption | with_reducible refine Below.setCell ?_ (by first | omega | (simp <;> omega)) _ | with_reducible refine balloc ?_ _ | with_reducible refine Below.drew ?_ | with_reducible refine bstep ?_ (by with_reducible assumption)))) hv (HU.out.below (by repeat (first | with_reducible exact Below.refl _ _ | with_reducible assumption | with_reducible refine Below.setCell ?_ (by first | omega | (simp <;> omega)) _ | with_reducible refine balloc ?_ _ | with_reducible refine Below.drew ?_ | with_reducible refine bstep ?_ (by with_reducible assumption)))) hm) ?_
  rintro e w1 ⟨rfl, hb1⟩
  clear T M
  go_wp2
  go_ret
  exact ⟨rfl, (by repeat (first | with_reducible exact Below.refl _ _ | with_reducible assumption | with_reducible refine Below.setCell ?_ (by first | omega | (simp <;> omega)) _ | with_reducible refine balloc ?_ _ | with_reducible refine Below.drew ?_ | with_reducible refine bstep ?_ (by with_reducible assumption)))⟩

set_option maxRecDepth 100000 in
set_option maxHeartbeats 1600000 in
theorem holds_ld (x1 x2 : Int) (ps : Option Addr) (ns cs : Nat) (e1 e2 e3 : Int) (w : World)  (he : ok e1 e2) (h4 : 0 ≤ e3 ∧ e3 ≤ 100000) : Calls Tryz.prog 47 #[.iface 75 (.agg #[(.int .i64 x1), (.int .i64 x2), .slice ps ns cs]), .iface 81 (.agg #[(.int .i64 e1), (.int .i64 e2), (.int .i64 e3)])] w (Ret w (.bool false)) := by
  have T := fun W => ta_dd e1 e2 e3 W
  have M := fun k W => md_lholdsDisc x1 x2 (.slice ps ns cs) k W
  go_enter Tryz.func47, Tryz.ntmps47
  go_wp2_with fail
  refine Calls.mono (lholdsDisc_c x1 x2 e1 e2 e3 (.slice ps ns cs) _) ?_
  rintro e w1 ⟨rfl, hb1⟩
  clear T M
  go_wp2
  go_ret
  exact ⟨rfl, (by repeat (first | with_reducible exact Below.refl _ _ | with_reducible assumption | with_reducible refine Below.setCell ?_ (by first | omega | (simp <;> omega)) _ | with_reducible refine balloc ?_ _ | with_reducible refine Below.drew ?_ | with_reducible refine bstep ?_ (by with_reducible assumption)))⟩

set_option maxRecDepth 100000 in
set_option maxHeartbeats 1600000 in
theorem holds_lp (x1 x2 : Int) (ps : Option Addr) (ns cs : Nat) (qa : Option Addr) (ma da : Nat) (m : List Po.Pt) (w : World)  (hu : Po.Pts w (.slice qa ma da) m) (hm : Po.vaL m = true) : Calls Tryz.prog 47 #[.iface 75 (.agg #[(.int .i64 x1), (.int .i64 x2), .slice ps ns cs]), .iface 82 (.slice qa ma da)] w (Ret w (.bool false)) := by
  have HU := Lib.hid hu
  clear hu
  have T := fun W => ta_pd qa ma da W
  have T2 := fun W => ta_pp qa ma da W
  have M := fun k W => md_lholdsPolygon x1 x2 (.slice ps ns cs) k W
  go_enter Tryz.func47, Tryz.ntmps47
  go_wp2_with fail
  refine Calls.mono (lholdsPolygon_c x1 x2 (.slice ps ns cs) _ _) ?_
  rintro e w1 ⟨rfl, hb1⟩
  clear T M
  go_wp2
  go_ret
  exact ⟨rfl, (by repeat (first | with_reducible exact Below.refl _ _ | with_reducible assumption | with_reducible refine Below.setCell ?_ (by first | omega | (simp <;> omega)) _ | with_reducible refine balloc ?_ _ | with_reducible refine Below.drew ?_ | with_reducible refine bstep ?_ (by with_reducible assumption)))⟩

set_option maxRecDepth 100000 in
set_option maxHeartbeats 1600000 in
theorem holds_l (u : Value) (x1 x2 : Int) (ps : Option Addr) (ns cs : Nat) (w : World)  : Calls Tryz.prog 47 #[u, .iface 75 (.agg #[(.int .i64 x1), (.int .i64 x2), .slice ps ns cs])] w (Ret w (.bool true)) := by
  have T := fun W => ta_ld x1 x2 (.slice ps ns cs) W
  have T2 := fun W => ta_lp x1 x2 (.slice ps ns cs) W
  go_enter Tryz.func47, Tryz.ntmps47
  go_wp2
  go_ret
  exact ⟨rfl, (by repeat (first | with_reducible exact Below.refl _ _ | with_reducible assumption | with_reducible refine Below.setCell ?_ (by first | omega | (simp <;> omega)) _ | with_reducible refine balloc ?_ _ | with_reducible refine Below.drew ?_ | with_reducible refine bstep ?_ (by with_reducible assumption)))⟩


end Go.Proofs.YtfgajejhjbfhjaaGreat.Fe
end

section
namespace Go.Proofs.YtfgajejhjbfhjaaGreat.Fe
open Go.RowKit
set_option linter.unusedSimpArgs false
set_option linter.unusedVariables false

/-- What shapes cover, hold, touch, and stand for. -/
def coS : Sh → Int → Int → Bool
  | .dis x y r, p, q => nearB p q x y x y r
  | .pol l, p, q => decide (0 ≤ Po.siL (p, q) l)
  | .lig _ _ _, _, _ => false
def hoS : Sh → Sh → Bool
  | .dis d1 d2 d3, .dis e1 e2 e3 => lieB e1 e2 e3 d1 d2 d3
  | .dis d1 d2 d3, .pol m => !lackD m d1 d2 d3
  | .pol l, .dis e1 e2 e3 => decide (0 < Po.diL l (e1, e2) e3)
  | .pol l, .pol m => Po.hoL l m
  | .lig _ _ _, .dis _ _ _ => false
  | .lig _ _ _, .pol _ => false
  | _, .lig _ _ _ => true
def toS : Sh → Sh → Bool
  | .dis d1 d2 d3, .dis e1 e2 e3 => nearB e1 e2 d1 d2 d1 d2 (d3 + e3)
  | .dis d1 d2 d3, .pol m => decide (0 ≤ Po.diL m (d1, d2) d3)
  | .pol l, .dis e1 e2 e3 => decide (0 ≤ Po.diL l (e1, e2) e3)
  | .pol l, .pol m => Po.touL l m
  | .lig _ _ _, .dis _ _ _ => false
  | .lig _ _ _, .pol _ => false
  | _, .lig _ _ _ => false
def stS : Sh → Sh → Int → Int → Bool
  | .lig x y s, .lig x' y' t, _, _ => decide (x' = x) && decide (y' = y) && Se.hoL t s 1
  | .lig _ _ _, .dis _ _ _, _, _ => false
  | .lig _ _ _, .pol _, _, _ => false
  | s, t, a, b => hoS t s && decide (b ≤ a)

set_option maxRecDepth 100000 in
set_option maxHeartbeats 1600000 in
theorem touches_dd (d1 d2 d3 : Int) (e1 e2 e3 : Int) (w : World) (hd : ok d1 d2) (h3 : 0 ≤ d3 ∧ d3 ≤ 100000) (he : ok e1 e2) (h4 : 0 ≤ e3 ∧ e3 ≤ 100000) : Calls Tryz.prog 52 #[.iface 81 (.agg #[(.int .i64 d1), (.int .i64 d2), (.int .i64 d3)]), .iface 81 (.agg #[(.int .i64 e1), (.int .i64 e2), (.int .i64 e3)])] w (Ret w (.bool (nearB e1 e2 d1 d2 d1 d2 (d3 + e3)))) := by
  have T := fun W => ta_dd e1 e2 e3 W
  have M := fun k W => md_dtouchesDisc d1 d2 d3 k W
  go_enter Tryz.func52, Tryz.ntmps52
  go_wp2_with fail
  refine Calls.mono (dtouchesDisc_c d1 d2 d3 e1 e2 e3 _ hd h3 he h4) ?_
  rintro e w1 ⟨rfl, hb1⟩
  clear T M
  go_wp2
  go_ret
  exact ⟨rfl, (by repeat (first | with_reducible exact Below.refl _ _ | with_reducible assumption | with_reducible refine Below.setCell ?_ (by first | omega | (simp <;> omega)) _ | with_reducible refine balloc ?_ _ | with_reducible refine Below.drew ?_ | with_reducible refine bstep ?_ (by with_reducible assumption)))⟩

set_option maxRecDepth 100000 in
set_option maxHeartbeats 1600000 in
theorem touches_dp (d1 d2 d3 : Int) (qa : Option Addr) (ma da : Nat) (m : List Po.Pt) (w : World) (hd : ok d1 d2) (h3 : 0 ≤ d3 ∧ d3 ≤ 100000) (hu : Po.Pts w (.slice qa ma da) m) (hm : Po.vaL m = true) : Calls Tryz.prog 52 #[.iface 81 (.agg #[(.int .i64 d1), (.int .i64 d2), (.int .i64 d3)]), .iface 82 (.slice qa ma da)] w (Ret w (.bool (decide (0 ≤ Po.diL m (d1, d2) d3)))) := by
  have HU := Lib.hid hu
  clear hu
  have T := fun W => ta_pd qa ma da W
  have T2 := fun W => ta_pp qa ma da W
  have M := fun k W => md_dtouchesPolygon d1 d2 d3 k W
  go_enter Tryz.func52, Tryz.ntmps52
  go_wp2_with fail
  refine Calls.mono (dtouchesPoly_c _ m d1 d2 d3 _ (HU.out.below (by repeat (first | with_reducible exact Below.refl _ _ | with_reducible assumption | with_reducible refine Below.setCell ?_ (by first | omega | (simp <;> omega)) _ | with_reducible refine balloc ?_ _ | with_reducible refine Below.drew ?_ | with_reducible refine bstep ?_ (by with_reducible assumption)))) hm hd (by unfold okd; omega)) ?_
  rintro e w1 ⟨rfl, hb1⟩
  clear T M
  go_wp2
  go_ret
  exact ⟨rfl, (by repeat (first | with_reducible exact Below.refl _ _ | with_reducible assumption | with_reducible refine Below.setCell ?_ (by first | omega | (simp <;> omega)) _ | with_reducible refine balloc ?_ _ | with_reducible refine Below.drew ?_ | with_reducible refine bstep ?_ (by with_reducible assumption)))⟩

set_option maxRecDepth 100000 in
set_option maxHeartbeats 1600000 in
theorem touches_pd (pa : Option Addr) (na ca : Nat) (l : List Po.Pt) (e1 e2 e3 : Int) (w : World) (hp : Po.Pts w (.slice pa na ca) l) (hv : Po.vaL l = true) (he : ok e1 e2) (h4 : 0 ≤ e3 ∧ e3 ≤ 100000) : Calls Tryz.prog 52 #[.iface 82 (.slice pa na ca), .iface 81 (.agg #[(.int .i64 e1), (.int .i64 e2), (.int .i64 e3)])] w (Ret w (.bool (decide (0 ≤ Po.diL l (e1, e2) e3)))) := by
  have HP := Lib.hid hp
  clear hp
  have T := fun W => ta_dd e1 e2 e3 W
  have M := fun k W => md_ptouchesDisc pa na ca k W
  go_enter Tryz.func52, Tryz.ntmps52
  go_wp2_with fail
  refine Calls.mono (ptouchesDisc_c _ l e1 e2 e3 _ (HP.out.below (by repeat (first | with_reducible exact Below.refl _ _ | with_reducible assumption | with_reducible refine Below.setCell ?_ (by first | omega | (simp <;> omega)) _ | with_reducible refine balloc ?_ _ | with_reducible refine Below.drew ?_ | with_reducible refine bstep ?_ (by with_reducible assumption)))) hv he (by unfold okd; omega)) ?_
  rintro e w1 ⟨rfl, hb1⟩
  clear T M
  go_wp2
  go_ret
  exact ⟨rfl, (by repeat (first | with_reducible exact Below.refl _ _ | with_reducible assumption | with_reducible refine Below.setCell ?_ (by first | omega | (simp <;> omega)) _ | with_reducible refine balloc ?_ _ | with_reducible refine Below.drew ?_ | with_reducible refine bstep ?_ (by with_reducible assumption)))⟩

set_option maxRecDepth 100000 in
set_option maxHeartbeats 1600000 in
theorem touches_pp (pa : Option Addr) (na ca : Nat) (l : List Po.Pt) (qa : Option Addr) (ma da : Nat) (m : List Po.Pt) (w : World) (hp : Po.Pts w (.slice pa na ca) l) (hv : Po.vaL l = true) (hu : Po.Pts w (.slice qa ma da) m) (hm : Po.vaL m = true) : Calls Tryz.prog 52 #[.iface 82 (.slice pa na ca), .iface 82 (.slice qa ma da)] w (Ret w (.bool (Po.touL l m))) := by
  have HP := Lib.hid hp
  clear hp
  have HU := Lib.hid hu
  clear hu
  have T := fun W => ta_pd qa ma da W
  have T2 := fun W => ta_pp qa ma da W
  have M := fun k W => md_ptouchesPolygon pa na ca k W
  go_enter Tryz.func52, Tryz.ntmps52
  go_wp2_with fail
  refine Calls.mono (ptouchesPoly_c _ l _ m _ (HP.out.below (by repeat (first | with_reducible exact Below.refl _ _ | with_reducible assumption | with_reducible refine Below.setCell ?_ (by first | omega | (simp <;> omega)) _ | with_reducible refine balloc ?_ _ | with_reducible refine Below.drew ?_ | with_reducible refine bstep ?_ (by with_reducible assumption)))) hv (HU.out.below (by repeat (first | with_reducible exact Below.refl _ _ | with_reducible assumption | with_reducible refine Below.setCell ?_ (by first | omega | (simp <;> omega)) _ | with_reducible refine balloc ?_ _ | with_reducible refine Below.drew ?_ | with_reducible refine bstep ?_ (by with_reducible assumption)))) hm) ?_
  rintro e w1 ⟨rfl, hb1⟩
  clear T M
  go_wp2
  go_ret
  exact ⟨rfl, (by repeat (first | with_reducible exact Below.refl _ _ | with_reducible assumption | with_reducible refine Below.setCell ?_ (by first | omega | (simp <;> omega)) _ | with_reducible refine balloc ?_ _ | with_reducible refine Below.drew ?_ | with_reducible refine bstep ?_ (by with_reducible assumption)))⟩

set_option maxRecDepth 100000 in
set_option maxHeartbeats 1600000 in
theorem touches_ld (x1 x2 : Int) (ps : Option Addr) (ns cs : Nat) (e1 e2 e3 : Int) (w : World)  (he : ok e1 e2) (h4 : 0 ≤ e3 ∧ e3 ≤ 100000) : Calls Tryz.prog 52 #[.iface 75 (.agg #[(.int .i64 x1), (.int .i64 x2), .slice ps ns cs]), .iface 81 (.agg #[(.int .i64 e1), (.int .i64 e2), (.int .i64 e3)])] w (Ret w (.bool false)) := by
  have T := fun W => ta_dd e1 e2 e3 W
  have M := fun k W => md_ltouchesDisc x1 x2 (.slice ps ns cs) k W
  go_enter Tryz.func52, Tryz.ntmps52
  go_wp2_with fail
  refine Calls.mono (ltouchesDisc_c x1 x2 e1 e2 e3 (.slice ps ns cs) _) ?_
  rintro e w1 ⟨rfl, hb1⟩
  clear T M
  go_wp2
  go_ret
  exact ⟨rfl, (by repeat (first | with_reducible exact Below.refl _ _ | with_reducible assumption | with_reducible refine Below.setCell ?_ (by first | omega | (simp <;> omega)) _ | with_reducible refine balloc ?_ _ | with_reducible refine Below.drew ?_ | with_reducible refine bstep ?_ (by with_reducible assumption)))⟩

set_option maxRecDepth 100000 in
set_option maxHeartbeats 1600000 in
theorem touches_lp (x1 x2 : Int) (ps : Option Addr) (ns cs : Nat) (qa : Option Addr) (ma da : Nat) (m : List Po.Pt) (w : World)  (hu : Po.Pts w (.slice qa ma da) m) (hm : Po.vaL m = true) : Calls Tryz.prog 52 #[.iface 75 (.agg #[(.int .i64 x1), (.int .i64 x2), .slice ps ns cs]), .iface 82 (.slice qa ma da)] w (Ret w (.bool false)) := by
  have HU := Lib.hid hu
  clear hu
  have T := fun W => ta_pd qa ma da W
  have T2 := fun W => ta_pp qa ma da W
  have M := fun k W => md_ltouchesPolygon x1 x2 (.slice ps ns cs) k W
  go_enter Tryz.func52, Tryz.ntmps52
  go_wp2_with fail
  refine Calls.mono (ltouchesPolygon_c x1 x2 (.slice ps ns cs) _ _) ?_
  rintro e w1 ⟨rfl, hb1⟩
  clear T M
  go_wp2
  go_ret
  exact ⟨rfl, (by repeat (first | with_reducible exact Below.refl _ _ | with_reducible assumption | with_reducible refine Below.setCell ?_ (by first | omega | (simp <;> omega)) _ | with_reducible refine balloc ?_ _ | with_reducible refine Below.drew ?_ | with_reducible refine bstep ?_ (by with_reducible assumption)))⟩

set_option maxRecDepth 100000 in
set_option maxHeartbeats 1600000 in
theorem touches_l (u : Value) (x1 x2 : Int) (ps : Option Addr) (ns cs : Nat) (w : World)  : Calls Tryz.prog 52 #[u, .iface 75 (.agg #[(.int .i64 x1), (.int .i64 x2), .slice ps ns cs])] w (Ret w (.bool false)) := by
  have T := fun W => ta_ld x1 x2 (.slice ps ns cs) W
  have T2 := fun W => ta_lp x1 x2 (.slice ps ns cs) W
  go_enter Tryz.func52, Tryz.ntmps52
  go_wp2
  go_ret
  exact ⟨rfl, (by repeat (first | with_reducible exact Below.refl _ _ | with_reducible assumption | with_reducible refine Below.setCell ?_ (by first | omega | (simp <;> omega)) _ | with_reducible refine balloc ?_ _ | with_reducible refine Below.drew ?_ | with_reducible refine bstep ?_ (by with_reducible assumption)))⟩

theorem holds_c (u v : Value) (s t : Sh) (w : World) (hs : ShV w u s) (ht : ShV w v t) : Calls Tryz.prog 47 #[u, v] w (Ret w (.bool (hoS s t))) := by
  cases t with
  | dis e1 e2 e3 =>
    obtain ⟨rfl, hta, htb, htc⟩ := ht
    cases s with
    | dis d1 d2 d3 =>
      obtain ⟨rfl, hsa, hsb, hsc⟩ := hs
      exact holds_dd _ _ _ _ _ _ w hsa ⟨hsb, hsc⟩ hta ⟨htb, htc⟩
    | pol l =>
      obtain ⟨ps, ns, cs, rfl, hsa, hsb⟩ := hs
      exact holds_pd _ _ _ _ _ _ _ w hsa hsb hta ⟨htb, htc⟩
    | lig x y q =>
      obtain ⟨ps, ns, cs, rfl, hsa, hsb, hsc⟩ := hs
      exact holds_ld _ _ _ _ _ _ _ _ w  hta ⟨htb, htc⟩
  | pol m =>
    obtain ⟨pt, nt, ct, rfl, hta, htb⟩ := ht
    cases s with
    | dis d1 d2 d3 =>
      obtain ⟨rfl, hsa, hsb, hsc⟩ := hs
      exact holds_dp _ _ _ _ _ _ _ w hsa ⟨hsb, hsc⟩ hta htb
    | pol l =>
      obtain ⟨ps, ns, cs, rfl, hsa, hsb⟩ := hs
      exact holds_pp _ _ _ _ _ _ _ _ w hsa hsb hta htb
    | lig x y q =>
      obtain ⟨ps, ns, cs, rfl, hsa, hsb, hsc⟩ := hs
      exact holds_lp _ _ _ _ _ _ _ _ _ w  hta htb
  | lig x2 y2 q2 =>
    obtain ⟨pt, nt, ct, rfl, hta, htb, htc⟩ := ht
    cases s <;> exact holds_l _ _ _ _ _ _ w

theorem touches_c (u v : Value) (s t : Sh) (w : World) (hs : ShV w u s) (ht : ShV w v t) : Calls Tryz.prog 52 #[u, v] w (Ret w (.bool (toS s t))) := by
  cases t with
  | dis e1 e2 e3 =>
    obtain ⟨rfl, hta, htb, htc⟩ := ht
    cases s with
    | dis d1 d2 d3 =>
      obtain ⟨rfl, hsa, hsb, hsc⟩ := hs
      exact touches_dd _ _ _ _ _ _ w hsa ⟨hsb, hsc⟩ hta ⟨htb, htc⟩
    | pol l =>
      obtain ⟨ps, ns, cs, rfl, hsa, hsb⟩ := hs
      exact touches_pd _ _ _ _ _ _ _ w hsa hsb hta ⟨htb, htc⟩
    | lig x y q =>
      obtain ⟨ps, ns, cs, rfl, hsa, hsb, hsc⟩ := hs
      exact touches_ld _ _ _ _ _ _ _ _ w  hta ⟨htb, htc⟩
  | pol m =>
    obtain ⟨pt, nt, ct, rfl, hta, htb⟩ := ht
    cases s with
    | dis d1 d2 d3 =>
      obtain ⟨rfl, hsa, hsb, hsc⟩ := hs
      exact touches_dp _ _ _ _ _ _ _ w hsa ⟨hsb, hsc⟩ hta htb
    | pol l =>
      obtain ⟨ps, ns, cs, rfl, hsa, hsb⟩ := hs
      exact touches_pp _ _ _ _ _ _ _ _ w hsa hsb hta htb
    | lig x y q =>
      obtain ⟨ps, ns, cs, rfl, hsa, hsb, hsc⟩ := hs
      exact touches_lp _ _ _ _ _ _ _ _ _ w  hta htb
  | lig x2 y2 q2 =>
    obtain ⟨pt, nt, ct, rfl, hta, htb, htc⟩ := ht
    cases s <;> exact touches_l _ _ _ _ _ _ w


end Go.Proofs.YtfgajejhjbfhjaaGreat.Fe
end

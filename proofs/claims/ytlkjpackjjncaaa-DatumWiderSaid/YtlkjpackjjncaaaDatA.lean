/- DatA: the small functions of package datum. -/
import Derived.Test.YtlkjpackjjncaaaDatM
import Derived.Test.YtlkjpackjjncaaaPlaneA
import Derived.Test.YtlkjpackjjncaaaSpanF
import Derived.Test.YtlkjpackjjncaaaRows
import Derived.WalkKit
import Derived.WalkSpells
import Derived.WalkLawsBesides
import Derived.Lib.Hide
import Derived.Deep.QuietTactic
import Derived.BigQuiet
import Derived.RegionTactic
import Derived.ChangeAlike
import Derived.BigRegion
import Derived.Deep.RegionHeld3
import Derived.Deep.RegionWith
import Derived.Outline
import Derived.Laws.EntriesVeiled
namespace Go.Proofs.Ytlkjpackjjncaaa.Da
open Go.RowKit Sp
set_option linter.unusedSimpArgs false
set_option linter.unusedVariables false

theorem later3 {W w1 : World} {b o : Nat} {v : Value} (hb : Below W.heap.size W w1) (hc : W.cell? ⟨b, o, none⟩ = some v) (h : W.frozen? ⟨b, o, none⟩ = false) :
    w1.cell? ⟨b, o, none⟩ = some v ∧ w1.frozen? ⟨b, o, none⟩ = false ∧ b < w1.heap.size := by
  have hl : b < W.heap.size := World.block_lt_of_cell? _ _ hc
  refine ⟨cell_later hb hc, ?_, Nat.lt_of_lt_of_le hl hb.size⟩
  rw [(bcell hb).2 _ _ hl]
  exact h

theorem fro_later {W w1 : World} {b o : Nat} {v : Value} (hb : Below W.heap.size W w1) (hc : W.cell? ⟨b, o, none⟩ = some v) (h : W.frozen? ⟨b, o, none⟩ = false) : w1.frozen? ⟨b, o, none⟩ = false := (later3 hb hc h).2.1
theorem fro_al {W : World} {a : Addr} {c : Array Value} {t : TypeId} (h : W.frozen? a = false) : (W.alloc (.cells c t)).frozen? a = false := by
  rw [frozen?_alloc_cells]; exact h

set_option maxHeartbeats 400000 in
theorem within_c (n m : Int) (w : World) (h0 : 0 ≤ m) (hm : m ≤ 1000000000000000) : Calls Try.prog 30 #[(.int .i64 n), (.int .i64 m)] w (Ret w (.bool (wn n m))) := by
  go_enter Try.func30, Try.ntmps30
  go_wp2
  all_goals
    go_ret
    refine ret_bool ?_ (by repeat (first | with_reducible exact Below.refl _ _ | with_reducible assumption | with_reducible refine Below.setCell ?_ (by first | omega | (simp <;> omega)) _ | with_reducible refine balloc ?_ _ | with_reducible refine Below.drew ?_ | with_reducible refine bstep ?_ (by with_reducible assumption)))
    rw [wn_iff]
    simp <;> omega

set_option maxHeartbeats 400000 in
theorem down_c (n d : Int) (w : World) (hd : 0 < d) (h1 : -9000000000000000000 ≤ n) (h2 : n ≤ 9000000000000000000) : Calls Try.prog 73 #[(.int .i64 n), (.int .i64 d)] w (Same w (.int .i64 (dn n d))) := by
  have hq := div_bd hd h1 h2
  have he := dn_tdiv (n := n) hd
  by_cases hr : n.tmod d < 0
  all_goals
    go_enter Try.func73, Try.ntmps73
    go_wp2
    all_goals
      refine bodyPost_ret ?_ rfl ⟨rfl, rfl⟩
      simp [results, Try.results73, go_sem, he, hr]

set_option maxHeartbeats 400000 in
theorem up_c (n d : Int) (w : World) (hd : 0 < d) (h1 : -9000000000000000000 ≤ n) (h2 : n ≤ 9000000000000000000) : Calls Try.prog 74 #[(.int .i64 n), (.int .i64 d)] w (Same w (.int .i64 (upd n d))) := by
  have hq := div_bd (n := -n) (d := d) (M := 9000000000000000000) hd (by omega) (by omega)
  have he := upd_neg n d
  go_enter Try.func74, Try.ntmps74
  go_wp2_with fail
  refine Calls.mono (down_c (-n) d _ hd (by omega) (by omega)) ?_
  rintro e w1 ⟨rfl, rfl⟩
  go_wp2
  all_goals
    refine bodyPost_ret ?_ rfl ⟨rfl, rfl⟩
    simp [results, Try.results74, go_sem, he]

set_option maxHeartbeats 400000 in
theorem near_c (n d : Int) (w : World) (hd : 0 < d) (hd2 : d ≤ 10000000000000) (h1 : -4000000000000000000 ≤ n) (h2 : n ≤ 4000000000000000000) : Calls Try.prog 75 #[(.int .i64 n), (.int .i64 d)] w (Same w (.int .i64 (nr n d))) := by
  have he : nr n d = dn (2 * n + d) (2 * d) := rfl
  go_enter Try.func75, Try.ntmps75
  go_wp2_with fail
  refine Calls.mono (down_c (2 * n + d) (2 * d) _ (by omega) (by omega) (by omega)) ?_
  rintro e w1 ⟨rfl, rfl⟩
  go_wp2
  all_goals
    refine bodyPost_ret ?_ rfl ⟨rfl, rfl⟩
    simp [results, Try.results75, go_sem, he]

set_option maxHeartbeats 400000 in
theorem ways_c  (w : World)  : Calls Try.prog 56 #[] w (Ret w (.agg #[.func (.func 73) #[] #[], .func (.func 74) #[] #[], .func (.func 75) #[] #[]])) := by
  go_enter Try.func56, Try.ntmps56
  go_wp2
  all_goals
    refine bodyPost_ret ?_ rfl ⟨rfl, (by repeat (first | with_reducible exact Below.refl _ _ | with_reducible assumption | with_reducible refine Below.setCell ?_ (by first | omega | (simp <;> omega)) _ | with_reducible refine balloc ?_ _ | with_reducible refine Below.drew ?_ | with_reducible refine bstep ?_ (by with_reducible assumption)))⟩
    simp [results, Try.results56, go_sem]

set_option maxHeartbeats 800000 in
theorem outward_c (s1 s2 d : Int) (w : World) (h1 : -9000000000000000000 ≤ s1) (h2 : s1 ≤ 9000000000000000000) (h3 : -9000000000000000000 ≤ s2) (h4 : s2 ≤ 9000000000000000000) (hd : 0 < d) : Calls Try.prog 57 #[(.agg #[.func (.func 73) #[] #[], .func (.func 74) #[] #[], .func (.func 75) #[] #[]]), (.agg #[.int .i64 s1, .int .i64 s2]), (.int .i64 d)] w (Ret w (.agg #[(.int .i64 (dn s1 d)), (.int .i64 (upd s2 d))])) := by
  go_enter Try.func57, Try.ntmps57
  go_wp2_with fail
  go_region_held3 (fun w' => w'.cell? ⟨w.heap.size, 0, none⟩ = some (.func (.func 73) #[] #[]) ∧ w'.cell? ⟨w.heap.size, 1, none⟩ = some (.func (.func 74) #[] #[]) ∧ w'.cell? ⟨w.heap.size + 1, 0, none⟩ = some (.int .i64 s1) ∧ w'.cell? ⟨w.heap.size + 1, 1, none⟩ = some (.int .i64 s2)) (first | (go_keep; done) | ((repeat' apply And.intro) <;> go_simp)) (first | (go_at_call 73; refine Calls.mono (down_c _ _ _ (by omega) (by omega) (by omega)) ?_; rintro e w1 ⟨rfl, rfl⟩) | (go_at_call 74; refine Calls.mono (up_c _ _ _ (by omega) (by omega) (by omega)) ?_; rintro e w1 ⟨rfl, rfl⟩))
  all_goals
    go_wp2
    refine bodyPost_ret ?_ rfl ⟨rfl, (by repeat (first | with_reducible exact Below.refl _ _ | with_reducible assumption | with_reducible refine Below.setCell ?_ (by first | omega | (simp <;> omega)) _ | with_reducible refine balloc ?_ _ | with_reducible refine Below.drew ?_ | with_reducible refine bstep ?_ (by with_reducible assumption)))⟩
    simp [results, Try.results57, go_sem]

set_option maxHeartbeats 800000 in
theorem inward_c (s1 s2 d : Int) (w : World) (h1 : -9000000000000000000 ≤ s1) (h2 : s1 ≤ 9000000000000000000) (h3 : -9000000000000000000 ≤ s2) (h4 : s2 ≤ 9000000000000000000) (hd : 0 < d) : Calls Try.prog 66 #[(.agg #[.func (.func 73) #[] #[], .func (.func 74) #[] #[], .func (.func 75) #[] #[]]), (.agg #[.int .i64 s1, .int .i64 s2]), (.int .i64 d)] w (Ret w (.agg #[(.int .i64 (upd s1 d)), (.int .i64 (dn s2 d))])) := by
  go_enter Try.func66, Try.ntmps66
  go_wp2_with fail
  go_region_held3 (fun w' => w'.cell? ⟨w.heap.size, 0, none⟩ = some (.func (.func 73) #[] #[]) ∧ w'.cell? ⟨w.heap.size, 1, none⟩ = some (.func (.func 74) #[] #[]) ∧ w'.cell? ⟨w.heap.size + 1, 0, none⟩ = some (.int .i64 s1) ∧ w'.cell? ⟨w.heap.size + 1, 1, none⟩ = some (.int .i64 s2)) (first | (go_keep; done) | ((repeat' apply And.intro) <;> go_simp)) (first | (go_at_call 73; refine Calls.mono (down_c _ _ _ (by omega) (by omega) (by omega)) ?_; rintro e w1 ⟨rfl, rfl⟩) | (go_at_call 74; refine Calls.mono (up_c _ _ _ (by omega) (by omega) (by omega)) ?_; rintro e w1 ⟨rfl, rfl⟩))
  all_goals
    go_wp2
    refine bodyPost_ret ?_ rfl ⟨rfl, (by repeat (first | with_reducible exact Below.refl _ _ | with_reducible assumption | with_reducible refine Below.setCell ?_ (by first | omega | (simp <;> omega)) _ | with_reducible refine balloc ?_ _ | with_reducible refine Below.drew ?_ | with_reducible refine bstep ?_ (by with_reducible assumption)))⟩
    simp [results, Try.results66, go_sem]

set_option maxHeartbeats 400000 in
theorem boxOf_c (p1 p2 : Int) (w : World)  : Calls Try.prog 39 #[(.agg #[(.int .i64 p1), (.int .i64 p2)])] w (Ret w (.agg #[(.int .i64 p1), (.int .i64 p1), (.int .i64 p2), (.int .i64 p2)])) := by
  go_enter Try.func39, Try.ntmps39
  go_wp2
  all_goals
    refine bodyPost_ret ?_ rfl ⟨rfl, (by repeat (first | with_reducible exact Below.refl _ _ | with_reducible assumption | with_reducible refine Below.setCell ?_ (by first | omega | (simp <;> omega)) _ | with_reducible refine balloc ?_ _ | with_reducible refine Below.drew ?_ | with_reducible refine bstep ?_ (by with_reducible assumption)))⟩
    simp [results, Try.results39, go_sem]

set_option maxHeartbeats 400000 in
theorem affineOf_c (m1 m2 m3 m4 m5 m6 m7 : Int) (w : World)  : Calls Try.prog 31 #[(.agg #[(.int .i64 m1), (.int .i64 m2), (.int .i64 m3), (.int .i64 m4), (.int .i64 m5), (.int .i64 m6), (.int .i64 m7)])] w (Ret w (.agg #[(.int .i64 m1), (.int .i64 m2), (.int .i64 m3), (.int .i64 m4), (.int .i64 m5), (.int .i64 m6), (.int .i64 m7)])) := by
  go_enter Try.func31, Try.ntmps31
  go_wp2
  all_goals
    refine bodyPost_ret ?_ rfl ⟨rfl, (by repeat (first | with_reducible exact Below.refl _ _ | with_reducible assumption | with_reducible refine Below.setCell ?_ (by first | omega | (simp <;> omega)) _ | with_reducible refine balloc ?_ _ | with_reducible refine Below.drew ?_ | with_reducible refine bstep ?_ (by with_reducible assumption)))⟩
    simp [results, Try.results31, go_sem]

set_option maxHeartbeats 400000 in
theorem datum_c (m1 m2 m3 m4 m5 m6 m7 : Int) (w : World)  : Calls Try.prog 68 #[(.agg #[(.int .i64 m1), (.int .i64 m2), (.int .i64 m3), (.int .i64 m4), (.int .i64 m5), (.int .i64 m6), (.int .i64 m7)])] w (Ret w (.agg #[(.int .i64 m1), (.int .i64 m2), (.int .i64 m3), (.int .i64 m4), (.int .i64 m5), (.int .i64 m6), (.int .i64 m7)])) := by
  go_enter Try.func68, Try.ntmps68
  go_wp2
  all_goals
    refine bodyPost_ret ?_ rfl ⟨rfl, (by repeat (first | with_reducible exact Below.refl _ _ | with_reducible assumption | with_reducible refine Below.setCell ?_ (by first | omega | (simp <;> omega)) _ | with_reducible refine balloc ?_ _ | with_reducible refine Below.drew ?_ | with_reducible refine bstep ?_ (by with_reducible assumption)))⟩
    simp [results, Try.results68, go_sem]

set_option maxHeartbeats 400000 in
theorem turned_c (m1 m2 m3 m4 m5 m6 : Int) (w : World) (h1 : -2000000 ≤ m2) (h2 : m2 ≤ 2000000) (h3 : -2000000 ≤ m4) (h4 : m4 ≤ 2000000) : Calls Try.prog 63 #[(.agg #[(.int .i64 m1), (.int .i64 m2), (.int .i64 m3), (.int .i64 m4), (.int .i64 m5), (.int .i64 m6)])] w (Ret w (.agg #[(.int .i64 m5), (.int .i64 (-m2)), (.int .i64 0), (.int .i64 (-m4)), (.int .i64 m1), (.int .i64 0)])) := by
  go_enter Try.func63, Try.ntmps63
  go_wp2
  all_goals
    refine bodyPost_ret ?_ rfl ⟨rfl, (by repeat (first | with_reducible exact Below.refl _ _ | with_reducible assumption | with_reducible refine Below.setCell ?_ (by first | omega | (simp <;> omega)) _ | with_reducible refine balloc ?_ _ | with_reducible refine Below.drew ?_ | with_reducible refine bstep ?_ (by with_reducible assumption)))⟩
    simp [results, Try.results63, go_sem]


end Go.Proofs.Ytlkjpackjjncaaa.Da

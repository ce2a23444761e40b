/- TidA: the small functions. -/
import Derived.Test.YtemogomligbgiaaTidE
import Derived.Test.YtemogomligbgiaaSpanD
import Derived.Test.YtemogomligbgiaaRows
import Derived.WalkKit
import Derived.WalkSpells
import Derived.WalkLawsBesides
import Derived.Lib.Hide
import Derived.Deep.QuietTactic
import Derived.BigQuiet
import Derived.RegionTactic
import Derived.ChangeAlike
import Derived.BigRegion
import Derived.Deep.RegionHeld3
import Derived.Deep.RegionWith
import Derived.Outline
import Derived.IntWalk
import Derived.Deep.DeepCutAuto
import Derived.LoopTactic
namespace Go.Proofs.Ytemogomligbgiaa.Ti
open Go.RowKit Sp
set_option linter.unusedSimpArgs false
set_option linter.unusedVariables false

theorem ret_bv {w w' : World} {a b : Bool} (h : a = b) (hb : Below w.heap.size w w') : Ret w (.bool b) (.returned (.bool a)) w' := ⟨by rw [h], hb⟩
theorem later3 {W w1 : World} {b o : Nat} {v : Value} (hb : Below W.heap.size W w1) (hc : W.cell? ⟨b, o, none⟩ = some v) (h : W.frozen? ⟨b, o, none⟩ = false) :
    w1.cell? ⟨b, o, none⟩ = some v ∧ w1.frozen? ⟨b, o, none⟩ = false ∧ b < w1.heap.size := by
  have hl : b < W.heap.size := World.block_lt_of_cell? _ _ hc
  refine ⟨cell_later hb hc, ?_, Nat.lt_of_lt_of_le hl hb.size⟩
  rw [(bcell hb).2 _ _ hl]
  exact h
theorem fro_later {W w1 : World} {b o : Nat} {v : Value} (hb : Below W.heap.size W w1) (hc : W.cell? ⟨b, o, none⟩ = some v) (h : W.frozen? ⟨b, o, none⟩ = false) : w1.frozen? ⟨b, o, none⟩ = false := (later3 hb hc h).2.1
theorem fro_al {W : World} {a : Addr} {c : Array Value} {t : TypeId} (h : W.frozen? a = false) : (W.alloc (.cells c t)).frozen? a = false := by
  rw [frozen?_alloc_cells]; exact h

set_option maxHeartbeats 400000 in
theorem bt_c (n a b : Int) (w : World) : Calls Try.prog 39 #[(.int .i64 n), (.int .i64 a), (.int .i64 b)] w (Same w (.bool (btB n a b))) := by
  go_enter Try.func39, Try.ntmps39
  go_wp2
  all_goals
    go_ret
    refine same_bool ?_
    simp [btB] <;> omega
set_option maxHeartbeats 400000 in
theorem isTime_c (n : Int) (w : World) : Calls Try.prog 38 #[(.int .i64 n)] w (Same w (.bool (tmB n))) := by
  go_enter Try.func38, Try.ntmps38
  go_wp2_with fail
  refine Calls.mono (bt_c n 0 10000000 _) ?_
  rintro e w1 ⟨rfl, rfl⟩
  go_wp2
  go_ret
  exact ⟨rfl, rfl⟩
set_option maxHeartbeats 400000 in
theorem isNeed_c (n : Int) (w : World) : Calls Try.prog 46 #[(.int .i64 n)] w (Same w (.bool (ndB n))) := by
  go_enter Try.func46, Try.ntmps46
  go_wp2_with fail
  refine Calls.mono (bt_c n (-1000000000000) 1000000000000 _) ?_
  rintro e w1 ⟨rfl, rfl⟩
  go_wp2
  go_ret
  exact ⟨rfl, rfl⟩

set_option maxHeartbeats 400000 in
theorem time_c (s p k : Int) (v : Value) (w : World) (hs : 0 ≤ s ∧ s ≤ 10000000) (hp : 1 ≤ p ∧ p ≤ 1000) (hk : 0 ≤ k ∧ k ≤ 200) : Calls Try.prog 62 #[.agg #[(.int .i64 s), (.int .i64 p), v], (.int .i64 k)] w (Ret w (.int .i64 (s + k * p))) := by
  obtain ⟨m1, m2⟩ := mul_lt (k := k) (n := 200) (p := p) hk.1 hk.2 (by omega)
  obtain ⟨hs1, hs2⟩ := hs
  obtain ⟨hp1, hp2⟩ := hp
  obtain ⟨hk1, hk2⟩ := hk
  go_enter Try.func62, Try.ntmps62
  go_wp2
  go_ret
  exact ⟨rfl, (by repeat (first | with_reducible exact Below.refl _ _ | with_reducible assumption | with_reducible refine Below.setCell ?_ (by first | omega | (simp <;> omega)) _ | with_reducible refine balloc ?_ _ | with_reducible refine Below.drew ?_ | with_reducible refine bstep ?_ (by with_reducible assumption)))⟩
set_option maxHeartbeats 400000 in
theorem row_c (s p : Int) (k b off cap : Nat) (l : List Pr) (w : World) (hk : k < l.length) (h200 : l.length ≤ 200) (hr : Row w b off l) : Calls Try.prog 63 #[.agg #[(.int .i64 s), (.int .i64 p), .slice (some ⟨b, off, none⟩) l.length cap], (.int .i64 k)] w (Ret w (.agg #[(.int .i64 ((gt l k).1)), (.int .i64 ((gt l k).2))])) := by
  obtain ⟨c0, c1⟩ := hr k hk
  have hbl := hr.lt (by omega)
  go_enter Try.func63, Try.ntmps63
  go_wp2
  refine bodyPost_ret ?_ rfl ⟨rfl, (by repeat (first | with_reducible exact Below.refl _ _ | with_reducible assumption | with_reducible refine Below.setCell ?_ (by first | omega | (simp <;> omega)) _ | with_reducible refine balloc ?_ _ | with_reducible refine Below.drew ?_ | with_reducible refine bstep ?_ (by with_reducible assumption)))⟩
  simp [results, Try.results63, go_sem]

set_option maxHeartbeats 800000 in
theorem times_c (s p : Int) (a : Option Addr) (n cap : Nat) (w : World) (hs : 0 ≤ s ∧ s ≤ 10000000) (hp : 1 ≤ p ∧ p ≤ 1000) (hn : 1 ≤ n ∧ n ≤ 200) : Calls Try.prog 40 #[.agg #[(.int .i64 s), (.int .i64 p), .slice a n cap]] w (Ret w (.agg #[(.int .i64 s), (.int .i64 (s + ((n : Int) - 1) * p))])) := by
  obtain ⟨hn1, hn2⟩ := hn
  have x1 : IntKind.i64.wrap ((n : Int) - 1) = (n : Int) - 1 := IntWalk.i64_in _ (by omega)
  go_enter Try.func40, Try.ntmps40
  go_wp2_with fail
  refine wp_region_held_drew (S := fun w' => w'.cell? ⟨w.heap.size, 0, none⟩ = some (.int .i64 s) ∧ w'.cell? ⟨w.heap.size, 1, none⟩ = some (.int .i64 p) ∧ w'.cell? ⟨w.heap.size, 2, none⟩ = some (.slice a n cap) ∧ w'.frozen? ⟨w.heap.size + 1, 0, none⟩ = false ∧ w'.frozen? ⟨w.heap.size + 1, 1, none⟩ = false) (by kernel_rfl) (by first | (go_keep; done) | ((repeat' apply And.intro) <;> go_simp)) (fun hHeld => ?_)
  refine wpAnyH_take (i := 0) (oi := ⟨some 3, _, _, _, _, _⟩) (v := ?_) rfl (by kernel_rfl) (by kernel_rfl) (by kernel_rfl) (fun _ _ _ h => h) (Or.inl ⟨by rfl, ?_⟩) (by assumption) ?_
  rotate_left
  · intro w hSw; (try dsimp only at hSw); go_simp; try with_reducible rfl
  try simp only [Act.put, List.setIfInBounds_toArray, List.set_cons_zero, List.set_cons_succ]
  refine wpAnyH_take (i := 1) (oi := ⟨some 4, _, _, _, _, _⟩) (v := ?_) rfl (by kernel_rfl) (by kernel_rfl) (by kernel_rfl) (fun _ _ _ h => h) (Or.inl ⟨by rfl, ?_⟩) (by assumption) ?_
  rotate_left
  · intro w hSw; (try dsimp only at hSw); go_simp; try with_reducible rfl
  try simp only [Act.put, List.setIfInBounds_toArray, List.set_cons_zero, List.set_cons_succ]
  refine wpAnyH_take (i := 2) (oi := ⟨some 5, _, _, _, _, _⟩) (v := ?_) rfl (by kernel_rfl) (by kernel_rfl) (by kernel_rfl) (fun _ _ _ h => h) (Or.inl ⟨by rfl, ?_⟩) (by assumption) ?_
  rotate_left
  · intro w hSw; (try dsimp only at hSw); go_simp; try with_reducible rfl
  try simp only [Act.put, List.setIfInBounds_toArray, List.set_cons_zero, List.set_cons_succ]
  refine wpAnyH_take (i := 3) (oi := ⟨some 6, _, _, _, _, _⟩) (v := ?_) rfl (by kernel_rfl) (by kernel_rfl) (by kernel_rfl) (fun _ _ _ h => h) (Or.inl ⟨by rfl, ?_⟩) (by assumption) ?_
  rotate_left
  · intro w hSw; (try dsimp only at hSw); go_simp; try with_reducible rfl
  try simp only [Act.put, List.setIfInBounds_toArray, List.set_cons_zero, List.set_cons_succ]
  refine wpAnyH_take (i := 4) (oi := ⟨some 7, _, _, _, _, _⟩) (v := ?_) rfl (by kernel_rfl) (by kernel_rfl) (by kernel_rfl) (fun _ _ _ h => h) (Or.inl ⟨by rfl, ?_⟩) (by assumption) ?_
  rotate_left
  · intro w hSw; (try dsimp only at hSw); go_simp; try with_reducible rfl
  try simp only [Act.put, List.setIfInBounds_toArray, List.set_cons_zero, List.set_cons_succ]
  refine wpAnyH_take (i := 5) (oi := ⟨some 8, _, _, _, _, _⟩) (v := ?_) rfl (by kernel_rfl) (by kernel_rfl) (by kernel_rfl) (fun _ _ _ h => h) (Or.inl ⟨by rfl, ?_⟩) (by assumption) ?_
  rotate_left
  · intro w hSw; (try dsimp only at hSw); go_simp; try with_reducible rfl
  try simp only [Act.put, List.setIfInBounds_toArray, List.set_cons_zero, List.set_cons_succ]
  refine wpAnyH_take (i := 6) (oi := ⟨some 9, _, _, _, _, _⟩) (v := ?_) rfl (by kernel_rfl) (by kernel_rfl) (by kernel_rfl) (fun _ _ _ h => h) (Or.inl ⟨by rfl, ?_⟩) (by assumption) ?_
  rotate_left
  · intro w hSw; (try dsimp only at hSw); go_simp; try with_reducible rfl
  try simp only [Act.put, List.setIfInBounds_toArray, List.set_cons_zero, List.set_cons_succ]
  refine wpAnyH_ready (rs := [7]) (by kernel_rfl) (by simp) ?_
  refine AllReadyH.cons (o := ⟨some 10, _, _, _, _, _⟩) rfl (fun KK hKK => ?_) AllReadyH.nil
  go_simp
  refine Calls.mono (time_c s p ((n : Int) - 1) _ _ hs hp ⟨by omega, by omega⟩) ?_
  rintro e w1 ⟨rfl, hb1⟩
  obtain ⟨hc1, hf1⟩ := bcell hb1
  have hsz := hb1.size
  (try simp at hsz)
  have gs0 : w.heap.size < w1.heap.size := (by first | omega | (simp <;> omega))
  have gs1 : w.heap.size + 1 < w1.heap.size := (by first | omega | (simp <;> omega))
  have g0 := fun o => hc1 w.heap.size o (by first | omega | (simp <;> omega))
  have g1 := fun o => hc1 (w.heap.size + 1) o (by first | omega | (simp <;> omega))
  have j1 := fun o => hf1 (w.heap.size + 1) o (by first | omega | (simp <;> omega))
  have m0 : w1.cell? ⟨w.heap.size + 1, 0, none⟩ = some (.int .i64 0) := (by rw [hc1 _ _ (by first | omega | (simp <;> omega))]; first | (with_reducible assumption) | go_simp)
  have m1 : w1.cell? ⟨w.heap.size + 1, 1, none⟩ = some (.int .i64 0) := (by rw [hc1 _ _ (by first | omega | (simp <;> omega))]; first | (with_reducible assumption) | go_simp)
  clear hc1 hf1 hsz
  (try go_wp2_with fail)
  refine hKK.out _ _ (by first | (go_keep; done) | ((repeat' apply And.intro) <;> go_simp)) (fun hHeld => ?_)
  clear hKK KK
  try simp only [Act.put, List.setIfInBounds_toArray, List.set_cons_zero, List.set_cons_succ]
  refine wpAnyH_take (i := 8) (oi := ⟨some 11, _, _, _, _, _⟩) (v := ?_) rfl (by kernel_rfl) (by kernel_rfl) (by kernel_rfl) (fun _ _ _ h => h) (Or.inl ⟨by rfl, ?_⟩) (by assumption) ?_
  rotate_left
  · intro w hSw; (try dsimp only at hSw); go_simp; try with_reducible rfl
  try simp only [Act.put, List.setIfInBounds_toArray, List.set_cons_zero, List.set_cons_succ]
  refine wpAnyH_ready (rs := [9]) (by kernel_rfl) (by simp) ?_
  refine AllReadyH.cons (o := ⟨none, _, _, _, _, _⟩) rfl (fun KK hKK => ?_) AllReadyH.nil
  go_simp
  (try go_wp2_with fail)
  refine hKK.out _ _ (by first | (go_keep; done) | ((repeat' apply And.intro) <;> go_simp)) (fun hHeld => ?_)
  clear hKK KK
  try simp only [Act.put, List.setIfInBounds_toArray, List.set_cons_zero, List.set_cons_succ]
  refine wpAnyH_done (by kernel_rfl) ?_ _
  go_wp2
  refine bodyPost_ret ?_ rfl ⟨rfl, (by repeat (first | with_reducible exact Below.refl _ _ | with_reducible assumption | with_reducible refine Below.setCell ?_ (by first | omega | (simp <;> omega)) _ | with_reducible refine balloc ?_ _ | with_reducible refine Below.drew ?_ | with_reducible refine bstep ?_ (by with_reducible assumption)))⟩
  simp [results, Try.results40, go_sem, m0, m1]

def haB (s t : Pr) : Bool := selB (vWithin t.1 t.2 s.1 s.2) (wI t.1 t.2 s.1 s.2)
set_option maxHeartbeats 400000 in
theorem hasAll_c (s1 s2 t1 t2 : Int) (w : World)  : Calls Try.prog 42 #[(.agg #[(.int .i64 s1), (.int .i64 s2)]), (.agg #[(.int .i64 t1), (.int .i64 t2)])] w (Ret w (.bool (haB (s1, s2) (t1, t2)))) := by
  go_enter Try.func42, Try.ntmps42
  go_wp2_with fail
  refine Calls.mono (Within_c _ _ _ _ _) ?_
  rintro e w1 ⟨rfl, hbW⟩
  have hc := (bcell hbW).1
  have hf := (bcell hbW).2
  go_wp2
  all_goals
    go_ret
    exact ⟨rfl, (by repeat (first | with_reducible exact Below.refl _ _ | with_reducible assumption | with_reducible refine Below.setCell ?_ (by first | omega | (simp <;> omega)) _ | with_reducible refine balloc ?_ _ | with_reducible refine Below.drew ?_ | with_reducible refine bstep ?_ (by with_reducible assumption)))⟩

theorem haB_okH (r : Pr) : haB (-100000, 100000) r = okH r := by
  unfold haB selB okH vWithin
  rw [Bool.eq_iff_iff]
  simp [wI_iff, vE_iff]
  omega
set_option maxHeartbeats 400000 in
theorem inRange_c (r1 r2 : Int) (w : World)  : Calls Try.prog 64 #[(.agg #[(.int .i64 r1), (.int .i64 r2)])] w (Ret w (.bool (okH (r1, r2)))) := by
  rw [← haB_okH (r1, r2)]
  go_enter Try.func64, Try.ntmps64
  go_wp2_with fail
  refine Calls.mono (hasAll_c _ _ _ _ _) ?_
  rintro e w1 ⟨rfl, hbW⟩
  have hc := (bcell hbW).1
  have hf := (bcell hbW).2
  go_wp2
  all_goals
    go_ret
    exact ⟨rfl, (by repeat (first | with_reducible exact Below.refl _ _ | with_reducible assumption | with_reducible refine Below.setCell ?_ (by first | omega | (simp <;> omega)) _ | with_reducible refine balloc ?_ _ | with_reducible refine Below.drew ?_ | with_reducible refine bstep ?_ (by with_reducible assumption)))⟩


end Go.Proofs.Ytemogomligbgiaa.Ti

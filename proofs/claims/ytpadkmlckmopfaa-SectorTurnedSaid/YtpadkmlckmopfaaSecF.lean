/- SecF: isSound$1, IndexFunc, ContainsFunc. -/
import Derived.Test.YtpadkmlckmopfaaSecC
import Derived.Test.YtpadkmlckmopfaaSecE
import Derived.Test.YtpadkmlckmopfaaRows
import Derived.WalkKit
import Derived.WalkSpells
import Derived.WalkLawsBesides
import Derived.Lib.Hide
import Derived.Deep.QuietTactic
import Derived.BigQuiet
import Derived.RegionTactic
import Derived.ChangeAlike
import Derived.BigRegion
import Derived.Deep.RegionHeld3
import Derived.Deep.RegionWith
import Derived.Outline
import Derived.IntWalk
import Derived.Deep.DeepCutAuto
import Derived.LoopTactic
namespace Go.Proofs.Ytpadkmlckmopfaa.Se
open Go.RowKit
set_option linter.unusedSimpArgs false
set_option linter.unusedVariables false

theorem ret_bv {w w' : World} {a b : Bool} (h : a = b) (hb : Below w.heap.size w w') : Ret w (.bool b) (.returned (.bool a)) w' := ⟨by rw [h], hb⟩
theorem later3 {W w1 : World} {b o : Nat} {v : Value} (hb : Below W.heap.size W w1) (hc : W.cell? ⟨b, o, none⟩ = some v) (h : W.frozen? ⟨b, o, none⟩ = false) :
    w1.cell? ⟨b, o, none⟩ = some v ∧ w1.frozen? ⟨b, o, none⟩ = false ∧ b < w1.heap.size := by
  have hl : b < W.heap.size := World.block_lt_of_cell? _ _ hc
  refine ⟨cell_later hb hc, ?_, Nat.lt_of_lt_of_le hl hb.size⟩
  rw [(bcell hb).2 _ _ hl]
  exact h
theorem fro_later {W w1 : World} {b o : Nat} {v : Value} (hb : Below W.heap.size W w1) (hc : W.cell? ⟨b, o, none⟩ = some v) (h : W.frozen? ⟨b, o, none⟩ = false) : w1.frozen? ⟨b, o, none⟩ = false := (later3 hb hc h).2.1
theorem fro_al {W : World} {a : Addr} {c : Array Value} {t : TypeId} (h : W.frozen? a = false) : (W.alloc (.cells c t)).frozen? a = false := by
  rw [frozen?_alloc_cells]; exact h

set_option maxRecDepth 20000 in
set_option maxHeartbeats 800000 in
theorem sound1_c (s1 s2 s3 s4 s5 s6 t1 t2 t3 t4 t5 t6 : Int) (B : Nat) (w : World) (hs : okW (s1, s2)) (hs2 : okW (s3, s4)) (ht : okW (t1, t2)) (ht2 : okW (t3, t4)) (c0 : w.cell? ⟨B, 0, none⟩ = some (.int .i64 s1)) (c1 : w.cell? ⟨B, 1, none⟩ = some (.int .i64 s2)) (c2 : w.cell? ⟨B, 2, none⟩ = some (.int .i64 s3)) (c3 : w.cell? ⟨B, 3, none⟩ = some (.int .i64 s4)) (c4 : w.cell? ⟨B, 4, none⟩ = some (.int .i64 s5)) (c5 : w.cell? ⟨B, 5, none⟩ = some (.int .i64 s6)) :
    Calls Try.prog 49 #[.agg #[(.int .i64 t1), (.int .i64 t2), (.int .i64 t3), (.int .i64 t4), (.int .i64 t5), (.int .i64 t6)], .pointer (some ⟨B, 0, none⟩)] w (Ret w (.bool (ovS ⟨s1, s2, s3, s4, s5, s6⟩ ⟨t1, t2, t3, t4, t5, t6⟩))) := by
  have q0 := cell_al (.cells #[(.int .i64 t1), (.int .i64 t2), (.int .i64 t3), (.int .i64 t4), (.int .i64 t5), (.int .i64 t6)] 26) c0
  have q1 := cell_al (.cells #[(.int .i64 t1), (.int .i64 t2), (.int .i64 t3), (.int .i64 t4), (.int .i64 t5), (.int .i64 t6)] 26) c1
  have q2 := cell_al (.cells #[(.int .i64 t1), (.int .i64 t2), (.int .i64 t3), (.int .i64 t4), (.int .i64 t5), (.int .i64 t6)] 26) c2
  have q3 := cell_al (.cells #[(.int .i64 t1), (.int .i64 t2), (.int .i64 t3), (.int .i64 t4), (.int .i64 t5), (.int .i64 t6)] 26) c3
  have q4 := cell_al (.cells #[(.int .i64 t1), (.int .i64 t2), (.int .i64 t3), (.int .i64 t4), (.int .i64 t5), (.int .i64 t6)] 26) c4
  have q5 := cell_al (.cells #[(.int .i64 t1), (.int .i64 t2), (.int .i64 t3), (.int .i64 t4), (.int .i64 t5), (.int .i64 t6)] 26) c5
  have hBl : B < w.heap.size := World.block_lt_of_cell? _ _ c0
  go_enter Try.func49, Try.ntmps49
  go_wp2_with fail
  refine Calls.mono (ov_c s1 s2 s3 s4 s5 s6 t1 t2 t3 t4 t5 t6 _ hs hs2 ht ht2) ?_
  rintro e w1 ⟨rfl, hb⟩
  have kt0 : w1.cell? ⟨w.heap.size, 0, none⟩ = some (.int .i64 t1) := cell_later hb (by go_simp)
  have kt1 : w1.cell? ⟨w.heap.size, 1, none⟩ = some (.int .i64 t2) := cell_later hb (by go_simp)
  have kt2 : w1.cell? ⟨w.heap.size, 2, none⟩ = some (.int .i64 t3) := cell_later hb (by go_simp)
  have kt3 : w1.cell? ⟨w.heap.size, 3, none⟩ = some (.int .i64 t4) := cell_later hb (by go_simp)
  have kt4 : w1.cell? ⟨w.heap.size, 4, none⟩ = some (.int .i64 t5) := cell_later hb (by go_simp)
  have kt5 : w1.cell? ⟨w.heap.size, 5, none⟩ = some (.int .i64 t6) := cell_later hb (by go_simp)
  have zt : w.heap.size < w1.heap.size := World.block_lt_of_cell? _ _ kt0
  have zt_w1 := zt
  have hb0 : Below w.heap.size w w1 := (by repeat (first | with_reducible exact Below.refl _ _ | with_reducible assumption | with_reducible refine Below.setCell ?_ (by first | omega | (simp <;> omega)) _ | with_reducible refine balloc ?_ _ | with_reducible refine Below.drew ?_ | with_reducible refine bstep ?_ (by with_reducible assumption)))
  have hs_w1 := hb.size; (try simp only [World.size_alloc, World.size_setCell] at hs_w1)
  clear hb
  go_wp2
  go_ret
  exact ⟨rfl, (by repeat (first | with_reducible exact Below.refl _ _ | with_reducible assumption | with_reducible refine Below.setCell ?_ (by first | omega | (simp <;> omega)) _ | with_reducible refine balloc ?_ _ | with_reducible refine Below.drew ?_ | with_reducible refine bstep ?_ (by with_reducible assumption)))⟩

/-- Some of the first k sectors has a direction in common with s. -/
def anK (s : Sec) (l : List Sec) (k : Nat) : Bool := (l.take k).any fun t => ovS s t
theorem anK_succ {s : Sec} {l : List Sec} {k : Nat} (h : k < l.length) : anK s l (k + 1) = (anK s l k || ovS s (gs l k)) := by
  unfold anK
  rw [take_succ_gs h, List.any_append]
  simp
theorem anK_of {s : Sec} {l : List Sec} {k n : Nat} (h : k ≤ n) (ha : anK s l k = true) : anK s l n = true := by
  unfold anK at *
  rw [List.any_eq_true] at *
  obtain ⟨t, ht, e⟩ := ha
  refine ⟨t, ?_, e⟩
  rw [show l.take k = (l.take n).take k by rw [List.take_take, Nat.min_eq_left h]] at ht
  exact List.mem_of_mem_take ht
set_option maxRecDepth 20000 in
set_option maxHeartbeats 1600000 in
theorem index_c (s1 s2 s3 s4 s5 s6 : Int) (B b off cap : Nat) (l : List Sec) (w : World) (h12 : l.length ≤ 24) (hs : okS ⟨s1, s2, s3, s4, s5, s6⟩) (hall : allS l) (hp : 0 < l.length → Row w b off l ∧ b < w.heap.size) (c0 : w.cell? ⟨B, 0, none⟩ = some (.int .i64 s1)) (c1 : w.cell? ⟨B, 1, none⟩ = some (.int .i64 s2)) (c2 : w.cell? ⟨B, 2, none⟩ = some (.int .i64 s3)) (c3 : w.cell? ⟨B, 3, none⟩ = some (.int .i64 s4)) (c4 : w.cell? ⟨B, 4, none⟩ = some (.int .i64 s5)) (c5 : w.cell? ⟨B, 5, none⟩ = some (.int .i64 s6)) :
    Calls Try.prog 62 #[.slice (some ⟨b, off, none⟩) l.length cap, .func (.func 49) #[] #[.pointer (some ⟨B, 0, none⟩)]] w fun e w' => Below w.heap.size w w' ∧ ∃ j : Int, e = .returned (.int .i64 j) ∧ (decide (0 ≤ j)) = anK ⟨s1, s2, s3, s4, s5, s6⟩ l l.length := by
  have hBl : B < w.heap.size := World.block_lt_of_cell? _ _ c0
  have HP := Lib.hid hp
  clear hp
  go_enter Try.func62, Try.ntmps62
  go_wp2
  go_loopw [8] (fun i wr => ∃ k : Nat, i = (.int .i64 k) ∧ k ≤ l.length ∧ Hid (anK ⟨s1, s2, s3, s4, s5, s6⟩ l k = false) ∧ Below w.heap.size w wr) (fun i _ => l.length - (intOf i).toNat)
  case atStart => exact ⟨0, rfl, by omega, Lib.hid rfl, Below.refl _ _⟩
  case round =>
    obtain ⟨k, rfl, hk, HA, hbel⟩ := hrel
    by_cases hlt : k < l.length
    · obtain ⟨hR, hbl⟩ := HP.out (by omega)
      have HR := Lib.hid hR
      clear hR
      have hgk := hall k hlt
      obtain ⟨e1, e2, e3, e4, e5, e6⟩ := (HR.out.below hbl hbel) k hlt
      generalize hg : gs l k = g at *
      have HG := Lib.hid hg
      clear hg
      obtain ⟨t1, t2, t3, t4, t5, t6⟩ := g
      dsimp only at e1 e2 e3 e4 e5 e6
      obtain ⟨hc, _⟩ := bcell hbel
      have q0 := (hc _ 0 hBl).trans c0
      have q1 := (hc _ 1 hBl).trans c1
      have q2 := (hc _ 2 hBl).trans c2
      have q3 := (hc _ 3 hBl).trans c3
      have q4 := (hc _ 4 hBl).trans c4
      have q5 := (hc _ 5 hBl).trans c5
      clear hc
      have hgo := vaS_ok hgk
      have HN := Lib.hid (anK_succ (s := ⟨s1, s2, s3, s4, s5, s6⟩) hlt)
      go_wp2_with fail
      refine Calls.mono (sound1_c s1 s2 s3 s4 s5 s6 t1 t2 t3 t4 t5 t6 B _ hs.1 hs.2 hgo.1 hgo.2 q0 q1 q2 q3 q4 q5) ?_
      rintro e w1 ⟨rfl, hb⟩
      have hb0 : Below w.heap.size w w1 := (by repeat (first | with_reducible exact Below.refl _ _ | with_reducible assumption | with_reducible refine Below.setCell ?_ (by first | omega | (simp <;> omega)) _ | with_reducible refine balloc ?_ _ | with_reducible refine Below.drew ?_ | with_reducible refine bstep ?_ (by with_reducible assumption)))
      clear hb
      cases hv : ovS ⟨s1, s2, s3, s4, s5, s6⟩ ⟨t1, t2, t3, t4, t5, t6⟩
      · have HV := Lib.hid hv
        go_wp2
        go_roundw
        case rel => exact ⟨k + 1, by simp, by omega, Lib.hid (by rw [HN.out, HA.out, HG.out, HV.out]; rfl), hb0⟩
        case measure => simp [intOf]; omega
      · have HV := Lib.hid hv
        go_wp2
        go_ret
        refine ⟨hb0, k, rfl, ?_⟩
        rw [anK_of (show k + 1 ≤ l.length by omega) (by rw [HN.out, HG.out, HV.out]; simp)]
        simp
    · obtain rfl : k = l.length := by omega
      go_wp2
      go_ret
      exact ⟨hbel, -1, rfl, by rw [HA.out]; rfl⟩

set_option maxRecDepth 20000 in
set_option maxHeartbeats 800000 in
theorem contains_c (s1 s2 s3 s4 s5 s6 : Int) (B b off cap : Nat) (l : List Sec) (w : World) (h12 : l.length ≤ 24) (hs : okS ⟨s1, s2, s3, s4, s5, s6⟩) (hall : allS l) (hp : 0 < l.length → Row w b off l ∧ b < w.heap.size) (c0 : w.cell? ⟨B, 0, none⟩ = some (.int .i64 s1)) (c1 : w.cell? ⟨B, 1, none⟩ = some (.int .i64 s2)) (c2 : w.cell? ⟨B, 2, none⟩ = some (.int .i64 s3)) (c3 : w.cell? ⟨B, 3, none⟩ = some (.int .i64 s4)) (c4 : w.cell? ⟨B, 4, none⟩ = some (.int .i64 s5)) (c5 : w.cell? ⟨B, 5, none⟩ = some (.int .i64 s6)) :
    Calls Try.prog 51 #[.slice (some ⟨b, off, none⟩) l.length cap, .func (.func 49) #[] #[.pointer (some ⟨B, 0, none⟩)]] w (Ret w (.bool (l.any fun t => ovS ⟨s1, s2, s3, s4, s5, s6⟩ t))) := by
  have C1 := index_c s1 s2 s3 s4 s5 s6 B b off cap l w h12 hs hall hp c0 c1 c2 c3 c4 c5
  have hA : anK ⟨s1, s2, s3, s4, s5, s6⟩ l l.length = (l.any fun t => ovS ⟨s1, s2, s3, s4, s5, s6⟩ t) := by unfold anK; rw [List.take_length]
  rw [← hA]
  generalize anK ⟨s1, s2, s3, s4, s5, s6⟩ l l.length = x at *
  clear hA hp c0 c1 c2 c3 c4 c5
  go_enter Try.func51, Try.ntmps51
  go_wp2_with fail
  refine Calls.mono C1 ?_
  rintro e w1 ⟨hb, j, rfl, hj⟩
  have HJ := Lib.hid hj
  clear hj
  go_wp2
  go_ret
  exact ret_bv HJ.out (by repeat (first | with_reducible exact Below.refl _ _ | with_reducible assumption | with_reducible refine Below.setCell ?_ (by first | omega | (simp <;> omega)) _ | with_reducible refine balloc ?_ _ | with_reducible refine Below.drew ?_ | with_reducible refine bstep ?_ (by with_reducible assumption)))


end Go.Proofs.Ytpadkmlckmopfaa.Se

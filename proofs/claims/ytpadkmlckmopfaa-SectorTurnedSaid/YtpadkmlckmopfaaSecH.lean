/- SecH: shown. -/
import Derived.Test.YtpadkmlckmopfaaSecG
import Derived.Test.YtpadkmlckmopfaaRows
import Derived.WalkKit
import Derived.WalkSpells
import Derived.WalkLawsBesides
import Derived.Lib.Hide
import Derived.Deep.QuietTactic
import Derived.BigQuiet
import Derived.RegionTactic
import Derived.ChangeAlike
import Derived.BigRegion
import Derived.Deep.RegionHeld3
import Derived.Deep.RegionWith
import Derived.Outline
import Derived.IntWalk
import Derived.Deep.DeepCutAuto
import Derived.LoopTactic
namespace Go.Proofs.Ytpadkmlckmopfaa.Se
open Go.RowKit
set_option linter.unusedSimpArgs false
set_option linter.unusedVariables false

/-- None of the first k sectors has the direction. -/
def shK (l : List Sec) (v : V) (k : Nat) : Bool := (l.take k).any fun s => hasS s v
theorem shK_succ {l : List Sec} {v : V} {k : Nat} (h : k < l.length) : shK l v (k + 1) = (shK l v k || hasS (gs l k) v) := by
  unfold shK
  rw [take_succ_gs h, List.any_append]
  simp
theorem shL_none {l : List Sec} {v : V} (h : shK l v l.length = false) : shL l v = (0, 0) := by
  unfold shK at h
  rw [List.take_length, List.any_eq_false] at h
  have : (l.find? fun s => hasS s v) = none := List.find?_eq_none.2 h
  unfold shL
  rw [this]
theorem shL_some {l : List Sec} {v : V} {k : Nat} (hk : k < l.length) (h : shK l v k = false) (hh : hasS (gs l k) v = true) : shL l v = ((gs l k).co, (gs l k).ra) := by
  have e : (l.find? fun s => hasS s v) = some (gs l k) := by
    unfold shK at h
    rw [List.any_eq_false] at h
    have hd : l.drop k = gs l k :: l.drop (k + 1) := by
      rw [List.drop_eq_getElem_cons hk]
      unfold gs
      rw [List.getD_eq_getElem?_getD, List.getElem?_eq_getElem hk]
      rfl
    have h2 : (l.take k ++ l.drop k).find? (fun s => hasS s v) = some (gs l k) := by
      rw [List.find?_append, List.find?_eq_none.2 h, hd, List.find?_cons_of_pos (p := fun s => hasS s v) hh]
      rfl
    rwa [List.take_append_drop] at h2
  unfold shL
  rw [e]

set_option maxRecDepth 100000 in
set_option maxHeartbeats 3200000 in
theorem shown_c (p : Option Addr) (cap : Nat) (l : List Sec) (v1 v2 : Int) (w : World) (h24 : l.length ≤ 24) (hall : allS l) (hv : okW (v1, v2)) (hp : 0 < l.length → ∃ b off, p = some ⟨b, off, none⟩ ∧ Row w b off l) :
    Calls Try.prog 39 #[.slice p l.length cap, (.agg #[.int .i64 v1, .int .i64 v2])] w (Ret w (.agg #[(.int .i64 0), (.int .i64 0), (.int .i64 0), (.int .i64 0), (.int .i64 ((shL l (v1, v2)).1)), (.int .i64 ((shL l (v1, v2)).2))])) := by
  have HP := Lib.hid hp
  clear hp
  go_enter Try.func39, Try.ntmps39
  go_wp2
  go_loopw [9] (fun i wr => ∃ k : Nat, i = (.int .i64 k) ∧ k ≤ l.length ∧ Hid (shK l (v1, v2) k = false) ∧ wr.cell? ⟨w.heap.size, 0, none⟩ = some (.int .i64 v1) ∧ wr.cell? ⟨w.heap.size, 1, none⟩ = some (.int .i64 v2) ∧ wr.cell? ⟨w.heap.size + 1, 0, none⟩ = some (.int .i64 0) ∧ wr.cell? ⟨w.heap.size + 1, 1, none⟩ = some (.int .i64 0) ∧ wr.cell? ⟨w.heap.size + 1, 2, none⟩ = some (.int .i64 0) ∧ wr.cell? ⟨w.heap.size + 1, 3, none⟩ = some (.int .i64 0) ∧ wr.cell? ⟨w.heap.size + 1, 4, none⟩ = some (.int .i64 0) ∧ wr.cell? ⟨w.heap.size + 1, 5, none⟩ = some (.int .i64 0) ∧ wr.frozen? ⟨w.heap.size + 1, 0, none⟩ = false ∧ wr.frozen? ⟨w.heap.size + 1, 1, none⟩ = false ∧ wr.frozen? ⟨w.heap.size + 1, 2, none⟩ = false ∧ wr.frozen? ⟨w.heap.size + 1, 3, none⟩ = false ∧ wr.frozen? ⟨w.heap.size + 1, 4, none⟩ = false ∧ wr.frozen? ⟨w.heap.size + 1, 5, none⟩ = false ∧ Below w.heap.size w wr) (fun i _ => l.length - (intOf i).toNat)
  case atStart =>
    refine ⟨0, rfl, by omega, Lib.hid rfl, ?_, ?_, ?_, ?_, ?_, ?_, ?_, ?_, ?_, ?_, ?_, ?_, ?_, ?_, (by repeat (first | with_reducible exact Below.refl _ _ | with_reducible assumption | with_reducible refine Below.setCell ?_ (by first | omega | (simp <;> omega)) _ | with_reducible refine balloc ?_ _ | with_reducible refine Below.drew ?_ | with_reducible refine bstep ?_ (by with_reducible assumption)))⟩
    all_goals go_simp
  case round =>
    obtain ⟨k, rfl, hk, HA, kv0, kv1, kr0, kr1, kr2, kr3, kr4, kr5, jr0, jr1, jr2, jr3, jr4, jr5, hb0⟩ := hrel
    have zv : w.heap.size < wr.heap.size := World.block_lt_of_cell? _ _ kv0
    have zr : w.heap.size + 1 < wr.heap.size := World.block_lt_of_cell? _ _ kr0
    by_cases hlt : k < l.length
    · have HN := Lib.hid (shK_succ (v := (v1, v2)) hlt)
      obtain ⟨b, off, rfl, hR⟩ := HP.out (by omega)
      have hbl := hR.lt (by omega)
      have hgo := vaS_ok (hall k hlt)
      obtain ⟨e1, e2, e3, e4, e5, e6⟩ := (hR.below hbl hb0) k hlt
      clear hR
      generalize hg : gs l k = g at e1 e2 e3 e4 e5 e6 hgo
      have HG := Lib.hid hg
      clear hg
      obtain ⟨t1, t2, t3, t4, t5, t6⟩ := g
      dsimp only at e1 e2 e3 e4 e5 e6
      go_wp2_with fail
      refine Calls.mono (has_c t1 t2 t3 t4 t5 t6 v1 v2 _ hgo.1 hgo.2 hv) ?_
      rintro e w1 ⟨rfl, hb⟩
      replace kv0 := cell_later hb (cell_al _ kv0)
      replace kv1 := cell_later hb (cell_al _ kv1)
      replace jr0 := fro_later hb (cell_al _ kr0) (fro_al jr0)
      replace kr0 := cell_later hb (cell_al _ kr0)
      replace jr1 := fro_later hb (cell_al _ kr1) (fro_al jr1)
      replace kr1 := cell_later hb (cell_al _ kr1)
      replace jr2 := fro_later hb (cell_al _ kr2) (fro_al jr2)
      replace kr2 := cell_later hb (cell_al _ kr2)
      replace jr3 := fro_later hb (cell_al _ kr3) (fro_al jr3)
      replace kr3 := cell_later hb (cell_al _ kr3)
      replace jr4 := fro_later hb (cell_al _ kr4) (fro_al jr4)
      replace kr4 := cell_later hb (cell_al _ kr4)
      replace jr5 := fro_later hb (cell_al _ kr5) (fro_al jr5)
      replace kr5 := cell_later hb (cell_al _ kr5)
      have kt0 : w1.cell? ⟨wr.heap.size, 0, none⟩ = some (.int .i64 t1) := cell_later hb (by go_simp)
      have kt1 : w1.cell? ⟨wr.heap.size, 1, none⟩ = some (.int .i64 t2) := cell_later hb (by go_simp)
      have kt2 : w1.cell? ⟨wr.heap.size, 2, none⟩ = some (.int .i64 t3) := cell_later hb (by go_simp)
      have kt3 : w1.cell? ⟨wr.heap.size, 3, none⟩ = some (.int .i64 t4) := cell_later hb (by go_simp)
      have kt4 : w1.cell? ⟨wr.heap.size, 4, none⟩ = some (.int .i64 t5) := cell_later hb (by go_simp)
      have kt5 : w1.cell? ⟨wr.heap.size, 5, none⟩ = some (.int .i64 t6) := cell_later hb (by go_simp)
      replace zv : w.heap.size < w1.heap.size := World.block_lt_of_cell? _ _ kv0
      have zv_w1 := zv
      replace zr : w.heap.size + 1 < w1.heap.size := World.block_lt_of_cell? _ _ kr0
      have zr_w1 := zr
      have zt : wr.heap.size < w1.heap.size := World.block_lt_of_cell? _ _ kt0
      have zt_w1 := zt
      replace hb0 : Below w.heap.size w w1 := (by repeat (first | with_reducible exact Below.refl _ _ | with_reducible assumption | with_reducible refine Below.setCell ?_ (by first | omega | (simp <;> omega)) _ | with_reducible refine balloc ?_ _ | with_reducible refine Below.drew ?_ | with_reducible refine bstep ?_ (by with_reducible assumption)))
      have hs_w1 := hb.size; (try simp only [World.size_alloc, World.size_setCell] at hs_w1)
      clear hb
      cases hx : hasV (t1, t2) (t3, t4) (v1, v2)
      · have HV := Lib.hid hx
        go_wp2
        go_roundw
        case rel => exact ⟨k + 1, by simp, by omega, Lib.hid (by rw [HN.out, HA.out, HG.out]; exact HV.out), kv0, kv1, kr0, kr1, kr2, kr3, kr4, kr5, jr0, jr1, jr2, jr3, jr4, jr5, hb0⟩
        case measure => simp [intOf]; omega
      · have HV := Lib.hid hx
        have hE := shL_some hlt HA.out (by rw [HG.out]; exact HV.out)
        rw [HG.out] at hE
        dsimp only at hE
        have HE := Lib.hid hE
        clear hE
        go_wp2
        refine bodyPost_ret ?_ rfl ⟨rfl, (by repeat (first | with_reducible exact Below.refl _ _ | with_reducible assumption | with_reducible refine Below.setCell ?_ (by first | omega | (simp <;> omega)) _ | with_reducible refine balloc ?_ _ | with_reducible refine Below.drew ?_ | with_reducible refine bstep ?_ (by with_reducible assumption)))⟩
        simp [results, Try.results39, go_sem, HE.out, kr0, kr1, kr2, kr3, kr4, kr5, jr0, jr1, jr2, jr3, jr4, jr5]
    · obtain rfl : k = l.length := by omega
      go_wp2
      refine bodyPost_ret ?_ rfl ⟨rfl, (by repeat (first | with_reducible exact Below.refl _ _ | with_reducible assumption | with_reducible refine Below.setCell ?_ (by first | omega | (simp <;> omega)) _ | with_reducible refine balloc ?_ _ | with_reducible refine Below.drew ?_ | with_reducible refine bstep ?_ (by with_reducible assumption)))⟩
      simp [results, Try.results39, go_sem, shL_none HA.out, kr0, kr1, kr2, kr3, kr4, kr5, jr0, jr1, jr2, jr3, jr4, jr5]


end Go.Proofs.Ytpadkmlckmopfaa.Se

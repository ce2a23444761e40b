/- TurD: Turned: what is not valid. -/
import Derived.Test.YtpadkmlckmopfaaTurC
import Derived.Test.YtpadkmlckmopfaaSecI
import Derived.Test.YtpadkmlckmopfaaRows
import Derived.WalkKit
import Derived.WalkSpells
import Derived.WalkLawsBesides
import Derived.Lib.Hide
import Derived.Deep.QuietTactic
import Derived.BigQuiet
import Derived.RegionTactic
import Derived.ChangeAlike
import Derived.BigRegion
import Derived.Deep.RegionHeld3
import Derived.Deep.RegionWith
import Derived.Outline
import Derived.IntWalk
import Derived.Deep.DeepCutAuto
import Derived.LoopTactic
import Derived.OwnWalk
import Derived.Laws.OwnMore
import Derived.StillTailTactics
import Derived.RangeFuncBox
import Derived.RangeFuncNested
namespace Go.Proofs.Ytpadkmlckmopfaa.Se
open Go.RowKit
set_option linter.unusedSimpArgs false
set_option linter.unusedVariables false

theorem quarter_s (a : Value) (l : List Sec) (w : World) (ha : Secs w a l) (hl : vaL l = true) : Calls Try.prog 31 #[a] w fun e W' => ∃ v, e = .returned v ∧ Secs W' v (quL l) ∧ Below w.heap.size w W' := by
  refine (quarter_c a l w ha hl).mono fun e W' h => ?_
  obtain ⟨v, he, ho, hb⟩ := h
  refine ⟨v, he, own_secs (base := w.heap.size) (by rw [quL_len]; exact ho) ?_, hb⟩
  rw [quL_len]
  have := (vaL_all hl).1
  omega
theorem normal_s (a : Value) (l : List Sec) (N : Nat) (w : World) (ha : Secs w a l) (hl : vaL l = true) (hN : (noL l).length = N) : Calls Try.prog 22 #[a] w fun e W' => ∃ p c, e = .returned (.tuple #[.slice p N c, (.int .i64 0)]) ∧ Below w.heap.size w W' := by
  refine (Normal_ok a l w ha hl).mono fun e W' h => ?_
  obtain ⟨v, he, ho, hb⟩ := h
  obtain ⟨p, c, rfl, _, _⟩ := own_form ho
  exact ⟨p, c, by rw [he, hN], hb⟩
set_option maxRecDepth 100000 in
set_option maxHeartbeats 3200000 in
theorem turned_bad (va vb : Value) (l m : List Sec) (v1 v2 : Int) (w : World) (ha : Secs w va l) (hb : Secs w vb m) (hd : ∀ W, Calls Try.prog 11 #[] W (Ret W (.bool true))) (hn : (vaL l && vaL m) = false) : Calls Try.prog 9 #[va, vb, (.agg #[.int .i64 v1, .int .i64 v2])] w (Ret w (.bool true)) := by
  have HA := Lib.hid ha
  have HB := Lib.hid hb
  have HD := Lib.hid hd
  clear hd ha hb
  cases hl : vaL l
  · have CVA : ∀ W, Secs W va l → Calls Try.prog 12 #[va] W (Ret W (.bool false)) := fun W k => by have := Valid_c va l W k; rwa [hl] at this
    clear hl hn
    go_enter Try.func9, Try.ntmps9
    go_wp2_with fail
    refine Calls.mono (HD.out _) ?_
    rintro e w1 ⟨rfl, hb⟩
    have kv0 : w1.cell? ⟨w.heap.size, 0, none⟩ = some (.int .i64 v1) := cell_later hb (by go_simp)
    have kv1 : w1.cell? ⟨w.heap.size, 1, none⟩ = some (.int .i64 v2) := cell_later hb (by go_simp)
    have zv : w.heap.size < w1.heap.size := World.block_lt_of_cell? _ _ kv0
    have zv_w1 := zv
    have hb0 : Below w.heap.size w w1 := bstep (balloc (Below.refl _ _) _) hb
    have hs_w1 := hb.size; (try simp only [World.size_alloc, World.size_setCell] at hs_w1)
    clear hb
    go_wp2_with fail
    refine Calls.mono (CVA _ (HA.out.below hb0)) ?_
    rintro e w2 ⟨rfl, hb⟩
    replace kv0 := cell_later hb kv0
    replace kv1 := cell_later hb kv1
    replace zv : w.heap.size < w2.heap.size := World.block_lt_of_cell? _ _ kv0
    have zv_w2 := zv
    replace hb0 : Below w.heap.size w w2 := bstep hb0 hb
    have hs_w2 : w1.heap.size ≤ w2.heap.size := hb.size
    clear hb
    go_wp2
    go_ret
    exact ⟨rfl, hb0⟩
  · have hm : vaL m = false := by rw [hl] at hn; simpa using hn
    have CVA : ∀ W, Secs W va l → Calls Try.prog 12 #[va] W (Ret W (.bool true)) := fun W k => by have := Valid_c va l W k; rwa [hl] at this
    have CVB : ∀ W, Secs W vb m → Calls Try.prog 12 #[vb] W (Ret W (.bool false)) := fun W k => by have := Valid_c vb m W k; rwa [hm] at this
    clear hl hn hm
    go_enter Try.func9, Try.ntmps9
    go_wp2_with fail
    refine Calls.mono (HD.out _) ?_
    rintro e w1 ⟨rfl, hb⟩
    have kv0 : w1.cell? ⟨w.heap.size, 0, none⟩ = some (.int .i64 v1) := cell_later hb (by go_simp)
    have kv1 : w1.cell? ⟨w.heap.size, 1, none⟩ = some (.int .i64 v2) := cell_later hb (by go_simp)
    have zv : w.heap.size < w1.heap.size := World.block_lt_of_cell? _ _ kv0
    have zv_w1 := zv
    have hb0 : Below w.heap.size w w1 := bstep (balloc (Below.refl _ _) _) hb
    have hs_w1 := hb.size; (try simp only [World.size_alloc, World.size_setCell] at hs_w1)
    clear hb
    go_wp2_with fail
    refine Calls.mono (CVA _ (HA.out.below hb0)) ?_
    rintro e w2 ⟨rfl, hb⟩
    replace kv0 := cell_later hb kv0
    replace kv1 := cell_later hb kv1
    replace zv : w.heap.size < w2.heap.size := World.block_lt_of_cell? _ _ kv0
    have zv_w2 := zv
    replace hb0 : Below w.heap.size w w2 := bstep hb0 hb
    have hs_w2 : w1.heap.size ≤ w2.heap.size := hb.size
    clear hb
    go_wp2_with fail
    refine Calls.mono (CVB _ (HB.out.below hb0)) ?_
    rintro e w3 ⟨rfl, hb⟩
    replace kv0 := cell_later hb kv0
    replace kv1 := cell_later hb kv1
    replace zv : w.heap.size < w3.heap.size := World.block_lt_of_cell? _ _ kv0
    have zv_w3 := zv
    replace hb0 : Below w.heap.size w w3 := bstep hb0 hb
    have hs_w3 : w2.heap.size ≤ w3.heap.size := hb.size
    clear hb
    go_wp2
    go_ret
    exact ⟨rfl, hb0⟩

end Go.Proofs.Ytpadkmlckmopfaa.Se

/- OneB: one color; what is not valid. -/
import Derived.Test.YtpadkmlckmopfaaOneA
import Derived.Test.YtpadkmlckmopfaaSecT
import Derived.Test.YtpadkmlckmopfaaSecI
import Derived.Test.YtpadkmlckmopfaaRows
import Derived.WalkKit
import Derived.WalkSpells
import Derived.WalkLawsBesides
import Derived.Lib.Hide
import Derived.Deep.QuietTactic
import Derived.BigQuiet
import Derived.RegionTactic
import Derived.ChangeAlike
import Derived.BigRegion
import Derived.Deep.RegionHeld3
import Derived.Deep.RegionWith
import Derived.Outline
import Derived.IntWalk
import Derived.Deep.DeepCutAuto
namespace Go.Proofs.Ytpadkmlckmopfaa.Se
open Go.RowKit
set_option linter.unusedSimpArgs false
set_option linter.unusedVariables false

set_option maxRecDepth 100000 in
set_option maxHeartbeats 3200000 in
theorem one_bad (va : Value) (l : List Sec) (v1 v2 z : Int) (w : World) (ha : Secs w va l) (hd : ∀ W, Calls Try.prog 11 #[] W (Ret W (.bool true))) (hn : (vaL l && okD (v1, v2)) = false) : Calls Try.prog 5 #[va, (.agg #[.int .i64 v1, .int .i64 v2]), .int .u8 z] w (Ret w (.bool true)) := by
  have HA := Lib.hid ha
  have HD := Lib.hid hd
  clear hd
  obtain ⟨pa, ca, rfl⟩ : ∃ p c, va = .slice p l.length c := by obtain ⟨⟨p, c, h, _⟩, _⟩ := ha; exact ⟨p, c, h⟩
  clear ha
  have CN := fun W k1 => Color_no (.slice pa l.length ca) l v1 v2 W k1 hn
  have HN := Lib.hid hn
  clear hn
  go_enter Try.func5, Try.ntmps5
  go_wp2_with fail
  refine Calls.mono (HD.out _) ?_
  rintro e w1 ⟨rfl, hb⟩
  have kv0 : w1.cell? ⟨w.heap.size, 0, none⟩ = some (.int .i64 v1) := cell_later hb (by go_simp)
  have kv1 : w1.cell? ⟨w.heap.size, 1, none⟩ = some (.int .i64 v2) := cell_later hb (by go_simp)
  have zv : w.heap.size < w1.heap.size := World.block_lt_of_cell? _ _ kv0
  have zv_w1 := zv
  have hb0 : Below w.heap.size w w1 := bstep (balloc (Below.refl _ _) _) hb
  have hs_w1 := hb.size; (try simp only [World.size_alloc, World.size_setCell] at hs_w1)
  clear hb
  go_wp2_with fail
  refine Calls.mono (CN _ (HA.out.below hb0)) ?_
  rintro e w2 ⟨rfl, hb⟩
  replace kv0 := cell_later hb kv0
  replace kv1 := cell_later hb kv1
  replace zv : w.heap.size < w2.heap.size := World.block_lt_of_cell? _ _ kv0
  have zv_w2 := zv
  replace hb0 : Below w.heap.size w w2 := bstep hb0 hb
  have hs_w2 : w1.heap.size ≤ w2.heap.size := hb.size
  clear hb
  go_wp2
  go_ret
  exact ⟨rfl, hb0⟩
theorem gs_drop {l : List Sec} {k i : Nat} : gs (l.drop k) i = gs l (k + i) := by
  unfold gs
  rw [List.getD_eq_getElem?_getD, List.getD_eq_getElem?_getD, List.getElem?_drop]
theorem Row.drop {w : World} {b off : Nat} {l : List Sec} (h : Row w b off l) (k : Nat) : Row w b (off + k * 6) (l.drop k) := fun i hi => by
  rw [List.length_drop] at hi
  rw [gs_drop]
  have e := h (k + i) (by omega)
  rw [show off + k * 6 + i * 6 = off + (k + i) * 6 by omega]
  exact e
theorem own_empty {w : World} {base : Nat} (h : base ≤ w.heap.size) : (w.alloc (.cells #[] 26)).ownsRow base 26 6 (.slice (some ⟨w.heap.size, 0, none⟩) 0 0) 0 [] :=
  ⟨rfl, .inr ⟨w.heap.size, 0, #[], rfl, h, heap_alloc_new w _, Nat.le_refl _, Nat.zero_le _, rfl, rfl⟩⟩
theorem mod_ex {z : Int} {n : Nat} (h0 : 0 ≤ z) (hn : 0 < n) : ∃ k : Nat, z.tmod (n : Int) = (k : Int) ∧ k < n := by
  have e := Int.tmod_eq_emod_of_nonneg (b := (n : Int)) h0
  have a1 := Int.emod_nonneg z (show (n : Int) ≠ 0 by omega)
  have a2 := Int.emod_lt_of_pos z (show (0 : Int) < (n : Int) by omega)
  exact ⟨(z.tmod n).toNat, by omega, by omega⟩

end Go.Proofs.Ytpadkmlckmopfaa.Se

/- SecG: isSound. -/
import Derived.Test.YtpadkmlckmopfaaSecF
import Derived.Test.YtpadkmlckmopfaaRows
import Derived.WalkKit
import Derived.WalkSpells
import Derived.WalkLawsBesides
import Derived.Lib.Hide
import Derived.Deep.QuietTactic
import Derived.BigQuiet
import Derived.RegionTactic
import Derived.ChangeAlike
import Derived.BigRegion
import Derived.Deep.RegionHeld3
import Derived.Deep.RegionWith
import Derived.Outline
import Derived.IntWalk
import Derived.Deep.DeepCutAuto
import Derived.LoopTactic
namespace Go.Proofs.Ytpadkmlckmopfaa.Se
open Go.RowKit
set_option linter.unusedSimpArgs false
set_option linter.unusedVariables false

set_option maxRecDepth 20000 in
set_option maxHeartbeats 3200000 in
theorem isSound_c (b off cap : Nat) (l : List Sec) (w : World) (h12 : l.length ≤ 12) (hcap : l.length ≤ cap) (h0l : 0 < l.length) (hr : Row w b off l) :
    Calls Try.prog 32 #[.slice (some ⟨b, off, none⟩) l.length cap] w (Ret w (.bool (soK l l.length))) := by
  have hbl := hr.lt h0l
  have HR := Lib.hid hr
  clear hr
  go_enter Try.func32, Try.ntmps32
  go_wp2
  go_loopw [8] (fun i wr => ∃ k : Nat, i = (.int .i64 k) ∧ k ≤ l.length ∧ Hid (soK l k = true) ∧ Below w.heap.size w wr) (fun i _ => l.length - (intOf i).toNat)
  case atStart => exact ⟨0, rfl, by omega, Lib.hid rfl, Below.refl _ _⟩
  case round =>
    obtain ⟨k, rfl, hk, HA, hb0⟩ := hrel
    by_cases hlt : k < l.length
    · have HN := Lib.hid (show soK l (k + 1) = (soK l k && (vaS (gs l k) && !((l.take k).any fun t => ovS (gs l k) t))) from rfl)
      have HF : Hid (soK l (k + 1) = false → soK l l.length = false) := Lib.hid (fun h => by
        rw [Bool.eq_false_iff] at *
        exact fun h2 => h (soK_mono (by omega) h2))
      have HL : Hid (∀ i, i < k → vaS (gs l i) = true) := Lib.hid (fun i hi => soK_va HA.out hi)
      obtain ⟨e1, e2, e3, e4, e5, e6⟩ := (HR.out.below hbl hb0) k hlt
      generalize hg : gs l k = g at *
      have HG := Lib.hid hg
      clear hg
      obtain ⟨t1, t2, t3, t4, t5, t6⟩ := g
      dsimp only at e1 e2 e3 e4 e5 e6
      go_wp2_with fail
      refine Calls.mono (vs_c t1 t2 t3 t4 t5 t6 _) ?_
      rintro e w1 ⟨rfl, hb⟩
      have kt0 : w1.cell? ⟨wr.heap.size, 0, none⟩ = some (.int .i64 t1) := cell_later hb (by go_simp)
      have kt1 : w1.cell? ⟨wr.heap.size, 1, none⟩ = some (.int .i64 t2) := cell_later hb (by go_simp)
      have kt2 : w1.cell? ⟨wr.heap.size, 2, none⟩ = some (.int .i64 t3) := cell_later hb (by go_simp)
      have kt3 : w1.cell? ⟨wr.heap.size, 3, none⟩ = some (.int .i64 t4) := cell_later hb (by go_simp)
      have kt4 : w1.cell? ⟨wr.heap.size, 4, none⟩ = some (.int .i64 t5) := cell_later hb (by go_simp)
      have kt5 : w1.cell? ⟨wr.heap.size, 5, none⟩ = some (.int .i64 t6) := cell_later hb (by go_simp)
      have zt : wr.heap.size < w1.heap.size := World.block_lt_of_cell? _ _ kt0
      have zt_w1 := zt
      replace hb0 : Below w.heap.size w w1 := (by repeat (first | with_reducible exact Below.refl _ _ | with_reducible assumption | with_reducible refine Below.setCell ?_ (by first | omega | (simp <;> omega)) _ | with_reducible refine balloc ?_ _ | with_reducible refine Below.drew ?_ | with_reducible refine bstep ?_ (by with_reducible assumption)))
      have hs_w1 := hb.size; (try simp only [World.size_alloc, World.size_setCell] at hs_w1)
      clear hb
      cases hv : vaS ⟨t1, t2, t3, t4, t5, t6⟩
      · have HV := Lib.hid hv
        go_wp2
        go_ret
        exact ret_bv (HF.out (by rw [HN.out, HV.out]; simp)).symm (by repeat (first | with_reducible exact Below.refl _ _ | with_reducible assumption | with_reducible refine Below.setCell ?_ (by first | omega | (simp <;> omega)) _ | with_reducible refine balloc ?_ _ | with_reducible refine Below.drew ?_ | with_reducible refine bstep ?_ (by with_reducible assumption)))
      · have HV := Lib.hid hv
        have hgo := vaS_ok hv
        have hkl : (l.take k).length = k := by rw [List.length_take]; omega
        have C2 : ∀ w2, Below w.heap.size w w2 → w2.cell? ⟨wr.heap.size, 0, none⟩ = some (.int .i64 t1) → w2.cell? ⟨wr.heap.size, 1, none⟩ = some (.int .i64 t2) → w2.cell? ⟨wr.heap.size, 2, none⟩ = some (.int .i64 t3) → w2.cell? ⟨wr.heap.size, 3, none⟩ = some (.int .i64 t4) → w2.cell? ⟨wr.heap.size, 4, none⟩ = some (.int .i64 t5) → w2.cell? ⟨wr.heap.size, 5, none⟩ = some (.int .i64 t6) → Calls Try.prog 51 #[.slice (some ⟨b, off, none⟩) k cap, .func (.func 49) #[] #[.pointer (some ⟨wr.heap.size, 0, none⟩)]] w2 (Ret w2 (.bool ((l.take k).any fun t => ovS ⟨t1, t2, t3, t4, t5, t6⟩ t))) := fun w2 hb2 c0 c1 c2 c3 c4 c5 => by
          have := contains_c t1 t2 t3 t4 t5 t6 wr.heap.size b off cap (l.take k) w2 (by omega) hgo (fun i hi => by rw [List.length_take] at hi; rw [gs_take (by omega)]; exact HL.out i (by omega)) (fun _ => ⟨(HR.out.below hbl hb2).take k, by have := hb2.size; omega⟩) c0 c1 c2 c3 c4 c5
          rwa [hkl] at this
        clear hkl
        have y1 : (k : Int) ≤ (cap : Int) := by omega
        go_wp2_with fail
        refine Calls.mono (C2 _ hb0 kt0 kt1 kt2 kt3 kt4 kt5) ?_
        rintro e w2 ⟨rfl, hb⟩
        replace kt0 := cell_later hb kt0
        replace kt1 := cell_later hb kt1
        replace kt2 := cell_later hb kt2
        replace kt3 := cell_later hb kt3
        replace kt4 := cell_later hb kt4
        replace kt5 := cell_later hb kt5
        replace zt : wr.heap.size < w2.heap.size := World.block_lt_of_cell? _ _ kt0
        have zt_w2 := zt
        replace hb0 : Below w.heap.size w w2 := (by repeat (first | with_reducible exact Below.refl _ _ | with_reducible assumption | with_reducible refine Below.setCell ?_ (by first | omega | (simp <;> omega)) _ | with_reducible refine balloc ?_ _ | with_reducible refine Below.drew ?_ | with_reducible refine bstep ?_ (by with_reducible assumption)))
        have hs_w2 : w1.heap.size ≤ w2.heap.size := hb.size
        clear hb
        generalize hx : ((l.take k).any fun t => ovS ⟨t1, t2, t3, t4, t5, t6⟩ t) = x at *
        have HX := Lib.hid hx
        clear hx C2
        cases x
        · go_wp2
          go_roundw
          case rel => exact ⟨k + 1, by simp, by omega, Lib.hid (by rw [HN.out, HA.out, HV.out]; rfl), hb0⟩
          case measure => simp [intOf]; omega
        · go_wp2
          go_ret
          exact ret_bv (HF.out (by rw [HN.out, HV.out]; simp)).symm (by repeat (first | with_reducible exact Below.refl _ _ | with_reducible assumption | with_reducible refine Below.setCell ?_ (by first | omega | (simp <;> omega)) _ | with_reducible refine balloc ?_ _ | with_reducible refine Below.drew ?_ | with_reducible refine bstep ?_ (by with_reducible assumption)))
    · obtain rfl : k = l.length := by omega
      go_wp2
      go_ret
      exact ret_bv HA.out.symm (by repeat (first | with_reducible exact Below.refl _ _ | with_reducible assumption | with_reducible refine Below.setCell ?_ (by first | omega | (simp <;> omega)) _ | with_reducible refine balloc ?_ _ | with_reducible refine Below.drew ?_ | with_reducible refine bstep ?_ (by with_reducible assumption)))


end Go.Proofs.Ytpadkmlckmopfaa.Se

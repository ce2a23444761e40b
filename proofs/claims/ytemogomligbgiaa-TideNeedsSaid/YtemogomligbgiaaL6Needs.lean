/- L6Needs: the law Needs. -/
import Derived.Test.YtemogomligbgiaaTidNd
import Derived.Test.YtemogomligbgiaaRows
import Derived.WalkKit
import Derived.WalkSpells
import Derived.WalkLawsBesides
import Derived.Lib.Hide
import Derived.Deep.QuietTactic
import Derived.BigQuiet
import Derived.RegionTactic
import Derived.ChangeAlike
import Derived.BigRegion
import Derived.Deep.RegionHeld3
import Derived.Deep.RegionWith
import Derived.Outline
import Derived.IntWalk
import Derived.Deep.DeepCutAuto
import Derived.LoopTactic
namespace Go.Proofs.Ytemogomligbgiaa.Ti
open Go.RowKit Sp
set_option linter.unusedSimpArgs false
set_option linter.unusedVariables false

set_option maxRecDepth 100000 in
set_option maxHeartbeats 16000000 in
theorem needs_w (w : World) (s p : Int) (u : Value) (l : List Pr) (hsp : Spans w u l) (need more f g : Int) : Calls Try.prog 10 #[.agg #[(.int .i64 s), (.int .i64 p), u], (.int .i64 need), (.int .i64 more), (.int .i64 f), (.int .i64 g)] w (Ret w (.bool true)) := by
  have F1 := fun W h => few_c s p u l W (hsp.below h)
  have WA := fun W h => Windows_c s p u l need W (hsp.below h)
  have WB := fun W h => Windows_c s p u l more W (hsp.below h)
  have NA := fun W h => Next_c s p u l need f g W (hsp.below h)
  have NB := fun W h => Next_c s p u l more f g W (hsp.below h)
  obtain ⟨⟨pp, cap, rfl, hn, hcap, hp⟩, hl⟩ := hsp
  clear hn hp
  generalize hfew : fewB p l = few at *
  clear hfew
  unfold WinP at WA WB
  cases few
  · clear WA WB NA NB
    go_enter Try.func10, Try.ntmps10
    go_wp2_with fail
    refine Calls.mono (head_c _) ?_
    rintro e w1 ⟨rfl, hb⟩
    have kt0 : w1.cell? ⟨w.heap.size, 0, none⟩ = some (.int .i64 s) := cell_later hb (by go_simp)
    have kt1 : w1.cell? ⟨w.heap.size, 1, none⟩ = some (.int .i64 p) := cell_later hb (by go_simp)
    have kt2 : w1.cell? ⟨w.heap.size, 2, none⟩ = some (.slice pp l.length cap) := cell_later hb (by go_simp)
    have zt : w.heap.size < w1.heap.size := World.block_lt_of_cell? _ _ kt0
    have zt_w1 := zt
    have hb0 : Below w.heap.size w w1 := (by repeat (first | with_reducible exact Below.refl _ _ | with_reducible assumption | with_reducible refine Below.setCell ?_ (by first | omega | (simp <;> omega)) _ | with_reducible refine balloc ?_ _ | with_reducible refine Below.drew ?_ | with_reducible refine bstep ?_ (by with_reducible assumption)))
    have hs_w1 := hb.size; (try simp only [World.size_alloc, World.size_setCell] at hs_w1)
    clear hb
    go_wp2_with fail
    refine Calls.mono (F1 _ (by repeat (first | with_reducible exact Below.refl _ _ | with_reducible assumption | with_reducible refine Below.setCell ?_ (by first | omega | (simp <;> omega)) _ | with_reducible refine balloc ?_ _ | with_reducible refine Below.drew ?_ | with_reducible refine bstep ?_ (by with_reducible assumption)))) ?_
    rintro e w2 ⟨rfl, hb⟩
    replace kt0 := cell_later hb kt0
    replace kt1 := cell_later hb kt1
    replace kt2 := cell_later hb kt2
    replace zt : w.heap.size < w2.heap.size := World.block_lt_of_cell? _ _ kt0
    have zt_w2 := zt
    replace hb0 : Below w.heap.size w w2 := (by repeat (first | with_reducible exact Below.refl _ _ | with_reducible assumption | with_reducible refine Below.setCell ?_ (by first | omega | (simp <;> omega)) _ | with_reducible refine balloc ?_ _ | with_reducible refine Below.drew ?_ | with_reducible refine bstep ?_ (by with_reducible assumption)))
    have hs_w2 : w1.heap.size ≤ w2.heap.size := hb.size
    clear hb
    go_wp2
    go_ret
    exact ⟨rfl, (by repeat (first | with_reducible exact Below.refl _ _ | with_reducible assumption | with_reducible refine Below.setCell ?_ (by first | omega | (simp <;> omega)) _ | with_reducible refine balloc ?_ _ | with_reducible refine Below.drew ?_ | with_reducible refine bstep ?_ (by with_reducible assumption)))⟩
  · by_cases hnm : need ≤ more
    · cases h1 : wOk s p l need
      · have hwe : wE s p l need = 1 := by unfold wE; rw [h1]; rfl
        rw [hwe] at WA
        clear NA NB hwe
        go_enter Try.func10, Try.ntmps10
        go_wp2_with fail
        refine Calls.mono (head_c _) ?_
        rintro e w1 ⟨rfl, hb⟩
        have kt0 : w1.cell? ⟨w.heap.size, 0, none⟩ = some (.int .i64 s) := cell_later hb (by go_simp)
        have kt1 : w1.cell? ⟨w.heap.size, 1, none⟩ = some (.int .i64 p) := cell_later hb (by go_simp)
        have kt2 : w1.cell? ⟨w.heap.size, 2, none⟩ = some (.slice pp l.length cap) := cell_later hb (by go_simp)
        have zt : w.heap.size < w1.heap.size := World.block_lt_of_cell? _ _ kt0
        have zt_w1 := zt
        have hb0 : Below w.heap.size w w1 := (by repeat (first | with_reducible exact Below.refl _ _ | with_reducible assumption | with_reducible refine Below.setCell ?_ (by first | omega | (simp <;> omega)) _ | with_reducible refine balloc ?_ _ | with_reducible refine Below.drew ?_ | with_reducible refine bstep ?_ (by with_reducible assumption)))
        have hs_w1 := hb.size; (try simp only [World.size_alloc, World.size_setCell] at hs_w1)
        clear hb
        go_wp2_with fail
        refine Calls.mono (F1 _ (by repeat (first | with_reducible exact Below.refl _ _ | with_reducible assumption | with_reducible refine Below.setCell ?_ (by first | omega | (simp <;> omega)) _ | with_reducible refine balloc ?_ _ | with_reducible refine Below.drew ?_ | with_reducible refine bstep ?_ (by with_reducible assumption)))) ?_
        rintro e w2 ⟨rfl, hb⟩
        replace kt0 := cell_later hb kt0
        replace kt1 := cell_later hb kt1
        replace kt2 := cell_later hb kt2
        replace zt : w.heap.size < w2.heap.size := World.block_lt_of_cell? _ _ kt0
        have zt_w2 := zt
        replace hb0 : Below w.heap.size w w2 := (by repeat (first | with_reducible exact Below.refl _ _ | with_reducible assumption | with_reducible refine Below.setCell ?_ (by first | omega | (simp <;> omega)) _ | with_reducible refine balloc ?_ _ | with_reducible refine Below.drew ?_ | with_reducible refine bstep ?_ (by with_reducible assumption)))
        have hs_w2 : w1.heap.size ≤ w2.heap.size := hb.size
        clear hb
        go_wp2_with fail
        refine Calls.mono (WA _ (by repeat (first | with_reducible exact Below.refl _ _ | with_reducible assumption | with_reducible refine Below.setCell ?_ (by first | omega | (simp <;> omega)) _ | with_reducible refine balloc ?_ _ | with_reducible refine Below.drew ?_ | with_reducible refine bstep ?_ (by with_reducible assumption)))) ?_
        rintro e w3 ⟨lv, rfl, hx, hb⟩
        replace kt0 := cell_later hb kt0
        replace kt1 := cell_later hb kt1
        replace kt2 := cell_later hb kt2
        replace zt : w.heap.size < w3.heap.size := World.block_lt_of_cell? _ _ kt0
        have zt_w3 := zt
        replace hb0 : Below w.heap.size w w3 := (by repeat (first | with_reducible exact Below.refl _ _ | with_reducible assumption | with_reducible refine Below.setCell ?_ (by first | omega | (simp <;> omega)) _ | with_reducible refine balloc ?_ _ | with_reducible refine Below.drew ?_ | with_reducible refine bstep ?_ (by with_reducible assumption)))
        have hs_w3 : w2.heap.size ≤ w3.heap.size := hb.size
        clear hb
        go_wp2_with fail
        refine Calls.mono (WB _ (by repeat (first | with_reducible exact Below.refl _ _ | with_reducible assumption | with_reducible refine Below.setCell ?_ (by first | omega | (simp <;> omega)) _ | with_reducible refine balloc ?_ _ | with_reducible refine Below.drew ?_ | with_reducible refine bstep ?_ (by with_reducible assumption)))) ?_
        rintro e w4 ⟨lu, rfl, hy, hb⟩
        replace kt0 := cell_later hb kt0
        replace kt1 := cell_later hb kt1
        replace kt2 := cell_later hb kt2
        replace zt : w.heap.size < w4.heap.size := World.block_lt_of_cell? _ _ kt0
        have zt_w4 := zt
        replace hb0 : Below w.heap.size w w4 := (by repeat (first | with_reducible exact Below.refl _ _ | with_reducible assumption | with_reducible refine Below.setCell ?_ (by first | omega | (simp <;> omega)) _ | with_reducible refine balloc ?_ _ | with_reducible refine Below.drew ?_ | with_reducible refine bstep ?_ (by with_reducible assumption)))
        have hs_w4 : w3.heap.size ≤ w4.heap.size := hb.size
        clear hb
        go_wp2
        go_ret
        exact ⟨rfl, (by repeat (first | with_reducible exact Below.refl _ _ | with_reducible assumption | with_reducible refine Below.setCell ?_ (by first | omega | (simp <;> omega)) _ | with_reducible refine balloc ?_ _ | with_reducible refine Below.drew ?_ | with_reducible refine bstep ?_ (by with_reducible assumption)))⟩
      · have hwe : wE s p l need = 0 ∧ wL s p l need = wiT s p l need := by unfold wE wL; rw [h1]; exact ⟨rfl, rfl⟩
        rw [hwe.1, hwe.2] at WA
        clear hwe
        cases h2 : wOk s p l more
        · have hwe : wE s p l more = 1 := by unfold wE; rw [h2]; rfl
          rw [hwe] at WB
          clear NA NB hwe
          go_enter Try.func10, Try.ntmps10
          go_wp2_with fail
          refine Calls.mono (head_c _) ?_
          rintro e w1 ⟨rfl, hb⟩
          have kt0 : w1.cell? ⟨w.heap.size, 0, none⟩ = some (.int .i64 s) := cell_later hb (by go_simp)
          have kt1 : w1.cell? ⟨w.heap.size, 1, none⟩ = some (.int .i64 p) := cell_later hb (by go_simp)
          have kt2 : w1.cell? ⟨w.heap.size, 2, none⟩ = some (.slice pp l.length cap) := cell_later hb (by go_simp)
          have zt : w.heap.size < w1.heap.size := World.block_lt_of_cell? _ _ kt0
          have zt_w1 := zt
          have hb0 : Below w.heap.size w w1 := (by repeat (first | with_reducible exact Below.refl _ _ | with_reducible assumption | with_reducible refine Below.setCell ?_ (by first | omega | (simp <;> omega)) _ | with_reducible refine balloc ?_ _ | with_reducible refine Below.drew ?_ | with_reducible refine bstep ?_ (by with_reducible assumption)))
          have hs_w1 := hb.size; (try simp only [World.size_alloc, World.size_setCell] at hs_w1)
          clear hb
          go_wp2_with fail
          refine Calls.mono (F1 _ (by repeat (first | with_reducible exact Below.refl _ _ | with_reducible assumption | with_reducible refine Below.setCell ?_ (by first | omega | (simp <;> omega)) _ | with_reducible refine balloc ?_ _ | with_reducible refine Below.drew ?_ | with_reducible refine bstep ?_ (by with_reducible assumption)))) ?_
          rintro e w2 ⟨rfl, hb⟩
          replace kt0 := cell_later hb kt0
          replace kt1 := cell_later hb kt1
          replace kt2 := cell_later hb kt2
          replace zt : w.heap.size < w2.heap.size := World.block_lt_of_cell? _ _ kt0
          have zt_w2 := zt
          replace hb0 : Below w.heap.size w w2 := (by repeat (first | with_reducible exact Below.refl _ _ | with_reducible assumption | with_reducible refine Below.setCell ?_ (by first | omega | (simp <;> omega)) _ | with_reducible refine balloc ?_ _ | with_reducible refine Below.drew ?_ | with_reducible refine bstep ?_ (by with_reducible assumption)))
          have hs_w2 : w1.heap.size ≤ w2.heap.size := hb.size
          clear hb
          go_wp2_with fail
          refine Calls.mono (WA _ (by repeat (first | with_reducible exact Below.refl _ _ | with_reducible assumption | with_reducible refine Below.setCell ?_ (by first | omega | (simp <;> omega)) _ | with_reducible refine balloc ?_ _ | with_reducible refine Below.drew ?_ | with_reducible refine bstep ?_ (by with_reducible assumption)))) ?_
          rintro e w3 ⟨lv, rfl, hx, hb⟩
          replace kt0 := cell_later hb kt0
          replace kt1 := cell_later hb kt1
          replace kt2 := cell_later hb kt2
          replace zt : w.heap.size < w3.heap.size := World.block_lt_of_cell? _ _ kt0
          have zt_w3 := zt
          replace hb0 : Below w.heap.size w w3 := (by repeat (first | with_reducible exact Below.refl _ _ | with_reducible assumption | with_reducible refine Below.setCell ?_ (by first | omega | (simp <;> omega)) _ | with_reducible refine balloc ?_ _ | with_reducible refine Below.drew ?_ | with_reducible refine bstep ?_ (by with_reducible assumption)))
          have hs_w3 : w2.heap.size ≤ w3.heap.size := hb.size
          clear hb
          go_wp2_with fail
          refine Calls.mono (WB _ (by repeat (first | with_reducible exact Below.refl _ _ | with_reducible assumption | with_reducible refine Below.setCell ?_ (by first | omega | (simp <;> omega)) _ | with_reducible refine balloc ?_ _ | with_reducible refine Below.drew ?_ | with_reducible refine bstep ?_ (by with_reducible assumption)))) ?_
          rintro e w4 ⟨lu, rfl, hy, hb⟩
          replace kt0 := cell_later hb kt0
          replace kt1 := cell_later hb kt1
          replace kt2 := cell_later hb kt2
          replace zt : w.heap.size < w4.heap.size := World.block_lt_of_cell? _ _ kt0
          have zt_w4 := zt
          replace hb0 : Below w.heap.size w w4 := (by repeat (first | with_reducible exact Below.refl _ _ | with_reducible assumption | with_reducible refine Below.setCell ?_ (by first | omega | (simp <;> omega)) _ | with_reducible refine balloc ?_ _ | with_reducible refine Below.drew ?_ | with_reducible refine bstep ?_ (by with_reducible assumption)))
          have hs_w4 : w3.heap.size ≤ w4.heap.size := hb.size
          clear hb
          go_wp2
          go_ret
          exact ⟨rfl, (by repeat (first | with_reducible exact Below.refl _ _ | with_reducible assumption | with_reducible refine Below.setCell ?_ (by first | omega | (simp <;> omega)) _ | with_reducible refine balloc ?_ _ | with_reducible refine Below.drew ?_ | with_reducible refine bstep ?_ (by with_reducible assumption)))⟩
        · have hwe : wE s p l more = 0 ∧ wL s p l more = wiT s p l more := by unfold wE wL; rw [h2]; exact ⟨rfl, rfl⟩
          rw [hwe.1, hwe.2] at WB
          clear hwe
          have NL := next_less (f := f) (g := g) hnm h1 h2
          have hva : vaT s p l = true := by simp only [wOk, Bool.and_eq_true] at h1; exact h1.1
          have NI : Hid (∀ k, k < (wiT s p l more).length → cvK (wiT s p l need) (gt (wiT s p l more) k) (wiT s p l need).length = true) := Lib.hid (fun k hk => needs_in hva hnm hk)
          clear hva h1 h2
          generalize wiT s p l need = A at *
          generalize wiT s p l more = B at *
          generalize nE s p l need f g = ea at *
          generalize nV s p l need f g = xa at *
          generalize nE s p l more f g = eb at *
          generalize nV s p l more f g = xb at *
          have HNL := Lib.hid NL
          have HNA := Lib.hid NA
          have HNB := Lib.hid NB
          clear NL NA NB
          go_enter Try.func10, Try.ntmps10
          go_wp2_with fail
          refine Calls.mono (head_c _) ?_
          rintro e w1 ⟨rfl, hb⟩
          have kt0 : w1.cell? ⟨w.heap.size, 0, none⟩ = some (.int .i64 s) := cell_later hb (by go_simp)
          have kt1 : w1.cell? ⟨w.heap.size, 1, none⟩ = some (.int .i64 p) := cell_later hb (by go_simp)
          have kt2 : w1.cell? ⟨w.heap.size, 2, none⟩ = some (.slice pp l.length cap) := cell_later hb (by go_simp)
          have zt : w.heap.size < w1.heap.size := World.block_lt_of_cell? _ _ kt0
          have zt_w1 := zt
          have hb0 : Below w.heap.size w w1 := (by repeat (first | with_reducible exact Below.refl _ _ | with_reducible assumption | with_reducible refine Below.setCell ?_ (by first | omega | (simp <;> omega)) _ | with_reducible refine balloc ?_ _ | with_reducible refine Below.drew ?_ | with_reducible refine bstep ?_ (by with_reducible assumption)))
          have hs_w1 := hb.size; (try simp only [World.size_alloc, World.size_setCell] at hs_w1)
          clear hb
          go_wp2_with fail
          refine Calls.mono (F1 _ (by repeat (first | with_reducible exact Below.refl _ _ | with_reducible assumption | with_reducible refine Below.setCell ?_ (by first | omega | (simp <;> omega)) _ | with_reducible refine balloc ?_ _ | with_reducible refine Below.drew ?_ | with_reducible refine bstep ?_ (by with_reducible assumption)))) ?_
          rintro e w2 ⟨rfl, hb⟩
          replace kt0 := cell_later hb kt0
          replace kt1 := cell_later hb kt1
          replace kt2 := cell_later hb kt2
          replace zt : w.heap.size < w2.heap.size := World.block_lt_of_cell? _ _ kt0
          have zt_w2 := zt
          replace hb0 : Below w.heap.size w w2 := (by repeat (first | with_reducible exact Below.refl _ _ | with_reducible assumption | with_reducible refine Below.setCell ?_ (by first | omega | (simp <;> omega)) _ | with_reducible refine balloc ?_ _ | with_reducible refine Below.drew ?_ | with_reducible refine bstep ?_ (by with_reducible assumption)))
          have hs_w2 : w1.heap.size ≤ w2.heap.size := hb.size
          clear hb
          go_wp2_with fail
          refine Calls.mono (WA _ (by repeat (first | with_reducible exact Below.refl _ _ | with_reducible assumption | with_reducible refine Below.setCell ?_ (by first | omega | (simp <;> omega)) _ | with_reducible refine balloc ?_ _ | with_reducible refine Below.drew ?_ | with_reducible refine bstep ?_ (by with_reducible assumption)))) ?_
          rintro e w3 ⟨lv, rfl, hx, hb⟩
          replace kt0 := cell_later hb kt0
          replace kt1 := cell_later hb kt1
          replace kt2 := cell_later hb kt2
          replace zt : w.heap.size < w3.heap.size := World.block_lt_of_cell? _ _ kt0
          have zt_w3 := zt
          replace hb0 : Below w.heap.size w w3 := (by repeat (first | with_reducible exact Below.refl _ _ | with_reducible assumption | with_reducible refine Below.setCell ?_ (by first | omega | (simp <;> omega)) _ | with_reducible refine balloc ?_ _ | with_reducible refine Below.drew ?_ | with_reducible refine bstep ?_ (by with_reducible assumption)))
          have hs_w3 : w2.heap.size ≤ w3.heap.size := hb.size
          clear hb
          go_wp2_with fail
          refine Calls.mono (WB _ (by repeat (first | with_reducible exact Below.refl _ _ | with_reducible assumption | with_reducible refine Below.setCell ?_ (by first | omega | (simp <;> omega)) _ | with_reducible refine balloc ?_ _ | with_reducible refine Below.drew ?_ | with_reducible refine bstep ?_ (by with_reducible assumption)))) ?_
          rintro e w4 ⟨lu, rfl, hy, hb⟩
          have hcx : Below w3.heap.size w3 w4 := (by repeat (first | with_reducible exact Below.refl _ _ | with_reducible assumption | with_reducible refine Below.setCell ?_ (by first | omega | (simp <;> omega)) _ | with_reducible refine balloc ?_ _ | with_reducible refine Below.drew ?_ | with_reducible refine bstep ?_ (by with_reducible assumption)))
          replace hx := hx.below hcx
          clear hcx
          replace kt0 := cell_later hb kt0
          replace kt1 := cell_later hb kt1
          replace kt2 := cell_later hb kt2
          replace zt : w.heap.size < w4.heap.size := World.block_lt_of_cell? _ _ kt0
          have zt_w4 := zt
          replace hb0 : Below w.heap.size w w4 := (by repeat (first | with_reducible exact Below.refl _ _ | with_reducible assumption | with_reducible refine Below.setCell ?_ (by first | omega | (simp <;> omega)) _ | with_reducible refine balloc ?_ _ | with_reducible refine Below.drew ?_ | with_reducible refine bstep ?_ (by with_reducible assumption)))
          have hs_w4 : w3.heap.size ≤ w4.heap.size := hb.size
          clear hb
          obtain ⟨⟨pa, ca, rfl, _, hca, hpa⟩, hla⟩ := hx
          obtain ⟨⟨pb, cb, rfl, _, hcb, hpb⟩, hlb⟩ := hy
          have HPA := Lib.hid hpa
          have HPB := Lib.hid hpb
          have HB0 := Lib.hid hb0
          clear hpa hpb F1 WA WB hb0 hca hcb
          go_wp2_with fail
          go_loopw [11, 56] (fun v11 i wr => ∃ k : Nat, v11 = (.bool true) ∧ i = (.int .i64 k) ∧ k ≤ B.length ∧ Below w4.heap.size w4 wr) (fun _ i _ => B.length - (intOf i).toNat)
          case atStart => exact ⟨0, rfl, rfl, by omega, Below.refl _ _⟩
          case round =>
            obtain ⟨k, rfl, rfl, hk, hbel⟩ := hrel
            obtain ⟨wo, rfl⟩ : ∃ wo : World, wo = wr := ⟨_, rfl⟩
            have htl : w.heap.size < w4.heap.size := zt_w4
            by_cases hlt : k < B.length
            · obtain ⟨bb, ob, rfl, hrb⟩ := HPB.out (by omega)
              obtain ⟨k0, k1⟩ := hrb.below (hrb.lt (by omega)) hbel k hlt
              have hNI := NI.out k hlt
              obtain ⟨c, hc⟩ : ∃ c, gt B k = c := ⟨_, rfl⟩
              rw [hc] at k0 k1 hNI
              have HNI := Lib.hid hNI
              obtain ⟨c1, c2⟩ := c
              dsimp only at k0 k1
              have y0 : (k : Int) < (B.length : Int) := by omega
              clear hc hNI hrb
              have HL := Lib.hid hbel
              clear hbel
              go_wp2_with fail
              obtain ⟨wy, hwy⟩ : ∃ wy, (wo.alloc (.cells #[(.int .i64 c1), (.int .i64 c2)] 26)) = wy := ⟨_, rfl⟩
              have e0 : wy.cell? ⟨wo.heap.size, 0, none⟩ = some (.int .i64 c1) := by rw [← hwy]; clear hwy; go_simp
              have e1 : wy.cell? ⟨wo.heap.size, 1, none⟩ = some (.int .i64 c2) := by rw [← hwy]; clear hwy; go_simp
              have hoy : wo.heap.size < wy.heap.size := by rw [← hwy]; simp
              have HBY : Hid (Below w4.heap.size w4 wy) := Lib.hid (by rw [← hwy]; exact HL.out.trans (((Below.refl wo.heap.size wo).alloc (Nat.le_refl _) _).mono HL.out.size))
              rw [hwy]
              clear hwy k0 k1
              go_loopw [18, 62] (fun v18 i wr => ∃ j : Nat, v18 = (.bool (cvK A (c1, c2) j)) ∧ i = (.int .i64 j) ∧ j ≤ A.length ∧ Below wy.heap.size wy wr) (fun _ i _ => A.length - (intOf i).toNat)
              case atStart => exact ⟨0, rfl, rfl, by omega, Below.refl _ _⟩
              case round =>
                obtain ⟨j, rfl, rfl, hj, hbel⟩ := hrel
                have g0 := (hbel.cell (p := ⟨wo.heap.size, 0, none⟩) hoy).trans e0
                have g1 := (hbel.cell (p := ⟨wo.heap.size, 1, none⟩) hoy).trans e1
                have hoy2 : wo.heap.size < wr.heap.size := by have := hbel.size; omega
                by_cases hjl : j < A.length
                · obtain ⟨ba, oa, rfl, hra⟩ := HPA.out (by omega)
                  have hrj := (hra.below (hra.lt (by omega)) HBY.out).below (by have := hra.lt (by omega); have := HBY.out.size; omega) hbel
                  obtain ⟨a0, a1⟩ := hrj j hjl
                  have HN := Lib.hid (cvK_succ (w := (c1, c2)) hjl)
                  obtain ⟨d, hd⟩ : ∃ d, gt A j = d := ⟨_, rfl⟩
                  rw [hd] at a0 a1
                  have HD := Lib.hid hd
                  obtain ⟨d1, d2⟩ := d
                  dsimp only at a0 a1
                  have y1 : (j : Int) < (A.length : Int) := by omega
                  have HL2 := Lib.hid hbel
                  clear hd hra hrj hbel
                  obtain ⟨bv, hbv⟩ : ∃ bv, cvK A (c1, c2) j = bv := ⟨_, rfl⟩
                  rw [hbv]
                  have HBV := Lib.hid hbv
                  clear hbv
                  have qq : bv = true ∨ (bv = false ∧ d1 ≤ c1 ∧ c2 ≤ d2) ∨ (bv = false ∧ d1 ≤ c1 ∧ ¬ (c2 ≤ d2)) ∨ (bv = false ∧ ¬ (d1 ≤ c1)) := by cases bv <;> simp <;> omega
                  rcases qq with rfl | ⟨rfl, q1, q2⟩ | ⟨rfl, q1, q2⟩ | ⟨rfl, q1⟩
                  · go_wp2
                    go_roundw
                    case rel => exact ⟨j + 1, by rw [HN.out, HBV.out, HD.out]; simp, by simp, by omega, HL2.out.trans (((Below.refl wr.heap.size wr).alloc (Nat.le_refl _) _).mono HL2.out.size)⟩
                    case measure => simp [intOf]; omega
                  · go_wp2
                    go_roundw
                    case rel => exact ⟨j + 1, by rw [HN.out, HBV.out, HD.out]; dsimp only; rw [show decide (d1 ≤ c1) = true by rw [decide_eq_true_eq]; omega, show decide (c2 ≤ d2) = true by rw [decide_eq_true_eq]; omega]; rfl, by simp, by omega, HL2.out.trans (((Below.refl wr.heap.size wr).alloc (Nat.le_refl _) _).mono HL2.out.size)⟩
                    case measure => simp [intOf]; omega
                  · go_wp2
                    go_roundw
                    case rel => exact ⟨j + 1, by rw [HN.out, HBV.out, HD.out]; dsimp only; rw [show decide (d1 ≤ c1) = true by rw [decide_eq_true_eq]; omega, show decide (c2 ≤ d2) = false by rw [decide_eq_false_iff_not]; omega]; rfl, by simp, by omega, HL2.out.trans (((Below.refl wr.heap.size wr).alloc (Nat.le_refl _) _).mono HL2.out.size)⟩
                    case measure => simp [intOf]; omega
                  · go_wp2
                    go_roundw
                    case rel => exact ⟨j + 1, by rw [HN.out, HBV.out, HD.out]; dsimp only; rw [show decide (d1 ≤ c1) = false by rw [decide_eq_false_iff_not]; omega]; rfl, by simp, by omega, HL2.out.trans (((Below.refl wr.heap.size wr).alloc (Nat.le_refl _) _).mono HL2.out.size)⟩
                    case measure => simp [intOf]; omega
                · obtain rfl : j = A.length := by omega
                  rw [HNI.out]
                  have HL2 := Lib.hid hbel
                  clear hbel g0 g1
                  go_wp2
                  go_roundw
                  case rel => exact ⟨k + 1, rfl, by simp, by omega, HBY.out.trans (HL2.out.mono HBY.out.size)⟩
                  case measure => simp [intOf]; omega
            · obtain rfl : k = B.length := by omega
              have kq0 := (hbel.cell (p := ⟨w.heap.size, 0, none⟩) htl).trans kt0
              have kq1 := (hbel.cell (p := ⟨w.heap.size, 1, none⟩) htl).trans kt1
              have kq2 := (hbel.cell (p := ⟨w.heap.size, 2, none⟩) htl).trans kt2
              have hbo : Below w.heap.size w wo := HB0.out.trans (hbel.mono HB0.out.size)
              have hzo : w.heap.size < wo.heap.size := by have := hbel.size; omega
              clear hbel
              have hq : eb ≠ 0 ∨ (eb = 0 ∧ ea = 0 ∧ xa ≤ xb) := by
                rcases HNL.out with h | ⟨h, h2⟩
                · exact .inl h
                · by_cases h3 : eb = 0
                  · exact .inr ⟨h3, h, h2⟩
                  · exact .inl h3
              rcases hq with hq | ⟨rfl, rfl, hq⟩
              · go_wp2_with fail
                refine Calls.mono (HNA.out _ hbo) ?_
                rintro e w5 ⟨rfl, hb⟩
                have hbo5 : Below w.heap.size w w5 := bstep hbo hb
                have r0 := cell_later hb kq0
                have r1 := cell_later hb kq1
                have r2 := cell_later hb kq2
                clear hb
                go_wp2_with fail
                refine Calls.mono (HNB.out _ hbo5) ?_
                rintro e w6 ⟨rfl, hb⟩
                have hbo6 : Below w.heap.size w w6 := bstep hbo5 hb
                clear hb
                go_wp2
                go_ret
                exact ⟨rfl, (by repeat (first | with_reducible exact Below.refl _ _ | with_reducible assumption | with_reducible refine Below.setCell ?_ (by first | omega | (simp <;> omega)) _ | with_reducible refine balloc ?_ _ | with_reducible refine Below.drew ?_ | with_reducible refine bstep ?_ (by with_reducible assumption)))⟩
              · go_wp2_with fail
                refine Calls.mono (HNA.out _ hbo) ?_
                rintro e w5 ⟨rfl, hb⟩
                have hbo5 : Below w.heap.size w w5 := bstep hbo hb
                have r0 := cell_later hb kq0
                have r1 := cell_later hb kq1
                have r2 := cell_later hb kq2
                clear hb
                go_wp2_with fail
                refine Calls.mono (HNB.out _ hbo5) ?_
                rintro e w6 ⟨rfl, hb⟩
                have hbo6 : Below w.heap.size w w6 := bstep hbo5 hb
                clear hb
                go_wp2
                go_ret
                exact ⟨rfl, (by repeat (first | with_reducible exact Below.refl _ _ | with_reducible assumption | with_reducible refine Below.setCell ?_ (by first | omega | (simp <;> omega)) _ | with_reducible refine balloc ?_ _ | with_reducible refine Below.drew ?_ | with_reducible refine bstep ?_ (by with_reducible assumption)))⟩
    · clear WA WB NA NB
      go_enter Try.func10, Try.ntmps10
      go_wp2_with fail
      refine Calls.mono (head_c _) ?_
      rintro e w1 ⟨rfl, hb⟩
      have kt0 : w1.cell? ⟨w.heap.size, 0, none⟩ = some (.int .i64 s) := cell_later hb (by go_simp)
      have kt1 : w1.cell? ⟨w.heap.size, 1, none⟩ = some (.int .i64 p) := cell_later hb (by go_simp)
      have kt2 : w1.cell? ⟨w.heap.size, 2, none⟩ = some (.slice pp l.length cap) := cell_later hb (by go_simp)
      have zt : w.heap.size < w1.heap.size := World.block_lt_of_cell? _ _ kt0
      have zt_w1 := zt
      have hb0 : Below w.heap.size w w1 := (by repeat (first | with_reducible exact Below.refl _ _ | with_reducible assumption | with_reducible refine Below.setCell ?_ (by first | omega | (simp <;> omega)) _ | with_reducible refine balloc ?_ _ | with_reducible refine Below.drew ?_ | with_reducible refine bstep ?_ (by with_reducible assumption)))
      have hs_w1 := hb.size; (try simp only [World.size_alloc, World.size_setCell] at hs_w1)
      clear hb
      go_wp2_with fail
      refine Calls.mono (F1 _ (by repeat (first | with_reducible exact Below.refl _ _ | with_reducible assumption | with_reducible refine Below.setCell ?_ (by first | omega | (simp <;> omega)) _ | with_reducible refine balloc ?_ _ | with_reducible refine Below.drew ?_ | with_reducible refine bstep ?_ (by with_reducible assumption)))) ?_
      rintro e w2 ⟨rfl, hb⟩
      replace kt0 := cell_later hb kt0
      replace kt1 := cell_later hb kt1
      replace kt2 := cell_later hb kt2
      replace zt : w.heap.size < w2.heap.size := World.block_lt_of_cell? _ _ kt0
      have zt_w2 := zt
      replace hb0 : Below w.heap.size w w2 := (by repeat (first | with_reducible exact Below.refl _ _ | with_reducible assumption | with_reducible refine Below.setCell ?_ (by first | omega | (simp <;> omega)) _ | with_reducible refine balloc ?_ _ | with_reducible refine Below.drew ?_ | with_reducible refine bstep ?_ (by with_reducible assumption)))
      have hs_w2 : w1.heap.size ≤ w2.heap.size := hb.size
      clear hb
      go_wp2
      go_ret
      exact ⟨rfl, (by repeat (first | with_reducible exact Below.refl _ _ | with_reducible assumption | with_reducible refine Below.setCell ?_ (by first | omega | (simp <;> omega)) _ | with_reducible refine balloc ?_ _ | with_reducible refine Below.drew ?_ | with_reducible refine bstep ?_ (by with_reducible assumption)))⟩


end Go.Proofs.Ytemogomligbgiaa.Ti

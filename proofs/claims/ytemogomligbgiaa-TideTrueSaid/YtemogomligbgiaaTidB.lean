/- TidB: allInRange, Valid, join, meet, plus. -/
import Derived.Test.YtemogomligbgiaaTidA
import Derived.Test.YtemogomligbgiaaRows
import Derived.WalkKit
import Derived.WalkSpells
import Derived.WalkLawsBesides
import Derived.Lib.Hide
import Derived.Deep.QuietTactic
import Derived.BigQuiet
import Derived.RegionTactic
import Derived.ChangeAlike
import Derived.BigRegion
import Derived.Deep.RegionHeld3
import Derived.Deep.RegionWith
import Derived.Outline
import Derived.IntWalk
import Derived.Deep.DeepCutAuto
import Derived.LoopTactic
namespace Go.Proofs.Ytemogomligbgiaa.Ti
open Go.RowKit Sp
set_option linter.unusedSimpArgs false
set_option linter.unusedVariables false

set_option maxRecDepth 20000 in
set_option maxHeartbeats 1600000 in
theorem allInRange_c (s p : Int) (b off cap : Nat) (l : List Pr) (w : World) (h200 : l.length ≤ 200) (h0l : 0 < l.length) (hr : Row w b off l) : Calls Try.prog 41 #[.agg #[(.int .i64 s), (.int .i64 p), .slice (some ⟨b, off, none⟩) l.length cap]] w (Ret w (.bool (l.all okH))) := by
  have hbl := hr.lt h0l
  go_enter Try.func41, Try.ntmps41
  go_wp2_with fail
  obtain ⟨W0, hW0⟩ : ∃ W0, (w.alloc (.cells #[(.int .i64 s), (.int .i64 p), (.slice (some ⟨b, off, none⟩) l.length cap)] 59)) = W0 := ⟨_, rfl⟩
  have kt0 : W0.cell? ⟨w.heap.size, 0, none⟩ = some (.int .i64 s) := by rw [← hW0]; clear hW0; go_simp
  have kt1 : W0.cell? ⟨w.heap.size, 1, none⟩ = some (.int .i64 p) := by rw [← hW0]; clear hW0; go_simp
  have kt2 : W0.cell? ⟨w.heap.size, 2, none⟩ = some (.slice (some ⟨b, off, none⟩) l.length cap) := by rw [← hW0]; clear hW0; go_simp
  have hB0 : Below w.heap.size w W0 := by rw [← hW0]; clear hW0; exact (by repeat (first | with_reducible exact Below.refl _ _ | with_reducible assumption | with_reducible refine Below.setCell ?_ (by first | omega | (simp <;> omega)) _ | with_reducible refine balloc ?_ _ | with_reducible refine Below.drew ?_ | with_reducible refine bstep ?_ (by with_reducible assumption)))
  have hsz : W0.heap.size = w.heap.size + 1 := by rw [← hW0]; simp
  rw [hW0]
  clear hW0
  have HR := Lib.hid (hr.below hbl hB0)
  have HB := Lib.hid hB0
  have HS := Lib.hid hsz
  have hbl2 : b < W0.heap.size := by omega
  have htl : w.heap.size < W0.heap.size := by omega
  clear hr hB0 hsz
  go_loopw [7] (fun i wr => ∃ k : Nat, i = (.int .i64 k) ∧ k ≤ l.length ∧ Hid (∀ i, i < k → okH (gt l i) = true) ∧ Below W0.heap.size W0 wr) (fun i _ => l.length - (intOf i).toNat)
  case atStart => exact ⟨0, rfl, by omega, Lib.hid (fun i hi => by omega), Below.refl _ _⟩
  case round =>
    obtain ⟨k, rfl, hk, HA, hbel⟩ := hrel
    have hbw : Below w.heap.size w wr := HB.out.trans (hbel.mono (by have := HS.out; omega))
    by_cases hlt : k < l.length
    · have hrr := HR.out.below hbl2 hbel
      have q0 := (hbel.cell (p := ⟨w.heap.size, 0, none⟩) htl).trans kt0
      have q1 := (hbel.cell (p := ⟨w.heap.size, 1, none⟩) htl).trans kt1
      have q2 := (hbel.cell (p := ⟨w.heap.size, 2, none⟩) htl).trans kt2
      have HL := Lib.hid hbel
      clear hbel
      go_wp2_with fail
      refine Calls.mono (row_c s p k b off cap l _ hlt h200 hrr) ?_
      rintro e w1 ⟨rfl, hb1⟩
      generalize hg : gt l k = g
      obtain ⟨g1, g2⟩ := g
      have HG := Lib.hid hg
      clear hg hrr q0 q1 q2
      dsimp only
      go_wp2_with fail
      refine Calls.mono (inRange_c g1 g2 _) ?_
      rintro e w2 ⟨rfl, hb2⟩
      have hb3 : Below wr.heap.size wr w2 := (by repeat (first | with_reducible exact Below.refl _ _ | with_reducible assumption | with_reducible refine Below.setCell ?_ (by first | omega | (simp <;> omega)) _ | with_reducible refine balloc ?_ _ | with_reducible refine Below.drew ?_ | with_reducible refine bstep ?_ (by with_reducible assumption)))
      have HL2 := Lib.hid (HL.out.trans (hb3.mono HL.out.size))
      have hbw2 := hbw.trans (hb3.mono hbw.size)
      clear hb1 hb2 hb3 hbw
      cases hv : okH (g1, g2)
      · go_wp2
        go_ret
        refine ret_bv ?_ hbw2
        cases ha : l.all okH
        · rfl
        · have := all_gt ha hlt
          rw [HG.out, hv] at this
          cases this
      · go_wp2
        go_roundw
        case rel => exact ⟨k + 1, by go_num, by omega, Lib.hid (fun i hi => by
          rcases Nat.lt_or_ge i k with h | h
          · exact HA.out i h
          · obtain rfl : i = k := by omega
            rw [HG.out]; exact hv), HL2.out⟩
        case measure => simp [intOf]; omega
    · obtain rfl : k = l.length := by omega
      go_wp2
      go_ret
      exact ret_bv (all_of_gt HA.out).symm hbw

set_option maxRecDepth 20000 in
set_option maxHeartbeats 3200000 in
theorem valid_c (s p : Int) (v : Value) (l : List Pr) (w : World) (hv : Spans w v l) : Calls Try.prog 14 #[.agg #[(.int .i64 s), (.int .i64 p), v]] w (Ret w (.bool (vaT s p l))) := by
  obtain ⟨⟨pp, cap, rfl, hn, hc, hp⟩, hl⟩ := hv
  have hpp := Lib.hid hp
  clear hp hn hc
  cases h1 : tmB s
  · rw [show vaT s p l = false by unfold vaT laT; rw [h1]; simp]
    go_enter Try.func14, Try.ntmps14
    go_wp2_with fail
    refine Calls.mono (isTime_c s _) ?_
    rintro e wx ⟨rfl, rfl⟩
    rw [h1]
    go_wp2
    go_ret
    exact ⟨rfl, (by repeat (first | with_reducible exact Below.refl _ _ | with_reducible assumption | with_reducible refine Below.setCell ?_ (by first | omega | (simp <;> omega)) _ | with_reducible refine balloc ?_ _ | with_reducible refine Below.drew ?_ | with_reducible refine bstep ?_ (by with_reducible assumption)))⟩
  · cases h2 : btB p 1 1000
    · rw [show vaT s p l = false by unfold vaT laT; rw [h1, h2]; simp]
      go_enter Try.func14, Try.ntmps14
      go_wp2_with fail
      refine Calls.mono (isTime_c s _) ?_
      rintro e wx ⟨rfl, rfl⟩
      rw [h1]
      go_wp2_with fail
      refine Calls.mono (bt_c p 1 1000 _) ?_
      rintro e wx ⟨rfl, rfl⟩
      rw [h2]
      go_wp2
      go_ret
      exact ⟨rfl, (by repeat (first | with_reducible exact Below.refl _ _ | with_reducible assumption | with_reducible refine Below.setCell ?_ (by first | omega | (simp <;> omega)) _ | with_reducible refine balloc ?_ _ | with_reducible refine Below.drew ?_ | with_reducible refine bstep ?_ (by with_reducible assumption)))⟩
    · cases h3 : btB l.length 1 200
      · rw [show vaT s p l = false by unfold vaT laT; rw [h1, h2, h3]; simp]
        go_enter Try.func14, Try.ntmps14
        go_wp2_with fail
        refine Calls.mono (isTime_c s _) ?_
        rintro e wx ⟨rfl, rfl⟩
        rw [h1]
        go_wp2_with fail
        refine Calls.mono (bt_c p 1 1000 _) ?_
        rintro e wx ⟨rfl, rfl⟩
        rw [h2]
        go_wp2_with fail
        refine Calls.mono (bt_c l.length 1 200 _) ?_
        rintro e wx ⟨rfl, rfl⟩
        rw [h3]
        go_wp2
        go_ret
        exact ⟨rfl, (by repeat (first | with_reducible exact Below.refl _ _ | with_reducible assumption | with_reducible refine Below.setCell ?_ (by first | omega | (simp <;> omega)) _ | with_reducible refine balloc ?_ _ | with_reducible refine Below.drew ?_ | with_reducible refine bstep ?_ (by with_reducible assumption)))⟩
      · cases h4 : tmB (s + ((l.length : Int) - 1) * p)
        · obtain ⟨a1, a2⟩ := btB_iff.1 h2
          obtain ⟨a3, a4⟩ := btB_iff.1 h3
          obtain ⟨a5, a6⟩ := btB_iff.1 h1
          rw [show vaT s p l = false by unfold vaT laT; rw [h1, h2, h3, h4]; simp]
          have fld : ∀ w x y, Sem.run Try.prog (Instr.field 26 (.agg #[(.int .i64 x), (.int .i64 y)]) 1) w = .ok (.int .i64 y) w := fun _ _ _ => by kernel_rfl
          go_enter Try.func14, Try.ntmps14
          go_wp2_with fail
          refine Calls.mono (isTime_c s _) ?_
          rintro e wx ⟨rfl, rfl⟩
          rw [h1]
          go_wp2_with fail
          refine Calls.mono (bt_c p 1 1000 _) ?_
          rintro e wx ⟨rfl, rfl⟩
          rw [h2]
          go_wp2_with fail
          refine Calls.mono (bt_c l.length 1 200 _) ?_
          rintro e wx ⟨rfl, rfl⟩
          rw [h3]
          go_wp2_with fail
          refine Calls.mono (times_c s p pp l.length cap _ (by omega) (by omega) (by omega)) ?_
          rintro e w1 ⟨rfl, hb⟩
          have kt0 : w1.cell? ⟨w.heap.size, 0, none⟩ = some (.int .i64 s) := cell_later hb (by go_simp)
          have kt1 : w1.cell? ⟨w.heap.size, 1, none⟩ = some (.int .i64 p) := cell_later hb (by go_simp)
          have kt2 : w1.cell? ⟨w.heap.size, 2, none⟩ = some (.slice pp l.length cap) := cell_later hb (by go_simp)
          have zt : w.heap.size < w1.heap.size := World.block_lt_of_cell? _ _ kt0
          have zt_w1 := zt
          have hb0 : Below w.heap.size w w1 := (by repeat (first | with_reducible exact Below.refl _ _ | with_reducible assumption | with_reducible refine Below.setCell ?_ (by first | omega | (simp <;> omega)) _ | with_reducible refine balloc ?_ _ | with_reducible refine Below.drew ?_ | with_reducible refine bstep ?_ (by with_reducible assumption)))
          have hs_w1 := hb.size; (try simp only [World.size_alloc, World.size_setCell] at hs_w1)
          clear hb
          go_wp2_with fail
          refine Calls.mono (isTime_c _ _) ?_
          rintro e wx ⟨rfl, rfl⟩
          rw [h4]
          go_wp2
          go_ret
          exact ⟨rfl, (by repeat (first | with_reducible exact Below.refl _ _ | with_reducible assumption | with_reducible refine Below.setCell ?_ (by first | omega | (simp <;> omega)) _ | with_reducible refine balloc ?_ _ | with_reducible refine Below.drew ?_ | with_reducible refine bstep ?_ (by with_reducible assumption)))⟩
        · obtain ⟨a1, a2⟩ := btB_iff.1 h2
          obtain ⟨a3, a4⟩ := btB_iff.1 h3
          obtain ⟨a5, a6⟩ := btB_iff.1 h1
          obtain ⟨bb, off, rfl, hr⟩ := hpp.out (by omega)
          have hbl := hr.lt (by omega)
          rw [show vaT s p l = l.all okH by unfold vaT laT; rw [h1, h2, h3, h4]; simp]
          have fld : ∀ w x y, Sem.run Try.prog (Instr.field 26 (.agg #[(.int .i64 x), (.int .i64 y)]) 1) w = .ok (.int .i64 y) w := fun _ _ _ => by kernel_rfl
          go_enter Try.func14, Try.ntmps14
          go_wp2_with fail
          refine Calls.mono (isTime_c s _) ?_
          rintro e wx ⟨rfl, rfl⟩
          rw [h1]
          go_wp2_with fail
          refine Calls.mono (bt_c p 1 1000 _) ?_
          rintro e wx ⟨rfl, rfl⟩
          rw [h2]
          go_wp2_with fail
          refine Calls.mono (bt_c l.length 1 200 _) ?_
          rintro e wx ⟨rfl, rfl⟩
          rw [h3]
          go_wp2_with fail
          refine Calls.mono (times_c s p _ l.length cap _ (by omega) (by omega) (by omega)) ?_
          rintro e w1 ⟨rfl, hb⟩
          have kt0 : w1.cell? ⟨w.heap.size, 0, none⟩ = some (.int .i64 s) := cell_later hb (by go_simp)
          have kt1 : w1.cell? ⟨w.heap.size, 1, none⟩ = some (.int .i64 p) := cell_later hb (by go_simp)
          have kt2 : w1.cell? ⟨w.heap.size, 2, none⟩ = some (.slice (some ⟨bb, off, none⟩) l.length cap) := cell_later hb (by go_simp)
          have zt : w.heap.size < w1.heap.size := World.block_lt_of_cell? _ _ kt0
          have zt_w1 := zt
          have hb0 : Below w.heap.size w w1 := (by repeat (first | with_reducible exact Below.refl _ _ | with_reducible assumption | with_reducible refine Below.setCell ?_ (by first | omega | (simp <;> omega)) _ | with_reducible refine balloc ?_ _ | with_reducible refine Below.drew ?_ | with_reducible refine bstep ?_ (by with_reducible assumption)))
          have hs_w1 := hb.size; (try simp only [World.size_alloc, World.size_setCell] at hs_w1)
          clear hb
          go_wp2_with fail
          refine Calls.mono (isTime_c _ _) ?_
          rintro e wx ⟨rfl, rfl⟩
          rw [h4]
          go_wp2_with fail
          refine Calls.mono (allInRange_c s p bb off cap l _ (by omega) (by omega) (hr.below hbl hb0)) ?_
          rintro e w2 ⟨rfl, hb⟩
          replace kt0 := cell_later hb kt0
          replace kt1 := cell_later hb kt1
          replace kt2 := cell_later hb kt2
          replace zt : w.heap.size < w2.heap.size := World.block_lt_of_cell? _ _ kt0
          have zt_w2 := zt
          replace hb0 : Below w.heap.size w w2 := (by repeat (first | with_reducible exact Below.refl _ _ | with_reducible assumption | with_reducible refine Below.setCell ?_ (by first | omega | (simp <;> omega)) _ | with_reducible refine balloc ?_ _ | with_reducible refine Below.drew ?_ | with_reducible refine bstep ?_ (by with_reducible assumption)))
          have hs_w2 : w1.heap.size ≤ w2.heap.size := hb.size
          clear hb
          go_wp2
          go_ret
          exact ⟨rfl, (by repeat (first | with_reducible exact Below.refl _ _ | with_reducible assumption | with_reducible refine Below.setCell ?_ (by first | omega | (simp <;> omega)) _ | with_reducible refine balloc ?_ _ | with_reducible refine Below.drew ?_ | with_reducible refine bstep ?_ (by with_reducible assumption)))⟩

set_option maxHeartbeats 800000 in
theorem join_c (a1 a2 b1 b2 : Int) (w : World) (ha : okH (a1, a2) = true) (hb' : okH (b1, b2) = true) : Calls Try.prog 52 #[.agg #[(.int .i64 a1), (.int .i64 a2)], .agg #[(.int .i64 b1), (.int .i64 b2)]] w (Ret w (.tuple #[.agg #[(.int .i64 (min a1 b1)), (.int .i64 (max a2 b2))], (.int .i64 0)])) := by
  have ea : vE 1000000000000 a1 a2 = true := by rw [vE_iff]; have := okH_iff.1 ha; simp only at this; omega
  have eb : vE 1000000000000 b1 b2 = true := by rw [vE_iff]; have := okH_iff.1 hb'; simp only at this; omega
  have J : ∀ w, Calls Try.prog 29 #[.agg #[(.int .i64 a1), (.int .i64 a2)], .agg #[(.int .i64 b1), (.int .i64 b2)]] w (Ret w (.tuple #[.agg #[(.int .i64 (min a1 b1)), (.int .i64 (max a2 b2))], (.int .i64 0)])) := fun w => by have := Join_c a1 a2 b1 b2 w; simpa [vJoin, ea, eb, selI, erv] using this
  clear ha hb' ea eb
  go_enter Try.func52, Try.ntmps52
  go_wp2_with fail
  refine Calls.mono (J _) ?_
  rintro e w1 ⟨rfl, hb⟩
  have ka0 : w1.cell? ⟨w.heap.size, 0, none⟩ = some (.int .i64 a1) := cell_later hb (by go_simp)
  have ka1 : w1.cell? ⟨w.heap.size, 1, none⟩ = some (.int .i64 a2) := cell_later hb (by go_simp)
  have kb0 : w1.cell? ⟨w.heap.size + 1, 0, none⟩ = some (.int .i64 b1) := cell_later hb (by go_simp)
  have kb1 : w1.cell? ⟨w.heap.size + 1, 1, none⟩ = some (.int .i64 b2) := cell_later hb (by go_simp)
  have kr0 : w1.cell? ⟨w.heap.size + 1 + 1, 0, none⟩ = some (.int .i64 0) := cell_later hb (by go_simp)
  have jr0 : w1.frozen? ⟨w.heap.size + 1 + 1, 0, none⟩ = false := by rw [(bcell hb).2 _ _ (by first | omega | (simp <;> omega))]; go_simp
  have kr1 : w1.cell? ⟨w.heap.size + 1 + 1, 1, none⟩ = some (.int .i64 0) := cell_later hb (by go_simp)
  have jr1 : w1.frozen? ⟨w.heap.size + 1 + 1, 1, none⟩ = false := by rw [(bcell hb).2 _ _ (by first | omega | (simp <;> omega))]; go_simp
  have za : w.heap.size < w1.heap.size := World.block_lt_of_cell? _ _ ka0
  have zb : w.heap.size + 1 < w1.heap.size := World.block_lt_of_cell? _ _ kb0
  have zr : w.heap.size + 1 + 1 < w1.heap.size := World.block_lt_of_cell? _ _ kr0
  have hb0 : Below w.heap.size w w1 := (by repeat (first | with_reducible exact Below.refl _ _ | with_reducible assumption | with_reducible refine Below.setCell ?_ (by first | omega | (simp <;> omega)) _ | with_reducible refine balloc ?_ _ | with_reducible refine Below.drew ?_ | with_reducible refine bstep ?_ (by with_reducible assumption)))
  clear hb
  go_wp2
  refine bodyPost_ret ?_ rfl ⟨rfl, (by repeat (first | with_reducible exact Below.refl _ _ | with_reducible assumption | with_reducible refine Below.setCell ?_ (by first | omega | (simp <;> omega)) _ | with_reducible refine balloc ?_ _ | with_reducible refine Below.drew ?_ | with_reducible refine bstep ?_ (by with_reducible assumption)))⟩
  simp [results, Try.results52, go_sem, kr0, kr1, zr]

set_option maxHeartbeats 800000 in
theorem meet_c (a1 a2 b1 b2 : Int) (w : World) (ha : okH (a1, a2) = true) (hb' : okH (b1, b2) = true) : Calls Try.prog 49 #[.agg #[(.int .i64 a1), (.int .i64 a2)], .agg #[(.int .i64 b1), (.int .i64 b2)]] w (Ret w (.tuple #[.agg #[(.int .i64 (selI (rM a1 a2 b1 b2) (max a1 b1))), (.int .i64 (selI (rM a1 a2 b1 b2) (min a2 b2)))], (.int .i64 (erv true (rM a1 a2 b1 b2) 18))])) := by
  have ea : vE 1000000000000 a1 a2 = true := by rw [vE_iff]; have := okH_iff.1 ha; simp only at this; omega
  have eb : vE 1000000000000 b1 b2 = true := by rw [vE_iff]; have := okH_iff.1 hb'; simp only at this; omega
  cases h : rM a1 a2 b1 b2
  · have J : ∀ w, Calls Try.prog 66 #[.agg #[(.int .i64 a1), (.int .i64 a2)], .agg #[(.int .i64 b1), (.int .i64 b2)]] w (Ret w (.tuple #[.agg #[(.int .i64 0), (.int .i64 0)], (.int .i64 4)])) := fun w => by have := Meet_c a1 a2 b1 b2 w; simpa [vMeet, rMeet, ea, eb, h, selI, erv] using this
    clear ha hb' ea eb
    go_enter Try.func49, Try.ntmps49
    go_wp2_with fail
    refine Calls.mono (J _) ?_
    rintro e w1 ⟨rfl, hb⟩
    have ka0 : w1.cell? ⟨w.heap.size, 0, none⟩ = some (.int .i64 a1) := cell_later hb (by go_simp)
    have ka1 : w1.cell? ⟨w.heap.size, 1, none⟩ = some (.int .i64 a2) := cell_later hb (by go_simp)
    have kb0 : w1.cell? ⟨w.heap.size + 1, 0, none⟩ = some (.int .i64 b1) := cell_later hb (by go_simp)
    have kb1 : w1.cell? ⟨w.heap.size + 1, 1, none⟩ = some (.int .i64 b2) := cell_later hb (by go_simp)
    have kr0 : w1.cell? ⟨w.heap.size + 1 + 1, 0, none⟩ = some (.int .i64 0) := cell_later hb (by go_simp)
    have jr0 : w1.frozen? ⟨w.heap.size + 1 + 1, 0, none⟩ = false := by rw [(bcell hb).2 _ _ (by first | omega | (simp <;> omega))]; go_simp
    have kr1 : w1.cell? ⟨w.heap.size + 1 + 1, 1, none⟩ = some (.int .i64 0) := cell_later hb (by go_simp)
    have jr1 : w1.frozen? ⟨w.heap.size + 1 + 1, 1, none⟩ = false := by rw [(bcell hb).2 _ _ (by first | omega | (simp <;> omega))]; go_simp
    have za : w.heap.size < w1.heap.size := World.block_lt_of_cell? _ _ ka0
    have zb : w.heap.size + 1 < w1.heap.size := World.block_lt_of_cell? _ _ kb0
    have zr : w.heap.size + 1 + 1 < w1.heap.size := World.block_lt_of_cell? _ _ kr0
    have hb0 : Below w.heap.size w w1 := (by repeat (first | with_reducible exact Below.refl _ _ | with_reducible assumption | with_reducible refine Below.setCell ?_ (by first | omega | (simp <;> omega)) _ | with_reducible refine balloc ?_ _ | with_reducible refine Below.drew ?_ | with_reducible refine bstep ?_ (by with_reducible assumption)))
    clear hb
    go_wp2
    refine bodyPost_ret ?_ rfl ⟨rfl, (by repeat (first | with_reducible exact Below.refl _ _ | with_reducible assumption | with_reducible refine Below.setCell ?_ (by first | omega | (simp <;> omega)) _ | with_reducible refine balloc ?_ _ | with_reducible refine Below.drew ?_ | with_reducible refine bstep ?_ (by with_reducible assumption)))⟩
    simp [results, Try.results49, go_sem, kr0, kr1, zr, selI, erv]
  · have J : ∀ w, Calls Try.prog 66 #[.agg #[(.int .i64 a1), (.int .i64 a2)], .agg #[(.int .i64 b1), (.int .i64 b2)]] w (Ret w (.tuple #[.agg #[(.int .i64 (max a1 b1)), (.int .i64 (min a2 b2))], (.int .i64 0)])) := fun w => by have := Meet_c a1 a2 b1 b2 w; simpa [vMeet, rMeet, ea, eb, h, selI, erv] using this
    clear ha hb' ea eb
    go_enter Try.func49, Try.ntmps49
    go_wp2_with fail
    refine Calls.mono (J _) ?_
    rintro e w1 ⟨rfl, hb⟩
    have ka0 : w1.cell? ⟨w.heap.size, 0, none⟩ = some (.int .i64 a1) := cell_later hb (by go_simp)
    have ka1 : w1.cell? ⟨w.heap.size, 1, none⟩ = some (.int .i64 a2) := cell_later hb (by go_simp)
    have kb0 : w1.cell? ⟨w.heap.size + 1, 0, none⟩ = some (.int .i64 b1) := cell_later hb (by go_simp)
    have kb1 : w1.cell? ⟨w.heap.size + 1, 1, none⟩ = some (.int .i64 b2) := cell_later hb (by go_simp)
    have kr0 : w1.cell? ⟨w.heap.size + 1 + 1, 0, none⟩ = some (.int .i64 0) := cell_later hb (by go_simp)
    have jr0 : w1.frozen? ⟨w.heap.size + 1 + 1, 0, none⟩ = false := by rw [(bcell hb).2 _ _ (by first | omega | (simp <;> omega))]; go_simp
    have kr1 : w1.cell? ⟨w.heap.size + 1 + 1, 1, none⟩ = some (.int .i64 0) := cell_later hb (by go_simp)
    have jr1 : w1.frozen? ⟨w.heap.size + 1 + 1, 1, none⟩ = false := by rw [(bcell hb).2 _ _ (by first | omega | (simp <;> omega))]; go_simp
    have za : w.heap.size < w1.heap.size := World.block_lt_of_cell? _ _ ka0
    have zb : w.heap.size + 1 < w1.heap.size := World.block_lt_of_cell? _ _ kb0
    have zr : w.heap.size + 1 + 1 < w1.heap.size := World.block_lt_of_cell? _ _ kr0
    have hb0 : Below w.heap.size w w1 := (by repeat (first | with_reducible exact Below.refl _ _ | with_reducible assumption | with_reducible refine Below.setCell ?_ (by first | omega | (simp <;> omega)) _ | with_reducible refine balloc ?_ _ | with_reducible refine Below.drew ?_ | with_reducible refine bstep ?_ (by with_reducible assumption)))
    clear hb
    go_wp2
    refine bodyPost_ret ?_ rfl ⟨rfl, (by repeat (first | with_reducible exact Below.refl _ _ | with_reducible assumption | with_reducible refine Below.setCell ?_ (by first | omega | (simp <;> omega)) _ | with_reducible refine balloc ?_ _ | with_reducible refine Below.drew ?_ | with_reducible refine bstep ?_ (by with_reducible assumption)))⟩
    simp [results, Try.results49, go_sem, kr0, kr1, zr, selI, erv]

set_option maxHeartbeats 1600000 in
theorem plus_c (a1 a2 b1 b2 : Int) (w : World) (ha : okH (a1, a2) = true) (eb : vE 1000000000000 b1 b2 = true) : Calls Try.prog 56 #[.agg #[(.int .i64 a1), (.int .i64 a2)], .agg #[(.int .i64 b1), (.int .i64 b2)]] w (Ret w (.tuple #[.agg #[(.int .i64 (selI (okH (a1 + b1, a2 + b2)) (a1 + b1))), (.int .i64 (selI (okH (a1 + b1, a2 + b2)) (a2 + b2)))], (.int .i64 (erv true (okH (a1 + b1, a2 + b2)) 3))])) := by
  have ea : vE 1000000000000 a1 a2 = true := by rw [vE_iff]; have := okH_iff.1 ha; simp only at this; omega
  cases h : okH (a1 + b1, a2 + b2)
  · cases es : vE 1000000000000 (a1 + b1) (a2 + b2)
    · have J : ∀ w, Calls Try.prog 35 #[.agg #[(.int .i64 a1), (.int .i64 a2)], .agg #[(.int .i64 b1), (.int .i64 b2)]] w (Ret w (.tuple #[.agg #[(.int .i64 0), (.int .i64 0)], (.int .i64 3)])) := fun w => by have := Add_c a1 a2 b1 b2 w; simpa [vAdd, rAdd, ea, eb, es, selI, erv] using this
      clear ha eb ea es
      go_enter Try.func56, Try.ntmps56
      go_wp2_with fail
      refine Calls.mono (J _) ?_
      rintro e w1 ⟨rfl, hb⟩
      have ka0 : w1.cell? ⟨w.heap.size, 0, none⟩ = some (.int .i64 a1) := cell_later hb (by go_simp)
      have ka1 : w1.cell? ⟨w.heap.size, 1, none⟩ = some (.int .i64 a2) := cell_later hb (by go_simp)
      have kb0 : w1.cell? ⟨w.heap.size + 1, 0, none⟩ = some (.int .i64 b1) := cell_later hb (by go_simp)
      have kb1 : w1.cell? ⟨w.heap.size + 1, 1, none⟩ = some (.int .i64 b2) := cell_later hb (by go_simp)
      have kr0 : w1.cell? ⟨w.heap.size + 1 + 1, 0, none⟩ = some (.int .i64 0) := cell_later hb (by go_simp)
      have jr0 : w1.frozen? ⟨w.heap.size + 1 + 1, 0, none⟩ = false := by rw [(bcell hb).2 _ _ (by first | omega | (simp <;> omega))]; go_simp
      have kr1 : w1.cell? ⟨w.heap.size + 1 + 1, 1, none⟩ = some (.int .i64 0) := cell_later hb (by go_simp)
      have jr1 : w1.frozen? ⟨w.heap.size + 1 + 1, 1, none⟩ = false := by rw [(bcell hb).2 _ _ (by first | omega | (simp <;> omega))]; go_simp
      have za : w.heap.size < w1.heap.size := World.block_lt_of_cell? _ _ ka0
      have zb : w.heap.size + 1 < w1.heap.size := World.block_lt_of_cell? _ _ kb0
      have zr : w.heap.size + 1 + 1 < w1.heap.size := World.block_lt_of_cell? _ _ kr0
      have hb0 : Below w.heap.size w w1 := (by repeat (first | with_reducible exact Below.refl _ _ | with_reducible assumption | with_reducible refine Below.setCell ?_ (by first | omega | (simp <;> omega)) _ | with_reducible refine balloc ?_ _ | with_reducible refine Below.drew ?_ | with_reducible refine bstep ?_ (by with_reducible assumption)))
      clear hb
      go_wp2
      refine bodyPost_ret ?_ rfl ⟨rfl, (by repeat (first | with_reducible exact Below.refl _ _ | with_reducible assumption | with_reducible refine Below.setCell ?_ (by first | omega | (simp <;> omega)) _ | with_reducible refine balloc ?_ _ | with_reducible refine Below.drew ?_ | with_reducible refine bstep ?_ (by with_reducible assumption)))⟩
      simp [results, Try.results56, go_sem, kr0, kr1, zr, selI, erv]
    · have J : ∀ w, Calls Try.prog 35 #[.agg #[(.int .i64 a1), (.int .i64 a2)], .agg #[(.int .i64 b1), (.int .i64 b2)]] w (Ret w (.tuple #[.agg #[(.int .i64 (a1 + b1)), (.int .i64 (a2 + b2))], (.int .i64 0)])) := fun w => by have := Add_c a1 a2 b1 b2 w; simpa [vAdd, rAdd, ea, eb, es, selI, erv] using this
      clear ha eb ea es
      go_enter Try.func56, Try.ntmps56
      go_wp2_with fail
      refine Calls.mono (J _) ?_
      rintro e w1 ⟨rfl, hb⟩
      have ka0 : w1.cell? ⟨w.heap.size, 0, none⟩ = some (.int .i64 a1) := cell_later hb (by go_simp)
      have ka1 : w1.cell? ⟨w.heap.size, 1, none⟩ = some (.int .i64 a2) := cell_later hb (by go_simp)
      have kb0 : w1.cell? ⟨w.heap.size + 1, 0, none⟩ = some (.int .i64 b1) := cell_later hb (by go_simp)
      have kb1 : w1.cell? ⟨w.heap.size + 1, 1, none⟩ = some (.int .i64 b2) := cell_later hb (by go_simp)
      have kr0 : w1.cell? ⟨w.heap.size + 1 + 1, 0, none⟩ = some (.int .i64 0) := cell_later hb (by go_simp)
      have jr0 : w1.frozen? ⟨w.heap.size + 1 + 1, 0, none⟩ = false := by rw [(bcell hb).2 _ _ (by first | omega | (simp <;> omega))]; go_simp
      have kr1 : w1.cell? ⟨w.heap.size + 1 + 1, 1, none⟩ = some (.int .i64 0) := cell_later hb (by go_simp)
      have jr1 : w1.frozen? ⟨w.heap.size + 1 + 1, 1, none⟩ = false := by rw [(bcell hb).2 _ _ (by first | omega | (simp <;> omega))]; go_simp
      have za : w.heap.size < w1.heap.size := World.block_lt_of_cell? _ _ ka0
      have zb : w.heap.size + 1 < w1.heap.size := World.block_lt_of_cell? _ _ kb0
      have zr : w.heap.size + 1 + 1 < w1.heap.size := World.block_lt_of_cell? _ _ kr0
      have hb0 : Below w.heap.size w w1 := (by repeat (first | with_reducible exact Below.refl _ _ | with_reducible assumption | with_reducible refine Below.setCell ?_ (by first | omega | (simp <;> omega)) _ | with_reducible refine balloc ?_ _ | with_reducible refine Below.drew ?_ | with_reducible refine bstep ?_ (by with_reducible assumption)))
      clear hb
      go_wp2_with fail
      refine Calls.mono (inRange_c (a1 + b1) (a2 + b2) _) ?_
      rintro e w2 ⟨rfl, hb⟩
      replace ka0 := cell_later hb (cell_al _ ka0)
      replace ka1 := cell_later hb (cell_al _ ka1)
      replace kb0 := cell_later hb (cell_al _ kb0)
      replace kb1 := cell_later hb (cell_al _ kb1)
      replace jr0 := fro_later hb (cell_al _ kr0) (fro_al jr0)
      replace kr0 := cell_later hb (cell_al _ kr0)
      replace jr1 := fro_later hb (cell_al _ kr1) (fro_al jr1)
      replace kr1 := cell_later hb (cell_al _ kr1)
      have ks0 : w2.cell? ⟨w1.heap.size, 0, none⟩ = some (.int .i64 (a1 + b1)) := cell_later hb (by go_simp)
      have ks1 : w2.cell? ⟨w1.heap.size, 1, none⟩ = some (.int .i64 (a2 + b2)) := cell_later hb (by go_simp)
      replace za : w.heap.size < w2.heap.size := World.block_lt_of_cell? _ _ ka0
      replace zb : w.heap.size + 1 < w2.heap.size := World.block_lt_of_cell? _ _ kb0
      replace zr : w.heap.size + 1 + 1 < w2.heap.size := World.block_lt_of_cell? _ _ kr0
      have zs : w1.heap.size < w2.heap.size := World.block_lt_of_cell? _ _ ks0
      replace hb0 : Below w.heap.size w w2 := (by repeat (first | with_reducible exact Below.refl _ _ | with_reducible assumption | with_reducible refine Below.setCell ?_ (by first | omega | (simp <;> omega)) _ | with_reducible refine balloc ?_ _ | with_reducible refine Below.drew ?_ | with_reducible refine bstep ?_ (by with_reducible assumption)))
      clear hb
      rw [h]
      go_wp2
      refine bodyPost_ret ?_ rfl ⟨rfl, (by repeat (first | with_reducible exact Below.refl _ _ | with_reducible assumption | with_reducible refine Below.setCell ?_ (by first | omega | (simp <;> omega)) _ | with_reducible refine balloc ?_ _ | with_reducible refine Below.drew ?_ | with_reducible refine bstep ?_ (by with_reducible assumption)))⟩
      simp [results, Try.results56, go_sem, kr0, kr1, zr, selI, erv]
  · have es : vE 1000000000000 (a1 + b1) (a2 + b2) = true := by rw [vE_iff]; have := okH_iff.1 h; simp only at this; omega
    have J : ∀ w, Calls Try.prog 35 #[.agg #[(.int .i64 a1), (.int .i64 a2)], .agg #[(.int .i64 b1), (.int .i64 b2)]] w (Ret w (.tuple #[.agg #[(.int .i64 (a1 + b1)), (.int .i64 (a2 + b2))], (.int .i64 0)])) := fun w => by have := Add_c a1 a2 b1 b2 w; simpa [vAdd, rAdd, ea, eb, es, selI, erv] using this
    clear ha eb ea es
    go_enter Try.func56, Try.ntmps56
    go_wp2_with fail
    refine Calls.mono (J _) ?_
    rintro e w1 ⟨rfl, hb⟩
    have ka0 : w1.cell? ⟨w.heap.size, 0, none⟩ = some (.int .i64 a1) := cell_later hb (by go_simp)
    have ka1 : w1.cell? ⟨w.heap.size, 1, none⟩ = some (.int .i64 a2) := cell_later hb (by go_simp)
    have kb0 : w1.cell? ⟨w.heap.size + 1, 0, none⟩ = some (.int .i64 b1) := cell_later hb (by go_simp)
    have kb1 : w1.cell? ⟨w.heap.size + 1, 1, none⟩ = some (.int .i64 b2) := cell_later hb (by go_simp)
    have kr0 : w1.cell? ⟨w.heap.size + 1 + 1, 0, none⟩ = some (.int .i64 0) := cell_later hb (by go_simp)
    have jr0 : w1.frozen? ⟨w.heap.size + 1 + 1, 0, none⟩ = false := by rw [(bcell hb).2 _ _ (by first | omega | (simp <;> omega))]; go_simp
    have kr1 : w1.cell? ⟨w.heap.size + 1 + 1, 1, none⟩ = some (.int .i64 0) := cell_later hb (by go_simp)
    have jr1 : w1.frozen? ⟨w.heap.size + 1 + 1, 1, none⟩ = false := by rw [(bcell hb).2 _ _ (by first | omega | (simp <;> omega))]; go_simp
    have za : w.heap.size < w1.heap.size := World.block_lt_of_cell? _ _ ka0
    have zb : w.heap.size + 1 < w1.heap.size := World.block_lt_of_cell? _ _ kb0
    have zr : w.heap.size + 1 + 1 < w1.heap.size := World.block_lt_of_cell? _ _ kr0
    have hb0 : Below w.heap.size w w1 := (by repeat (first | with_reducible exact Below.refl _ _ | with_reducible assumption | with_reducible refine Below.setCell ?_ (by first | omega | (simp <;> omega)) _ | with_reducible refine balloc ?_ _ | with_reducible refine Below.drew ?_ | with_reducible refine bstep ?_ (by with_reducible assumption)))
    clear hb
    go_wp2_with fail
    refine Calls.mono (inRange_c (a1 + b1) (a2 + b2) _) ?_
    rintro e w2 ⟨rfl, hb⟩
    replace ka0 := cell_later hb (cell_al _ ka0)
    replace ka1 := cell_later hb (cell_al _ ka1)
    replace kb0 := cell_later hb (cell_al _ kb0)
    replace kb1 := cell_later hb (cell_al _ kb1)
    replace jr0 := fro_later hb (cell_al _ kr0) (fro_al jr0)
    replace kr0 := cell_later hb (cell_al _ kr0)
    replace jr1 := fro_later hb (cell_al _ kr1) (fro_al jr1)
    replace kr1 := cell_later hb (cell_al _ kr1)
    have ks0 : w2.cell? ⟨w1.heap.size, 0, none⟩ = some (.int .i64 (a1 + b1)) := cell_later hb (by go_simp)
    have ks1 : w2.cell? ⟨w1.heap.size, 1, none⟩ = some (.int .i64 (a2 + b2)) := cell_later hb (by go_simp)
    replace za : w.heap.size < w2.heap.size := World.block_lt_of_cell? _ _ ka0
    replace zb : w.heap.size + 1 < w2.heap.size := World.block_lt_of_cell? _ _ kb0
    replace zr : w.heap.size + 1 + 1 < w2.heap.size := World.block_lt_of_cell? _ _ kr0
    have zs : w1.heap.size < w2.heap.size := World.block_lt_of_cell? _ _ ks0
    replace hb0 : Below w.heap.size w w2 := (by repeat (first | with_reducible exact Below.refl _ _ | with_reducible assumption | with_reducible refine Below.setCell ?_ (by first | omega | (simp <;> omega)) _ | with_reducible refine balloc ?_ _ | with_reducible refine Below.drew ?_ | with_reducible refine bstep ?_ (by with_reducible assumption)))
    clear hb
    rw [h]
    go_wp2
    refine bodyPost_ret ?_ rfl ⟨rfl, (by repeat (first | with_reducible exact Below.refl _ _ | with_reducible assumption | with_reducible refine Below.setCell ?_ (by first | omega | (simp <;> omega)) _ | with_reducible refine balloc ?_ _ | with_reducible refine Below.drew ?_ | with_reducible refine bstep ?_ (by with_reducible assumption)))⟩
    simp [results, Try.results56, go_sem, kr0, kr1, zr, selI, erv]


end Go.Proofs.Ytemogomligbgiaa.Ti

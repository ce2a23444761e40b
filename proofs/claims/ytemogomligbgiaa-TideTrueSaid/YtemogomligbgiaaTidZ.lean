/- TidZ: the valid tables of the reference. -/
import Derived.Test.YtemogomligbgiaaTidY
import Derived.Test.YtemogomligbgiaaRows
import Derived.WalkKit
import Derived.WalkSpells
import Derived.WalkLawsBesides
import Derived.Lib.Hide
import Derived.Deep.QuietTactic
import Derived.BigQuiet
import Derived.RegionTactic
import Derived.ChangeAlike
import Derived.BigRegion
import Derived.Deep.RegionHeld3
import Derived.Deep.RegionWith
import Derived.Outline
import Derived.IntWalk
import Derived.Deep.DeepCutAuto
import Derived.LoopTactic
namespace Go.Proofs.Ytemogomligbgiaa.Ti
open Go.RowKit Sp
set_option linter.unusedSimpArgs false
set_option linter.unusedVariables false

set_option maxHeartbeats 800000 in
theorem rvalid_c (s1 s2 : Int) (w : World) : Calls Try.prog 57 #[(.agg #[(.int .i64 s1), (.int .i64 s2)])] w (Ret w (.bool (vE 1000000000000 s1 s2))) := by
  go_enter Try.func57, Try.ntmps57
  go_wp2
  all_goals
    go_ret
    refine ret_bool ?_ (by repeat (first | with_reducible exact Below.refl _ _ | with_reducible assumption | with_reducible refine Below.setCell ?_ (by first | omega | (simp <;> omega)) _ | with_reducible refine balloc ?_ _ | with_reducible refine Below.drew ?_ | with_reducible refine bstep ?_ (by with_reducible assumption)))
    rw [vE_iff]
    simp <;> omega
set_option maxHeartbeats 800000 in
theorem rheight_c (s1 s2 : Int) (w : World) : Calls Try.prog 37 #[(.agg #[(.int .i64 s1), (.int .i64 s2)])] w (Ret w (.bool (okH (s1, s2)))) := by
  cases h : vE 1000000000000 s1 s2
  · have hn : okH (s1, s2) = false := by
      rw [Bool.eq_false_iff]
      intro h2
      have := okH_iff.1 h2
      rw [Bool.eq_false_iff] at h
      exact h (vE_iff.2 (by simp only at this; omega))
    rw [hn]
    go_enter Try.func37, Try.ntmps37
    go_wp2_with fail
    refine Calls.mono (rvalid_c _ _ _) ?_
    rintro e w1 ⟨rfl, hb⟩
    rw [h]
    go_wp2
    go_ret
    exact ⟨rfl, (by repeat (first | with_reducible exact Below.refl _ _ | with_reducible assumption | with_reducible refine Below.setCell ?_ (by first | omega | (simp <;> omega)) _ | with_reducible refine balloc ?_ _ | with_reducible refine Below.drew ?_ | with_reducible refine bstep ?_ (by with_reducible assumption)))⟩
  · have hv := vE_iff.1 h
    go_enter Try.func37, Try.ntmps37
    go_wp2_with fail
    refine Calls.mono (rvalid_c _ _ _) ?_
    rintro e w1 ⟨rfl, hb⟩
    rw [h]
    have k0 : w1.cell? ⟨w.heap.size, 0, none⟩ = some (.int .i64 s1) := cell_later hb (by go_simp)
    have k1 : w1.cell? ⟨w.heap.size, 1, none⟩ = some (.int .i64 s2) := cell_later hb (by go_simp)
    have hb0 : Below w.heap.size w w1 := (by repeat (first | with_reducible exact Below.refl _ _ | with_reducible assumption | with_reducible refine Below.setCell ?_ (by first | omega | (simp <;> omega)) _ | with_reducible refine balloc ?_ _ | with_reducible refine Below.drew ?_ | with_reducible refine bstep ?_ (by with_reducible assumption)))
    clear hb
    go_wp2
    all_goals
      go_ret
      refine ret_bool ?_ (by repeat (first | with_reducible exact Below.refl _ _ | with_reducible assumption | with_reducible refine Below.setCell ?_ (by first | omega | (simp <;> omega)) _ | with_reducible refine balloc ?_ _ | with_reducible refine Below.drew ?_ | with_reducible refine bstep ?_ (by with_reducible assumption)))
      rw [okH_iff]
      simp <;> omega
set_option maxHeartbeats 800000 in
theorem last_c (s p : Int) (pp : Option Addr) (n cap : Nat) (w : World) (hs : 0 ≤ s ∧ s ≤ 10000000) (hp : 1 ≤ p ∧ p ≤ 1000) (hn : 1 ≤ n ∧ n ≤ 200) : Calls Try.prog 31 #[.agg #[(.int .i64 s), (.int .i64 p), .slice pp n cap]] w (Ret w (.int .i64 (s + ((n : Int) - 1) * p))) := by
  obtain ⟨m1, m2⟩ := mul_lt (k := (n : Int) - 1) (n := 200) (p := p) (by omega) (by omega) (by omega)
  obtain ⟨hs1, hs2⟩ := hs
  obtain ⟨hp1, hp2⟩ := hp
  obtain ⟨hn1, hn2⟩ := hn
  go_enter Try.func31, Try.ntmps31
  go_wp2
  go_ret
  exact ⟨rfl, (by repeat (first | with_reducible exact Below.refl _ _ | with_reducible assumption | with_reducible refine Below.setCell ?_ (by first | omega | (simp <;> omega)) _ | with_reducible refine balloc ?_ _ | with_reducible refine Below.drew ?_ | with_reducible refine bstep ?_ (by with_reducible assumption)))⟩

set_option maxRecDepth 20000 in
set_option maxHeartbeats 3200000 in
theorem RValid_c (s p : Int) (v : Value) (l : List Pr) (w : World) (hv : Spans w v l) : Calls Try.prog 13 #[.agg #[(.int .i64 s), (.int .i64 p), v]] w (Ret w (.bool (vaT s p l))) := by
  obtain ⟨⟨pp, cap, rfl, hn, hcap, hp⟩, hl⟩ := hv
  cases h1 : tmB s
  · have hf : vaT s p l = false := by unfold vaT; rw [h1]; rfl
    rw [hf]
    clear hp hn
    go_enter Try.func13, Try.ntmps13
    go_wp2_with fail
    refine Calls.mono (rtime_c s _) ?_
    rintro e wx ⟨rfl, rfl⟩
    rw [h1]
    go_wp2
    go_ret
    exact ⟨rfl, (by repeat (first | with_reducible exact Below.refl _ _ | with_reducible assumption | with_reducible refine Below.setCell ?_ (by first | omega | (simp <;> omega)) _ | with_reducible refine balloc ?_ _ | with_reducible refine Below.drew ?_ | with_reducible refine bstep ?_ (by with_reducible assumption)))⟩
  · cases h2 : decide (1 ≤ p)
    · have a2 : p < 1 := by simpa using h2
      obtain ⟨b1, b2⟩ := btB_iff.1 h1
      have hf : vaT s p l = false := by
        rw [Bool.eq_false_iff]
        intro h
        obtain ⟨c1, c2, c3, c4, _⟩ := vaT_iff.1 h
        unfold laT at c4
        omega
      rw [hf]
      clear hp hn
      go_enter Try.func13, Try.ntmps13
      go_wp2_with fail
      refine Calls.mono (rtime_c s _) ?_
      rintro e wx ⟨rfl, rfl⟩
      rw [h1]
      go_wp2
      go_ret
      exact ⟨rfl, (by repeat (first | with_reducible exact Below.refl _ _ | with_reducible assumption | with_reducible refine Below.setCell ?_ (by first | omega | (simp <;> omega)) _ | with_reducible refine balloc ?_ _ | with_reducible refine Below.drew ?_ | with_reducible refine bstep ?_ (by with_reducible assumption)))⟩
    · cases h3 : decide (p ≤ 1000)
      · have a2 : 1 ≤ p := by simpa using h2
        have a3 : 1000 < p := by simpa using h3
        obtain ⟨b1, b2⟩ := btB_iff.1 h1
        have hf : vaT s p l = false := by
          rw [Bool.eq_false_iff]
          intro h
          obtain ⟨c1, c2, c3, c4, _⟩ := vaT_iff.1 h
          unfold laT at c4
          omega
        rw [hf]
        clear hp hn
        go_enter Try.func13, Try.ntmps13
        go_wp2_with fail
        refine Calls.mono (rtime_c s _) ?_
        rintro e wx ⟨rfl, rfl⟩
        rw [h1]
        go_wp2
        go_ret
        exact ⟨rfl, (by repeat (first | with_reducible exact Below.refl _ _ | with_reducible assumption | with_reducible refine Below.setCell ?_ (by first | omega | (simp <;> omega)) _ | with_reducible refine balloc ?_ _ | with_reducible refine Below.drew ?_ | with_reducible refine bstep ?_ (by with_reducible assumption)))⟩
      · cases h4 : decide ((1 : Int) ≤ (l.length : Int))
        · have a2 : 1 ≤ p := by simpa using h2
          have a3 : p ≤ 1000 := by simpa using h3
          have a4 : (l.length : Int) < 1 := by simpa using h4
          obtain ⟨b1, b2⟩ := btB_iff.1 h1
          have hf : vaT s p l = false := by
            rw [Bool.eq_false_iff]
            intro h
            obtain ⟨c1, c2, c3, c4, _⟩ := vaT_iff.1 h
            unfold laT at c4
            omega
          rw [hf]
          clear hp hn
          go_enter Try.func13, Try.ntmps13
          go_wp2_with fail
          refine Calls.mono (rtime_c s _) ?_
          rintro e wx ⟨rfl, rfl⟩
          rw [h1]
          go_wp2
          go_ret
          exact ⟨rfl, (by repeat (first | with_reducible exact Below.refl _ _ | with_reducible assumption | with_reducible refine Below.setCell ?_ (by first | omega | (simp <;> omega)) _ | with_reducible refine balloc ?_ _ | with_reducible refine Below.drew ?_ | with_reducible refine bstep ?_ (by with_reducible assumption)))⟩
        · cases h5 : decide ((l.length : Int) ≤ 200)
          · have a2 : 1 ≤ p := by simpa using h2
            have a3 : p ≤ 1000 := by simpa using h3
            have a4 : (1 : Int) ≤ (l.length : Int) := by simpa using h4
            have a5 : (200 : Int) < (l.length : Int) := by simpa using h5
            obtain ⟨b1, b2⟩ := btB_iff.1 h1
            have hf : vaT s p l = false := by
              rw [Bool.eq_false_iff]
              intro h
              obtain ⟨c1, c2, c3, c4, _⟩ := vaT_iff.1 h
              unfold laT at c4
              omega
            rw [hf]
            clear hp hn
            go_enter Try.func13, Try.ntmps13
            go_wp2_with fail
            refine Calls.mono (rtime_c s _) ?_
            rintro e wx ⟨rfl, rfl⟩
            rw [h1]
            go_wp2
            go_ret
            exact ⟨rfl, (by repeat (first | with_reducible exact Below.refl _ _ | with_reducible assumption | with_reducible refine Below.setCell ?_ (by first | omega | (simp <;> omega)) _ | with_reducible refine balloc ?_ _ | with_reducible refine Below.drew ?_ | with_reducible refine bstep ?_ (by with_reducible assumption)))⟩
          · cases h6 : decide (s + ((l.length : Int) - 1) * p ≤ 10000000)
            · have a2 : 1 ≤ p := by simpa using h2
              have a3 : p ≤ 1000 := by simpa using h3
              have a4 : (1 : Int) ≤ (l.length : Int) := by simpa using h4
              have a5 : (l.length : Int) ≤ 200 := by simpa using h5
              have a6 : 10000000 < s + ((l.length : Int) - 1) * p := by simpa using h6
              obtain ⟨b1, b2⟩ := btB_iff.1 h1
              obtain ⟨m1, m2⟩ := mul_lt (k := (l.length : Int) - 1) (n := 200) (p := p) (by omega) (by omega) (by omega)
              have hf : vaT s p l = false := by
                rw [Bool.eq_false_iff]
                intro h
                obtain ⟨c1, c2, c3, c4, _⟩ := vaT_iff.1 h
                unfold laT at c4
                omega
              rw [hf]
              clear hp hn
              go_enter Try.func13, Try.ntmps13
              go_wp2_with fail
              refine Calls.mono (rtime_c s _) ?_
              rintro e wx ⟨rfl, rfl⟩
              rw [h1]
              go_wp2
              go_ret
              exact ⟨rfl, (by repeat (first | with_reducible exact Below.refl _ _ | with_reducible assumption | with_reducible refine Below.setCell ?_ (by first | omega | (simp <;> omega)) _ | with_reducible refine balloc ?_ _ | with_reducible refine Below.drew ?_ | with_reducible refine bstep ?_ (by with_reducible assumption)))⟩
            · have a2 : 1 ≤ p := by simpa using h2
              have a3 : p ≤ 1000 := by simpa using h3
              have a4 : (1 : Int) ≤ (l.length : Int) := by simpa using h4
              have a5 : (l.length : Int) ≤ 200 := by simpa using h5
              have a6 : s + ((l.length : Int) - 1) * p ≤ 10000000 := by simpa using h6
              obtain ⟨b1, b2⟩ := btB_iff.1 h1
              obtain ⟨m1, m2⟩ := mul_lt (k := (l.length : Int) - 1) (n := 200) (p := p) (by omega) (by omega) (by omega)
              obtain ⟨b, off, rfl, hr⟩ := hp (by omega)
              have hbl := hr.lt (by omega)
              have hf : vaT s p l = l.all okH := by
                rw [Bool.eq_iff_iff, vaT_iff]
                unfold laT
                exact ⟨fun h => h.2.2.2.2, fun h => ⟨⟨b1, b2⟩, ⟨a2, a3⟩, ⟨by omega, by omega⟩, ⟨by omega, by omega⟩, h⟩⟩
              rw [hf]
              clear hf hp hn h2 h3 h4 h5 h6
              go_enter Try.func13, Try.ntmps13
              go_wp2_with fail
              refine Calls.mono (rtime_c s _) ?_
              rintro e wx ⟨rfl, rfl⟩
              rw [h1]
              go_wp2_with fail
              obtain ⟨W0, hW0⟩ : ∃ W0, (w.alloc (.cells #[(.int .i64 s), (.int .i64 p), (.slice (some ⟨b, off, none⟩) l.length cap)] 24)) = W0 := ⟨_, rfl⟩
              have kt0 : W0.cell? ⟨w.heap.size, 0, none⟩ = some (.int .i64 s) := by rw [← hW0]; clear hW0; go_simp
              have kt1 : W0.cell? ⟨w.heap.size, 1, none⟩ = some (.int .i64 p) := by rw [← hW0]; clear hW0; go_simp
              have kt2 : W0.cell? ⟨w.heap.size, 2, none⟩ = some (.slice (some ⟨b, off, none⟩) l.length cap) := by rw [← hW0]; clear hW0; go_simp
              have hB0 : Below w.heap.size w W0 := by rw [← hW0]; clear hW0; exact (by repeat (first | with_reducible exact Below.refl _ _ | with_reducible assumption | with_reducible refine Below.setCell ?_ (by first | omega | (simp <;> omega)) _ | with_reducible refine balloc ?_ _ | with_reducible refine Below.drew ?_ | with_reducible refine bstep ?_ (by with_reducible assumption)))
              have hsz : W0.heap.size = w.heap.size + 1 := by rw [← hW0]; simp
              rw [hW0]
              clear hW0
              have HR := Lib.hid (hr.below hbl hB0)
              have HB := Lib.hid hB0
              have HS := Lib.hid hsz
              have hbl2 : b < W0.heap.size := by omega
              have htl : w.heap.size < W0.heap.size := by omega
              clear hr hB0 hsz m1 m2 a6
              go_loopw [5] (fun i wr => ∃ k : Nat, i = (.int .i64 k) ∧ k ≤ l.length ∧ Hid (∀ i, i < k → okH (gt l i) = true) ∧ Below W0.heap.size W0 wr) (fun i _ => l.length - (intOf i).toNat)
              case atStart => exact ⟨0, rfl, by omega, Lib.hid (fun i hi => by omega), Below.refl _ _⟩
              case round =>
                obtain ⟨k, rfl, hk, HA, hbel⟩ := hrel
                have hbw : Below w.heap.size w wr := HB.out.trans (hbel.mono (by have := HS.out; omega))
                by_cases hlt : k < l.length
                · obtain ⟨c0, c1⟩ := HR.out.below hbl2 hbel k hlt
                  have q2 := (hbel.cell (p := ⟨w.heap.size, 2, none⟩) htl).trans kt2
                  have HL := Lib.hid hbel
                  obtain ⟨x, hx⟩ : ∃ x, gt l k = x := ⟨_, rfl⟩
                  rw [hx] at c0 c1
                  have HG := Lib.hid hx
                  obtain ⟨x1, x2⟩ := x
                  dsimp only at c0 c1
                  have y1 : (k : Int) < (l.length : Int) := by omega
                  clear hbel hx
                  go_wp2_with fail
                  refine Calls.mono (rheight_c x1 x2 _) ?_
                  rintro e w1 ⟨rfl, hb1⟩
                  have HL2 := Lib.hid (HL.out.trans (hb1.mono HL.out.size))
                  have hbw2 := hbw.trans (hb1.mono hbw.size)
                  clear hb1 hbw c0 c1 q2
                  cases hv : okH (x1, x2)
                  · go_wp2
                    go_ret
                    refine ret_bv ?_ hbw2
                    cases ha : l.all okH
                    · rfl
                    · have := all_gt ha hlt
                      rw [HG.out, hv] at this
                      cases this
                  · go_wp2
                    go_roundw
                    case rel => exact ⟨k + 1, by go_num, by omega, Lib.hid (fun i hi => by
                      rcases Nat.lt_or_ge i k with h | h
                      · exact HA.out i h
                      · obtain rfl : i = k := by omega
                        rw [HG.out]; exact hv), HL2.out⟩
                    case measure => simp [intOf]; omega
                · obtain rfl : k = l.length := by omega
                  go_wp2
                  go_ret
                  exact ret_bv (all_of_gt HA.out).symm hbw


end Go.Proofs.Ytemogomligbgiaa.Ti

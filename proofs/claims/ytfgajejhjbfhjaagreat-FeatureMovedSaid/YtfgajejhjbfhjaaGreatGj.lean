/- SecF: isSound$1, IndexFunc, ContainsFunc. -/
import Derived.Test.YtfgajejhjbfhjaaGreatGk
import Derived.Test.YtfgajejhjbfhjaaGreatSecE
import Derived.Test.YtfgajejhjbfhjaaGreatRows
import Derived.WalkKit
import Derived.WalkSpells
import Derived.WalkLawsBesides
import Derived.Lib.Hide
import Derived.Deep.QuietTactic
import Derived.BigQuiet
import Derived.RegionTactic
import Derived.ChangeAlike
import Derived.BigRegion
import Derived.Deep.RegionHeld3
import Derived.Deep.RegionWith
import Derived.Outline
import Derived.IntWalk
import Derived.Deep.DeepCutAuto
import Derived.LoopTactic
section
namespace Go.Proofs.YtfgajejhjbfhjaaGreat.Se
open Go.RowKit
set_option linter.unusedSimpArgs false
set_option linter.unusedVariables false

theorem ret_bv {w w' : World} {a b : Bool} (h : a = b) (hb : Below w.heap.size w w') : Ret w (.bool b) (.returned (.bool a)) w' := ⟨by rw [h], hb⟩
theorem later3 {W w1 : World} {b o : Nat} {v : Value} (hb : Below W.heap.size W w1) (hc : W.cell? ⟨b, o, none⟩ = some v) (h : W.frozen? ⟨b, o, none⟩ = false) :
    w1.cell? ⟨b, o, none⟩ = some v ∧ w1.frozen? ⟨b, o, none⟩ = false ∧ b < w1.heap.size := by
  have hl : b < W.heap.size := World.block_lt_of_cell? _ _ hc
  refine ⟨cell_later hb hc, ?_, Nat.lt_of_lt_of_le hl hb.size⟩
  rw [(bcell hb).2 _ _ hl]
  exact h
theorem fro_later {W w1 : World} {b o : Nat} {v : Value} (hb : Below W.heap.size W w1) (hc : W.cell? ⟨b, o, none⟩ = some v) (h : W.frozen? ⟨b, o, none⟩ = false) : w1.frozen? ⟨b, o, none⟩ = false := (later3 hb hc h).2.1
theorem fro_al {W : World} {a : Addr} {c : Array Value} {t : TypeId} (h : W.frozen? a = false) : (W.alloc (.cells c t)).frozen? a = false := by
  rw [frozen?_alloc_cells]; exact h

set_option maxRecDepth 20000 in
set_option maxHeartbeats 800000 in
theorem sound1_c (s1 s2 s3 s4 s5 s6 t1 t2 t3 t4 t5 t6 : Int) (B : Nat) (w : World) (hs : okW (s1, s2)) (hs2 : okW (s3, s4)) (ht : okW (t1, t2)) (ht2 : okW (t3, t4)) (c0 : w.cell? ⟨B, 0, none⟩ = some (.int .i64 s1)) (c1 : w.cell? ⟨B, 1, none⟩ = some (.int .i64 s2)) (c2 : w.cell? ⟨B, 2, none⟩ = some (.int .i64 s3)) (c3 : w.cell? ⟨B, 3, none⟩ = some (.int .i64 s4)) (c4 : w.cell? ⟨B, 4, none⟩ = some (.int .i64 s5)) (c5 : w.cell? ⟨B, 5, none⟩ = some (.int .i64 s6)) :
    Calls Tryz.prog 98 #[.agg #[(.int .i64 t1), (.int .i64 t2), (.int .i64 t3), (.int .i64 t4), (.int .i64 t5), (.int .i64 t6)], .pointer (some ⟨B, 0, none⟩)] w (Ret w (.bool (ovS ⟨s1, s2, s3, s4, s5, s6⟩ ⟨t1, t2, t3, t4, t5, t6⟩))) := by
  have q0 := cell_al (.cells #[(.int .i64 t1), (.int .i64 t2), (.int .i64 t3), (.int .i64 t4), (.int .i64 t5), (.int .i64 t6)] 70) c0
  have q1 := cell_al (.cells #[(.int .i64 t1), (.int .i64 t2), (.int .i64 t3), (.int .i64 t4), (.int .i64 t5), (.int .i64 t6)] 70) c1
  have q2 := cell_al (.cells #[(.int .i64 t1), (.int .i64 t2), (.int .i64 t3), (.int .i64 t4), (.int .i64 t5), (.int .i64 t6)] 70) c2
  have q3 := cell_al (.cells #[(.int .i64 t1), (.int .i64 t2), (.int .i64 t3), (.int .i64 t4), (.int .i64 t5), (.int .i64 t6)] 70) c3
  have q4 := cell_al (.cells #[(.int .i64 t1), (.int .i64 t2), (.int .i64 t3), (.int .i64 t4), (.int .i64 t5), (.int .i64 t6)] 70) c4
  have q5 := cell_al (.cells #[(.int .i64 t1), (.int .i64 t2), (.int .i64 t3), (.int .i64 t4), (.int .i64 t5), (.int .i64 t6)] 70) c5
  have hBl : B < w.heap.size := World.block_lt_of_cell? _ _ c0
  go_enter Tryz.func98, Tryz.ntmps98
  go_wp2_with fail
  refine Calls.mono (ov_c s1 s2 s3 s4 s5 s6 t1 t2 t3 t4 t5 t6 _ hs hs2 ht ht2) ?_
  rintro e w1 ⟨rfl, hb⟩
  have kt0 : w1.cell? ⟨w.heap.size, 0, none⟩ = some (.int .i64 t1) := cell_later hb (by go_simp)
  have kt1 : w1.cell? ⟨w.heap.size, 1, none⟩ = some (.int .i64 t2) := cell_later hb (by go_simp)
  have kt2 : w1.cell? ⟨w.heap.size, 2, none⟩ = some (.int .i64 t3) := cell_later hb (by go_simp)
  have kt3 : w1.cell? ⟨w.heap.size, 3, none⟩ = some (.int .i64 t4) := cell_later hb (by go_simp)
  have kt4 : w1.cell? ⟨w.heap.size, 4, none⟩ = some (.int .i64 t5) := cell_later hb (by go_simp)
  have kt5 : w1.cell? ⟨w.heap.size, 5, none⟩ = some (.int .i64 t6) := cell_later hb (by go_simp)
  have zt : w.heap.size < w1.heap.size := World.block_lt_of_cell? _ _ kt0
  have zt_w1 := zt
  have hb0 : Below w.heap.size w w1 := (by repeat (first | with_reducible exact Below.refl _ _ | with_reducible assumption | with_reducible refine Below.setCell ?_ (by first | omega | (simp <;> omega)) _ | with_reducible refine balloc ?_ _ | with_reducible refine Below.drew ?_ | with_reducible refine bstep ?_ (by with_reducible assumption)))
  have hs_w1 := hb.size; (try simp only [World.size_alloc, World.size_setCell] at hs_w1)
  clear hb
  go_wp2
  go_ret
  exact ⟨rfl, (by repeat (first | with_reducible exact Below.refl _ _ | with_reducible assumption | with_reducible refine Below.setCell ?_ (by first | omega | (simp <;> omega)) _ | with_reducible refine balloc ?_ _ | with_reducible refine Below.drew ?_ | with_reducible refine bstep ?_ (by with_reducible assumption)))⟩

/-- Some of the first k sectors has a direction in common with s. -/
def anK (s : Sec) (l : List Sec) (k : Nat) : Bool := (l.take k).any fun t => ovS s t
theorem anK_succ {s : Sec} {l : List Sec} {k : Nat} (h : k < l.length) : anK s l (k + 1) = (anK s l k || ovS s (gs l k)) := by
  unfold anK
  rw [take_succ_gs h, List.any_append]
  simp
theorem anK_of {s : Sec} {l : List Sec} {k n : Nat} (h : k ≤ n) (ha : anK s l k = true) : anK s l n = true := by
  unfold anK at *
  rw [List.any_eq_true] at *
  obtain ⟨t, ht, e⟩ := ha
  refine ⟨t, ?_, e⟩
  rw [show l.take k = (l.take n).take k by rw [List.take_take, Nat.min_eq_left h]] at ht
  exact List.mem_of_mem_take ht
set_option maxRecDepth 20000 in
set_option maxHeartbeats 1600000 in
theorem index_c (s1 s2 s3 s4 s5 s6 : Int) (B b off cap : Nat) (l : List Sec) (w : World) (h12 : l.length ≤ 24) (hs : okS ⟨s1, s2, s3, s4, s5, s6⟩) (hall : allS l) (hp : 0 < l.length → Row w b off l ∧ b < w.heap.size) (c0 : w.cell? ⟨B, 0, none⟩ = some (.int .i64 s1)) (c1 : w.cell? ⟨B, 1, none⟩ = some (.int .i64 s2)) (c2 : w.cell? ⟨B, 2, none⟩ = some (.int .i64 s3)) (c3 : w.cell? ⟨B, 3, none⟩ = some (.int .i64 s4)) (c4 : w.cell? ⟨B, 4, none⟩ = some (.int .i64 s5)) (c5 : w.cell? ⟨B, 5, none⟩ = some (.int .i64 s6)) :
    Calls Tryz.prog 107 #[.slice (some ⟨b, off, none⟩) l.length cap, .func (.func 98) #[] #[.pointer (some ⟨B, 0, none⟩)]] w fun e w' => Below w.heap.size w w' ∧ ∃ j : Int, e = .returned (.int .i64 j) ∧ (decide (0 ≤ j)) = anK ⟨s1, s2, s3, s4, s5, s6⟩ l l.length := by
  have hBl : B < w.heap.size := World.block_lt_of_cell? _ _ c0
  have HP := Lib.hid hp
  clear hp
  go_enter Tryz.func107, Tryz.ntmps107
  go_wp2
  go_loopw [8] (fun i wr => ∃ k : Nat, i = (.int .i64 k) ∧ k ≤ l.length ∧ Hid (anK ⟨s1, s2, s3, s4, s5, s6⟩ l k = false) ∧ Below w.heap.size w wr) (fun i _ => l.length - (intOf i).toNat)
  case atStart => exact ⟨0, rfl, by omega, Lib.hid rfl, Below.refl _ _⟩
  case round =>
    obtain ⟨k, rfl, hk, HA, hbel⟩ := hrel
    by_cases hlt : k < l.length
    · obtain ⟨hR, hbl⟩ := HP.out (by omega)
      have HR := Lib.hid hR
      clear hR
      have hgk := hall k hlt
      obtain ⟨e1, e2, e3, e4, e5, e6⟩ := (HR.out.below hbl hbel) k hlt
      generalize hg : gs l k = g at *
      have HG := Lib.hid hg
      clear hg
      obtain ⟨t1, t2, t3, t4, t5, t6⟩ := g
      dsimp only at e1 e2 e3 e4 e5 e6
      obtain ⟨hc, _⟩ := bcell hbel
      have q0 := (hc _ 0 hBl).trans c0
      have q1 := (hc _ 1 hBl).trans c1
      have q2 := (hc _ 2 hBl).trans c2
      have q3 := (hc _ 3 hBl).trans c3
      have q4 := (hc _ 4 hBl).trans c4
      have q5 := (hc _ 5 hBl).trans c5
      clear hc
      have hgo := vaS_ok hgk
      have HN := Lib.hid (anK_succ (s := ⟨s1, s2, s3, s4, s5, s6⟩) hlt)
      go_wp2_with fail
      refine Calls.mono (sound1_c s1 s2 s3 s4 s5 s6 t1 t2 t3 t4 t5 t6 B _ hs.1 hs.2 hgo.1 hgo.2 q0 q1 q2 q3 q4 q5) ?_
      rintro e w1 ⟨rfl, hb⟩
      have hb0 : Below w.heap.size w w1 := (by repeat (first | with_reducible exact Below.refl _ _ | with_reducible assumption | with_reducible refine Below.setCell ?_ (by first | omega | (simp <;> omega)) _ | with_reducible refine balloc ?_ _ | with_reducible refine Below.drew ?_ | with_reducible refine bstep ?_ (by with_reducible assumption)))
      clear hb
      cases hv : ovS ⟨s1, s2, s3, s4, s5, s6⟩ ⟨t1, t2, t3, t4, t5, t6⟩
      · have HV := Lib.hid hv
        go_wp2
        go_roundw
        case rel => exact ⟨k + 1, by simp, by omega, Lib.hid (by rw [HN.out, HA.out, HG.out, HV.out]; rfl), hb0⟩
        case measure => simp [intOf]; omega
      · have HV := Lib.hid hv
        go_wp2
        go_ret
        refine ⟨hb0, k, rfl, ?_⟩
        rw [anK_of (show k + 1 ≤ l.length by omega) (by rw [HN.out, HG.out, HV.out]; simp)]
        simp
    · obtain rfl : k = l.length := by omega
      go_wp2
      go_ret
      exact ⟨hbel, -1, rfl, by rw [HA.out]; rfl⟩

set_option maxRecDepth 20000 in
set_option maxHeartbeats 800000 in
theorem contains_c (s1 s2 s3 s4 s5 s6 : Int) (B b off cap : Nat) (l : List Sec) (w : World) (h12 : l.length ≤ 24) (hs : okS ⟨s1, s2, s3, s4, s5, s6⟩) (hall : allS l) (hp : 0 < l.length → Row w b off l ∧ b < w.heap.size) (c0 : w.cell? ⟨B, 0, none⟩ = some (.int .i64 s1)) (c1 : w.cell? ⟨B, 1, none⟩ = some (.int .i64 s2)) (c2 : w.cell? ⟨B, 2, none⟩ = some (.int .i64 s3)) (c3 : w.cell? ⟨B, 3, none⟩ = some (.int .i64 s4)) (c4 : w.cell? ⟨B, 4, none⟩ = some (.int .i64 s5)) (c5 : w.cell? ⟨B, 5, none⟩ = some (.int .i64 s6)) :
    Calls Tryz.prog 101 #[.slice (some ⟨b, off, none⟩) l.length cap, .func (.func 98) #[] #[.pointer (some ⟨B, 0, none⟩)]] w (Ret w (.bool (l.any fun t => ovS ⟨s1, s2, s3, s4, s5, s6⟩ t))) := by
  have C1 := index_c s1 s2 s3 s4 s5 s6 B b off cap l w h12 hs hall hp c0 c1 c2 c3 c4 c5
  have hA : anK ⟨s1, s2, s3, s4, s5, s6⟩ l l.length = (l.any fun t => ovS ⟨s1, s2, s3, s4, s5, s6⟩ t) := by unfold anK; rw [List.take_length]
  rw [← hA]
  generalize anK ⟨s1, s2, s3, s4, s5, s6⟩ l l.length = x at *
  clear hA hp c0 c1 c2 c3 c4 c5
  go_enter Tryz.func101, Tryz.ntmps101
  go_wp2_with fail
  refine Calls.mono C1 ?_
  rintro e w1 ⟨hb, j, rfl, hj⟩
  have HJ := Lib.hid hj
  clear hj
  go_wp2
  go_ret
  exact ret_bv HJ.out (by repeat (first | with_reducible exact Below.refl _ _ | with_reducible assumption | with_reducible refine Below.setCell ?_ (by first | omega | (simp <;> omega)) _ | with_reducible refine balloc ?_ _ | with_reducible refine Below.drew ?_ | with_reducible refine bstep ?_ (by with_reducible assumption)))


end Go.Proofs.YtfgajejhjbfhjaaGreat.Se
end

section
namespace Go.Proofs.YtfgajejhjbfhjaaGreat.Se
open Go.RowKit
set_option linter.unusedSimpArgs false
set_option linter.unusedVariables false

set_option maxRecDepth 20000 in
set_option maxHeartbeats 3200000 in
theorem isSound_c (b off cap : Nat) (l : List Sec) (w : World) (h12 : l.length ≤ 12) (hcap : l.length ≤ cap) (h0l : 0 < l.length) (hr : Row w b off l) :
    Calls Tryz.prog 93 #[.slice (some ⟨b, off, none⟩) l.length cap] w (Ret w (.bool (soK l l.length))) := by
  have hbl := hr.lt h0l
  have HR := Lib.hid hr
  clear hr
  go_enter Tryz.func93, Tryz.ntmps93
  go_wp2
  go_loopw [8] (fun i wr => ∃ k : Nat, i = (.int .i64 k) ∧ k ≤ l.length ∧ Hid (soK l k = true) ∧ Below w.heap.size w wr) (fun i _ => l.length - (intOf i).toNat)
  case atStart => exact ⟨0, rfl, by omega, Lib.hid rfl, Below.refl _ _⟩
  case round =>
    obtain ⟨k, rfl, hk, HA, hb0⟩ := hrel
    by_cases hlt : k < l.length
    · have HN := Lib.hid (show soK l (k + 1) = (soK l k && (vaS (gs l k) && !((l.take k).any fun t => ovS (gs l k) t))) from rfl)
      have HF : Hid (soK l (k + 1) = false → soK l l.length = false) := Lib.hid (fun h => by
        rw [Bool.eq_false_iff] at *
        exact fun h2 => h (soK_mono (by omega) h2))
      have HL : Hid (∀ i, i < k → vaS (gs l i) = true) := Lib.hid (fun i hi => soK_va HA.out hi)
      obtain ⟨e1, e2, e3, e4, e5, e6⟩ := (HR.out.below hbl hb0) k hlt
      generalize hg : gs l k = g at *
      have HG := Lib.hid hg
      clear hg
      obtain ⟨t1, t2, t3, t4, t5, t6⟩ := g
      dsimp only at e1 e2 e3 e4 e5 e6
      go_wp2_with fail
      refine Calls.mono (vs_c t1 t2 t3 t4 t5 t6 _) ?_
      rintro e w1 ⟨rfl, hb⟩
      have kt0 : w1.cell? ⟨wr.heap.size, 0, none⟩ = some (.int .i64 t1) := cell_later hb (by go_simp)
      have kt1 : w1.cell? ⟨wr.heap.size, 1, none⟩ = some (.int .i64 t2) := cell_later hb (by go_simp)
      have kt2 : w1.cell? ⟨wr.heap.size, 2, none⟩ = some (.int .i64 t3) := cell_later hb (by go_simp)
      have kt3 : w1.cell? ⟨wr.heap.size, 3, none⟩ = some (.int .i64 t4) := cell_later hb (by go_simp)
      have kt4 : w1.cell? ⟨wr.heap.size, 4, none⟩ = some (.int .i64 t5) := cell_later hb (by go_simp)
      have kt5 : w1.cell? ⟨wr.heap.size, 5, none⟩ = some (.int .i64 t6) := cell_later hb (by go_simp)
      have zt : wr.heap.size < w1.heap.size := World.block_lt_of_cell? _ _ kt0
      have zt_w1 := zt
      replace hb0 : Below w.heap.size w w1 := (by repeat (first | with_reducible exact Below.refl _ _ | with_reducible assumption | with_reducible refine Below.setCell ?_ (by first | omega | (simp <;> omega)) _ | with_reducible refine balloc ?_ _ | with_reducible refine Below.drew ?_ | with_reducible refine bstep ?_ (by with_reducible assumption)))
      have hs_w1 := hb.size; (try simp only [World.size_alloc, World.size_setCell] at hs_w1)
      clear hb
      cases hv : vaS ⟨t1, t2, t3, t4, t5, t6⟩
      · have HV := Lib.hid hv
        go_wp2
        go_ret
        exact ret_bv (HF.out (by rw [HN.out, HV.out]; simp)).symm (by repeat (first | with_reducible exact Below.refl _ _ | with_reducible assumption | with_reducible refine Below.setCell ?_ (by first | omega | (simp <;> omega)) _ | with_reducible refine balloc ?_ _ | with_reducible refine Below.drew ?_ | with_reducible refine bstep ?_ (by with_reducible assumption)))
      · have HV := Lib.hid hv
        have hgo := vaS_ok hv
        have hkl : (l.take k).length = k := by rw [List.length_take]; omega
        have C2 : ∀ w2, Below w.heap.size w w2 → w2.cell? ⟨wr.heap.size, 0, none⟩ = some (.int .i64 t1) → w2.cell? ⟨wr.heap.size, 1, none⟩ = some (.int .i64 t2) → w2.cell? ⟨wr.heap.size, 2, none⟩ = some (.int .i64 t3) → w2.cell? ⟨wr.heap.size, 3, none⟩ = some (.int .i64 t4) → w2.cell? ⟨wr.heap.size, 4, none⟩ = some (.int .i64 t5) → w2.cell? ⟨wr.heap.size, 5, none⟩ = some (.int .i64 t6) → Calls Tryz.prog 101 #[.slice (some ⟨b, off, none⟩) k cap, .func (.func 98) #[] #[.pointer (some ⟨wr.heap.size, 0, none⟩)]] w2 (Ret w2 (.bool ((l.take k).any fun t => ovS ⟨t1, t2, t3, t4, t5, t6⟩ t))) := fun w2 hb2 c0 c1 c2 c3 c4 c5 => by
          have := contains_c t1 t2 t3 t4 t5 t6 wr.heap.size b off cap (l.take k) w2 (by omega) hgo (fun i hi => by rw [List.length_take] at hi; rw [gs_take (by omega)]; exact HL.out i (by omega)) (fun _ => ⟨(HR.out.below hbl hb2).take k, by have := hb2.size; omega⟩) c0 c1 c2 c3 c4 c5
          rwa [hkl] at this
        clear hkl
        have y1 : (k : Int) ≤ (cap : Int) := by omega
        go_wp2_with fail
        refine Calls.mono (C2 _ hb0 kt0 kt1 kt2 kt3 kt4 kt5) ?_
        rintro e w2 ⟨rfl, hb⟩
        replace kt0 := cell_later hb kt0
        replace kt1 := cell_later hb kt1
        replace kt2 := cell_later hb kt2
        replace kt3 := cell_later hb kt3
        replace kt4 := cell_later hb kt4
        replace kt5 := cell_later hb kt5
        replace zt : wr.heap.size < w2.heap.size := World.block_lt_of_cell? _ _ kt0
        have zt_w2 := zt
        replace hb0 : Below w.heap.size w w2 := (by repeat (first | with_reducible exact Below.refl _ _ | with_reducible assumption | with_reducible refine Below.setCell ?_ (by first | omega | (simp <;> omega)) _ | with_reducible refine balloc ?_ _ | with_reducible refine Below.drew ?_ | with_reducible refine bstep ?_ (by with_reducible assumption)))
        have hs_w2 : w1.heap.size ≤ w2.heap.size := hb.size
        clear hb
        generalize hx : ((l.take k).any fun t => ovS ⟨t1, t2, t3, t4, t5, t6⟩ t) = x at *
        have HX := Lib.hid hx
        clear hx C2
        cases x
        · go_wp2
          go_roundw
          case rel => exact ⟨k + 1, by simp, by omega, Lib.hid (by rw [HN.out, HA.out, HV.out]; rfl), hb0⟩
          case measure => simp [intOf]; omega
        · go_wp2
          go_ret
          exact ret_bv (HF.out (by rw [HN.out, HV.out]; simp)).symm (by repeat (first | with_reducible exact Below.refl _ _ | with_reducible assumption | with_reducible refine Below.setCell ?_ (by first | omega | (simp <;> omega)) _ | with_reducible refine balloc ?_ _ | with_reducible refine Below.drew ?_ | with_reducible refine bstep ?_ (by with_reducible assumption)))
    · obtain rfl : k = l.length := by omega
      go_wp2
      go_ret
      exact ret_bv HA.out.symm (by repeat (first | with_reducible exact Below.refl _ _ | with_reducible assumption | with_reducible refine Below.setCell ?_ (by first | omega | (simp <;> omega)) _ | with_reducible refine balloc ?_ _ | with_reducible refine Below.drew ?_ | with_reducible refine bstep ?_ (by with_reducible assumption)))


end Go.Proofs.YtfgajejhjbfhjaaGreat.Se
end

section
namespace Go.Proofs.YtfgajejhjbfhjaaGreat.Se
open Go.RowKit
set_option linter.unusedSimpArgs false
set_option linter.unusedVariables false

/-- None of the first k sectors has the direction. -/
def shK (l : List Sec) (v : V) (k : Nat) : Bool := (l.take k).any fun s => hasS s v
theorem shK_succ {l : List Sec} {v : V} {k : Nat} (h : k < l.length) : shK l v (k + 1) = (shK l v k || hasS (gs l k) v) := by
  unfold shK
  rw [take_succ_gs h, List.any_append]
  simp
theorem shL_none {l : List Sec} {v : V} (h : shK l v l.length = false) : shL l v = (0, 0) := by
  unfold shK at h
  rw [List.take_length, List.any_eq_false] at h
  have : (l.find? fun s => hasS s v) = none := List.find?_eq_none.2 h
  unfold shL
  rw [this]
theorem shL_some {l : List Sec} {v : V} {k : Nat} (hk : k < l.length) (h : shK l v k = false) (hh : hasS (gs l k) v = true) : shL l v = ((gs l k).co, (gs l k).ra) := by
  have e : (l.find? fun s => hasS s v) = some (gs l k) := by
    unfold shK at h
    rw [List.any_eq_false] at h
    have hd : l.drop k = gs l k :: l.drop (k + 1) := by
      rw [List.drop_eq_getElem_cons hk]
      unfold gs
      rw [List.getD_eq_getElem?_getD, List.getElem?_eq_getElem hk]
      rfl
    have h2 : (l.take k ++ l.drop k).find? (fun s => hasS s v) = some (gs l k) := by
      rw [List.find?_append, List.find?_eq_none.2 h, hd, List.find?_cons_of_pos (p := fun s => hasS s v) hh]
      rfl
    rwa [List.take_append_drop] at h2
  unfold shL
  rw [e]

set_option maxRecDepth 100000 in
set_option maxHeartbeats 3200000 in
theorem shown_c (p : Option Addr) (cap : Nat) (l : List Sec) (v1 v2 : Int) (w : World) (h24 : l.length ≤ 24) (hall : allS l) (hv : okW (v1, v2)) (hp : 0 < l.length → ∃ b off, p = some ⟨b, off, none⟩ ∧ Row w b off l) :
    Calls Tryz.prog 95 #[.slice p l.length cap, (.agg #[.int .i64 v1, .int .i64 v2])] w (Ret w (.agg #[(.int .i64 0), (.int .i64 0), (.int .i64 0), (.int .i64 0), (.int .i64 ((shL l (v1, v2)).1)), (.int .i64 ((shL l (v1, v2)).2))])) := by
  have HP := Lib.hid hp
  clear hp
  go_enter Tryz.func95, Tryz.ntmps95
  go_wp2
  go_loopw [9] (fun i wr => ∃ k : Nat, i = (.int .i64 k) ∧ k ≤ l.length ∧ Hid (shK l (v1, v2) k = false) ∧ wr.cell? ⟨w.heap.size, 0, none⟩ = some (.int .i64 v1) ∧ wr.cell? ⟨w.heap.size, 1, none⟩ = some (.int .i64 v2) ∧ wr.cell? ⟨w.heap.size + 1, 0, none⟩ = some (.int .i64 0) ∧ wr.cell? ⟨w.heap.size + 1, 1, none⟩ = some (.int .i64 0) ∧ wr.cell? ⟨w.heap.size + 1, 2, none⟩ = some (.int .i64 0) ∧ wr.cell? ⟨w.heap.size + 1, 3, none⟩ = some (.int .i64 0) ∧ wr.cell? ⟨w.heap.size + 1, 4, none⟩ = some (.int .i64 0) ∧ wr.cell? ⟨w.heap.size + 1, 5, none⟩ = some (.int .i64 0) ∧ wr.frozen? ⟨w.heap.size + 1, 0, none⟩ = false ∧ wr.frozen? ⟨w.heap.size + 1, 1, none⟩ = false ∧ wr.frozen? ⟨w.heap.size + 1, 2, none⟩ = false ∧ wr.frozen? ⟨w.heap.size + 1, 3, none⟩ = false ∧ wr.frozen? ⟨w.heap.size + 1, 4, none⟩ = false ∧ wr.frozen? ⟨w.heap.size + 1, 5, none⟩ = false ∧ Below w.heap.size w wr) (fun i _ => l.length - (intOf i).toNat)
  case atStart =>
    refine ⟨0, rfl, by omega, Lib.hid rfl, ?_, ?_, ?_, ?_, ?_, ?_, ?_, ?_, ?_, ?_, ?_, ?_, ?_, ?_, (by repeat (first | with_reducible exact Below.refl _ _ | with_reducible assumption | with_reducible refine Below.setCell ?_ (by first | omega | (simp <;> omega)) _ | with_reducible refine balloc ?_ _ | with_reducible refine Below.drew ?_ | with_reducible refine bstep ?_ (by with_reducible assumption)))⟩
    all_goals go_simp
  case round =>
    obtain ⟨k, rfl, hk, HA, kv0, kv1, kr0, kr1, kr2, kr3, kr4, kr5, jr0, jr1, jr2, jr3, jr4, jr5, hb0⟩ := hrel
    have zv : w.heap.size < wr.heap.size := World.block_lt_of_cell? _ _ kv0
    have zr : w.heap.size + 1 < wr.heap.size := World.block_lt_of_cell? _ _ kr0
    by_cases hlt : k < l.length
    · have HN := Lib.hid (shK_succ (v := (v1, v2)) hlt)
      obtain ⟨b, off, rfl, hR⟩ := HP.out (by omega)
      have hbl := hR.lt (by omega)
      have hgo := vaS_ok (hall k hlt)
      obtain ⟨e1, e2, e3, e4, e5, e6⟩ := (hR.below hbl hb0) k hlt
      clear hR
      generalize hg : gs l k = g at e1 e2 e3 e4 e5 e6 hgo
      have HG := Lib.hid hg
      clear hg
      obtain ⟨t1, t2, t3, t4, t5, t6⟩ := g
      dsimp only at e1 e2 e3 e4 e5 e6
      go_wp2_with fail
      refine Calls.mono (has_c t1 t2 t3 t4 t5 t6 v1 v2 _ hgo.1 hgo.2 hv) ?_
      rintro e w1 ⟨rfl, hb⟩
      replace kv0 := cell_later hb (cell_al _ kv0)
      replace kv1 := cell_later hb (cell_al _ kv1)
      replace jr0 := fro_later hb (cell_al _ kr0) (fro_al jr0)
      replace kr0 := cell_later hb (cell_al _ kr0)
      replace jr1 := fro_later hb (cell_al _ kr1) (fro_al jr1)
      replace kr1 := cell_later hb (cell_al _ kr1)
      replace jr2 := fro_later hb (cell_al _ kr2) (fro_al jr2)
      replace kr2 := cell_later hb (cell_al _ kr2)
      replace jr3 := fro_later hb (cell_al _ kr3) (fro_al jr3)
      replace kr3 := cell_later hb (cell_al _ kr3)
      replace jr4 := fro_later hb (cell_al _ kr4) (fro_al jr4)
      replace kr4 := cell_later hb (cell_al _ kr4)
      replace jr5 := fro_later hb (cell_al _ kr5) (fro_al jr5)
      replace kr5 := cell_later hb (cell_al _ kr5)
      have kt0 : w1.cell? ⟨wr.heap.size, 0, none⟩ = some (.int .i64 t1) := cell_later hb (by go_simp)
      have kt1 : w1.cell? ⟨wr.heap.size, 1, none⟩ = some (.int .i64 t2) := cell_later hb (by go_simp)
      have kt2 : w1.cell? ⟨wr.heap.size, 2, none⟩ = some (.int .i64 t3) := cell_later hb (by go_simp)
      have kt3 : w1.cell? ⟨wr.heap.size, 3, none⟩ = some (.int .i64 t4) := cell_later hb (by go_simp)
      have kt4 : w1.cell? ⟨wr.heap.size, 4, none⟩ = some (.int .i64 t5) := cell_later hb (by go_simp)
      have kt5 : w1.cell? ⟨wr.heap.size, 5, none⟩ = some (.int .i64 t6) := cell_later hb (by go_simp)
      replace zv : w.heap.size < w1.heap.size := World.block_lt_of_cell? _ _ kv0
      have zv_w1 := zv
      replace zr : w.heap.size + 1 < w1.heap.size := World.block_lt_of_cell? _ _ kr0
      have zr_w1 := zr
      have zt : wr.heap.size < w1.heap.size := World.block_lt_of_cell? _ _ kt0
      have zt_w1 := zt
      replace hb0 : Below w.heap.size w w1 := (by repeat (first | with_reducible exact Below.refl _ _ | with_reducible assumption | with_reducible refine Below.setCell ?_ (by first | omega | (simp <;> omega)) _ | with_reducible refine balloc ?_ _ | with_reducible refine Below.drew ?_ | with_reducible refine bstep ?_ (by with_reducible assumption)))
      have hs_w1 := hb.size; (try simp only [World.size_alloc, World.size_setCell] at hs_w1)
      clear hb
      cases hx : hasV (t1, t2) (t3, t4) (v1, v2)
      · have HV := Lib.hid hx
        go_wp2
        go_roundw
        case rel => exact ⟨k + 1, by simp, by omega, Lib.hid (by rw [HN.out, HA.out, HG.out]; exact HV.out), kv0, kv1, kr0, kr1, kr2, kr3, kr4, kr5, jr0, jr1, jr2, jr3, jr4, jr5, hb0⟩
        case measure => simp [intOf]; omega
      · have HV := Lib.hid hx
        have hE := shL_some hlt HA.out (by rw [HG.out]; exact HV.out)
        rw [HG.out] at hE
        dsimp only at hE
        have HE := Lib.hid hE
        clear hE
        go_wp2
        refine bodyPost_ret ?_ rfl ⟨rfl, (by repeat (first | with_reducible exact Below.refl _ _ | with_reducible assumption | with_reducible refine Below.setCell ?_ (by first | omega | (simp <;> omega)) _ | with_reducible refine balloc ?_ _ | with_reducible refine Below.drew ?_ | with_reducible refine bstep ?_ (by with_reducible assumption)))⟩
        simp [results, Tryz.results95, go_sem, HE.out, kr0, kr1, kr2, kr3, kr4, kr5, jr0, jr1, jr2, jr3, jr4, jr5]
    · obtain rfl : k = l.length := by omega
      go_wp2
      refine bodyPost_ret ?_ rfl ⟨rfl, (by repeat (first | with_reducible exact Below.refl _ _ | with_reducible assumption | with_reducible refine Below.setCell ?_ (by first | omega | (simp <;> omega)) _ | with_reducible refine balloc ?_ _ | with_reducible refine Below.drew ?_ | with_reducible refine bstep ?_ (by with_reducible assumption)))⟩
      simp [results, Tryz.results95, go_sem, shL_none HA.out, kr0, kr1, kr2, kr3, kr4, kr5, jr0, jr1, jr2, jr3, jr4, jr5]


end Go.Proofs.YtfgajejhjbfhjaaGreat.Se
end

section
namespace Go.Proofs.YtfgajejhjbfhjaaGreat.Se
open Go.RowKit
set_option linter.unusedSimpArgs false
set_option linter.unusedVariables false

set_option maxRecDepth 20000 in
set_option maxHeartbeats 1600000 in
theorem Valid_c (v : Value) (l : List Sec) (w : World) (hp : Secs w v l) : Calls Tryz.prog 84 #[v] w (Ret w (.bool (vaL l))) := by
  obtain ⟨⟨p, cap, rfl, hn, hc, hp⟩, hlen⟩ := hp
  clear hn
  by_cases h12 : 12 < l.length
  · have hv : vaL l = false := by rw [Bool.eq_false_iff]; intro h; have := (vaL_all h).1; omega
    have HV := Lib.hid hv
    have HP := Lib.hid hp
    clear hv hp
    go_enter Tryz.func84, Tryz.ntmps84
    go_wp2
    go_ret
    exact ret_bv HV.out.symm (by repeat (first | with_reducible exact Below.refl _ _ | with_reducible assumption | with_reducible refine Below.setCell ?_ (by first | omega | (simp <;> omega)) _ | with_reducible refine balloc ?_ _ | with_reducible refine Below.drew ?_ | with_reducible refine bstep ?_ (by with_reducible assumption)))
  · have HE := Lib.hid (show vaL l = soK l l.length by unfold vaL; rw [decide_eq_true (by omega)]; rfl)
    by_cases h0 : l.length = 0
    · have hl : l = [] := List.length_eq_zero_iff.1 h0
      subst hl
      clear hp
      have HV := Lib.hid (show vaL [] = true from rfl)
      have C0 : ∀ w, Calls Tryz.prog 93 #[.slice p 0 cap] w (Ret w (.bool true)) := fun w => by
        go_enter Tryz.func93, Tryz.ntmps93
        go_wp2
        go_loopw [8] (fun i wr => i = (.int .i64 0) ∧ Below w.heap.size w wr) (fun _ _ => 0)
        case atStart => exact ⟨rfl, Below.refl _ _⟩
        case round =>
          obtain ⟨rfl, hbel⟩ := hrel
          go_wp2
          go_ret
          exact ⟨rfl, (by repeat (first | with_reducible exact Below.refl _ _ | with_reducible assumption | with_reducible refine Below.setCell ?_ (by first | omega | (simp <;> omega)) _ | with_reducible refine balloc ?_ _ | with_reducible refine Below.drew ?_ | with_reducible refine bstep ?_ (by with_reducible assumption)))⟩
      go_enter Tryz.func84, Tryz.ntmps84
      go_wp2_with fail
      refine Calls.mono (C0 _) ?_
      rintro e w1 ⟨rfl, hb⟩
      go_wp2
      go_ret
      exact ret_bv HV.out.symm (by repeat (first | with_reducible exact Below.refl _ _ | with_reducible assumption | with_reducible refine Below.setCell ?_ (by first | omega | (simp <;> omega)) _ | with_reducible refine balloc ?_ _ | with_reducible refine Below.drew ?_ | with_reducible refine bstep ?_ (by with_reducible assumption)))
    · obtain ⟨b, off, rfl, hr⟩ := hp (by omega)
      have C0 := fun w' (h : Below w.heap.size w w') => isSound_c b off cap l w' (by omega) hc (by omega) (hr.below (hr.lt (by omega)) h)
      have CC := Lib.hid C0
      clear C0 hr hp
      go_enter Tryz.func84, Tryz.ntmps84
      go_wp2_with fail
      refine Calls.mono (CC.out _ (by repeat (first | with_reducible exact Below.refl _ _ | with_reducible assumption | with_reducible refine Below.setCell ?_ (by first | omega | (simp <;> omega)) _ | with_reducible refine balloc ?_ _ | with_reducible refine Below.drew ?_ | with_reducible refine bstep ?_ (by with_reducible assumption)))) ?_
      rintro e w1 ⟨rfl, hb⟩
      go_wp2
      go_ret
      exact ret_bv HE.out.symm (by repeat (first | with_reducible exact Below.refl _ _ | with_reducible assumption | with_reducible refine Below.setCell ?_ (by first | omega | (simp <;> omega)) _ | with_reducible refine balloc ?_ _ | with_reducible refine Below.drew ?_ | with_reducible refine bstep ?_ (by with_reducible assumption)))


end Go.Proofs.YtfgajejhjbfhjaaGreat.Se
end

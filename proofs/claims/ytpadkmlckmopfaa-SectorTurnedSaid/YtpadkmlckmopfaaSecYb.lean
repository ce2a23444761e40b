/- SecYb: head. -/
import Derived.Test.YtpadkmlckmopfaaSecYa
import Derived.Test.YtpadkmlckmopfaaRows
import Derived.WalkKit
import Derived.WalkSpells
import Derived.WalkLawsBesides
import Derived.Lib.Hide
import Derived.Deep.QuietTactic
import Derived.BigQuiet
import Derived.RegionTactic
import Derived.ChangeAlike
import Derived.BigRegion
import Derived.Deep.RegionHeld3
import Derived.Deep.RegionWith
import Derived.Outline
import Derived.IntWalk
import Derived.Deep.DeepCutAuto
namespace Go.Proofs.Ytpadkmlckmopfaa.Se
open Go.RowKit
set_option linter.unusedSimpArgs false
set_option linter.unusedVariables false

set_option maxRecDepth 100000 in
set_option maxHeartbeats 32000000 in
def segB (w : World) : Cut (segA w).Q := Cut.mk _ (fun q => by
  have I1 : ∀ w, Calls Try.prog 14 #[.agg #[(.int .i64 1), (.int .i64 0), (.int .i64 0), (.int .i64 1), (.int .i64 1), (.int .i64 50)], .agg #[(.int .i64 5), (.int .i64 5)]] w (Ret w (.tuple #[(.bool true), (.int .i64 0)])) := fun w => by have := In_ok 1 0 0 1 1 50 5 5 w (by decide +kernel) (by decide +kernel); rwa [show hasS ⟨1, 0, 0, 1, 1, 50⟩ (5, 5) = true by decide +kernel] at this
  have I2 : ∀ w, Calls Try.prog 14 #[.agg #[(.int .i64 1), (.int .i64 0), (.int .i64 0), (.int .i64 1), (.int .i64 1), (.int .i64 50)], .agg #[(.int .i64 0), (.int .i64 3)]] w (Ret w (.tuple #[(.bool false), (.int .i64 0)])) := fun w => by have := In_ok 1 0 0 1 1 50 0 3 w (by decide +kernel) (by decide +kernel); rwa [show hasS ⟨1, 0, 0, 1, 1, 50⟩ (0, 3) = false by decide +kernel] at this
  have I3 : ∀ w, Calls Try.prog 14 #[.agg #[(.int .i64 0), (.int .i64 1), (.int .i64 1), (.int .i64 0), (.int .i64 1), (.int .i64 50)], .agg #[(.int .i64 ((-1))), (.int .i64 ((-7)))]] w (Ret w (.tuple #[(.bool true), (.int .i64 0)])) := fun w => by have := In_ok 0 1 1 0 1 50 (-1) (-7) w (by decide +kernel) (by decide +kernel); rwa [show hasS ⟨0, 1, 1, 0, 1, 50⟩ (-1, -7) = true by decide +kernel] at this
  have I4 : ∀ w, Calls Try.prog 14 #[.agg #[(.int .i64 0), (.int .i64 1), (.int .i64 1), (.int .i64 0), (.int .i64 1), (.int .i64 50)], .agg #[(.int .i64 2), (.int .i64 0)]] w (Ret w (.tuple #[(.bool false), (.int .i64 0)])) := fun w => by have := In_ok 0 1 1 0 1 50 2 0 w (by decide +kernel) (by decide +kernel); rwa [show hasS ⟨0, 1, 1, 0, 1, 50⟩ (2, 0) = false by decide +kernel] at this
  have I5 : ∀ w, Calls Try.prog 14 #[.agg #[(.int .i64 1), (.int .i64 0), (.int .i64 3), (.int .i64 0), (.int .i64 1), (.int .i64 50)], .agg #[(.int .i64 ((-2))), (.int .i64 5)]] w (Ret w (.tuple #[(.bool true), (.int .i64 0)])) := fun w => by have := In_ok 1 0 3 0 1 50 (-2) 5 w (by decide +kernel) (by decide +kernel); rwa [show hasS ⟨1, 0, 3, 0, 1, 50⟩ (-2, 5) = true by decide +kernel] at this
  have CO : ∀ (w : World) (B : Nat) (k0 : w.cell? ⟨B, 0, none⟩ = some (.int .i64 1)) (k1 : w.cell? ⟨B, 1, none⟩ = some (.int .i64 0)) (k2 : w.cell? ⟨B, 2, none⟩ = some (.int .i64 0)) (k3 : w.cell? ⟨B, 3, none⟩ = some (.int .i64 1)) (k4 : w.cell? ⟨B, 4, none⟩ = some (.int .i64 1)) (k5 : w.cell? ⟨B, 5, none⟩ = some (.int .i64 50)) (k6 : w.cell? ⟨B, 6, none⟩ = some (.int .i64 0)) (k7 : w.cell? ⟨B, 7, none⟩ = some (.int .i64 2)) (k8 : w.cell? ⟨B, 8, none⟩ = some (.int .i64 ((-1)))) (k9 : w.cell? ⟨B, 9, none⟩ = some (.int .i64 0)) (k10 : w.cell? ⟨B, 10, none⟩ = some (.int .i64 2)) (k11 : w.cell? ⟨B, 11, none⟩ = some (.int .i64 30)), Calls Try.prog 16 #[.slice (some ⟨B, 0, none⟩) 2 2, .agg #[(.int .i64 ((-1))), (.int .i64 9)]] w (Ret w (.tuple #[(.int .i64 2), (.int .i64 30), (.int .i64 0)])) := fun w B k0 k1 k2 k3 k4 k5 k6 k7 k8 k9 k10 k11 => by
    have := Color_ok _ [⟨1, 0, 0, 1, 1, 50⟩, ⟨0, 2, -1, 0, 2, 30⟩] (-1) 9 w (row_four k0 k1 k2 k3 k4 k5 k6 k7 k8 k9 k10 k11) (by decide +kernel) (by decide +kernel)
    rwa [show shL [⟨1, 0, 0, 1, 1, 50⟩, ⟨0, 2, -1, 0, 2, 30⟩] (-1, 9) = (2, 30) by decide +kernel] at this
  have S1 : ∀ (w : World) (A B : Nat) (a b : Value), Secs w a [⟨1, 0, 0, 1, 1, 50⟩] → Secs w b [⟨1, 1, 0, 1, 1, 50⟩] → Calls Try.prog 20 #[a, b] w (Ret w (.tuple #[(.bool false), (.int .i64 0)])) := fun w A B a b ha hb => by
    have := Safer_ok a b _ _ w ha hb (by decide +kernel) (by decide +kernel)
    rwa [show (!hoL [⟨1, 1, 0, 1, 1, 50⟩] [⟨1, 0, 0, 1, 1, 50⟩] 1) = false by decide +kernel] at this
  have S2 : ∀ (w : World) (A B : Nat) (a b : Value), Secs w a [⟨1, 1, 0, 1, 1, 50⟩] → Secs w b [⟨1, 0, 0, 1, 1, 50⟩] → Calls Try.prog 20 #[a, b] w (Ret w (.tuple #[(.bool true), (.int .i64 0)])) := fun w A B a b ha hb => by
    have := Safer_ok a b _ _ w ha hb (by decide +kernel) (by decide +kernel)
    rwa [show (!hoL [⟨1, 0, 0, 1, 1, 50⟩] [⟨1, 1, 0, 1, 1, 50⟩] 1) = true by decide +kernel] at this
  have NO : ∀ (w : World) (a : Value), Secs w a [⟨0, 2, 2, 0, 2, 30⟩, ⟨1, 0, 0, 1, 2, 30⟩] → Calls Try.prog 22 #[a] w (fun e W' => ∃ v, e = .returned (.tuple #[v, (.int .i64 0)]) ∧ Secs W' v [⟨1, 0, 1, 0, 2, 30⟩] ∧ Below w.heap.size w W') := fun w a ha => (Normal_ok a _ w ha (by decide +kernel)).mono fun e W' ⟨v, he, ho, hb⟩ => ⟨v, he, by rw [no_1] at ho; exact own_secs ho (by decide), hb⟩
  have E1 : ∀ (w : World) (a : Value), Secs w a [⟨1, 0, 0, 1, 1, 5⟩] → Calls Try.prog 25 #[a, .agg #[(.int .i64 10), (.int .i64 10)], .agg #[(.int .i64 13), (.int .i64 14)]] w (Ret w (.tuple #[(.int .i64 1), (.int .i64 0)])) := fun w a ha => by
    have := Seen_ok a _ 10 10 13 14 w ha (by decide +kernel) (by decide) (by decide) (by decide)
    rwa [show seL [⟨1, 0, 0, 1, 1, 5⟩] 10 10 13 14 = 1 by decide +kernel] at this
  have E2 : ∀ (w : World) (a : Value), Secs w a [⟨1, 0, 0, 1, 1, 5⟩] → Calls Try.prog 25 #[a, .agg #[(.int .i64 10), (.int .i64 10)], .agg #[(.int .i64 14), (.int .i64 14)]] w (Ret w (.tuple #[(.int .i64 0), (.int .i64 0)])) := fun w a ha => by
    have := Seen_ok a _ 10 10 14 14 w ha (by decide +kernel) (by decide) (by decide) (by decide)
    rwa [show seL [⟨1, 0, 0, 1, 1, 5⟩] 10 10 14 14 = 0 by decide +kernel] at this
  have SM : ∀ (w : World) (a b : Value), Secs w a [⟨1, 0, 1, 0, 2, 30⟩] → Secs w b [⟨1, 0, 1, 0, 2, 30⟩] → Calls Try.prog 24 #[a, b] w (Ret w (.bool true)) := fun w a b ha hb => by
    have := Same_c a b _ _ w ha hb (by decide)
    rwa [show decide ([(⟨1, 0, 1, 0, 2, 30⟩ : Sec)] = [⟨1, 0, 1, 0, 2, 30⟩]) = true by decide +kernel] at this
  have HI1 := Lib.hid I1
  have HI2 := Lib.hid I2
  have HI3 := Lib.hid I3
  have HI4 := Lib.hid I4
  have HI5 := Lib.hid I5
  have HCO := Lib.hid CO
  have HS1 := Lib.hid S1
  have HS2 := Lib.hid S2
  have HNO := Lib.hid NO
  have HE1 := Lib.hid E1
  have HE2 := Lib.hid E2
  have HSM := Lib.hid SM
  clear I1 I2 I3 I4 I5 CO S1 S2 NO E1 E2 SM
  intro w3 K hK wC u26 u27 u28 u29 u30 u31 u32 u33 u34 u35 u36 u37 u38 u39 u40 u41 u42 u43 u44 u45 u46 u47 u48 u49 u50 u51 u52 u53 u54 u55 u56 u57 u58 u59 u60 u61 u62 u63 u64 u65 u66 u67 u68 u69 u70 u71 u72 u73 u74 u75 u76 u77 u78 u79 u80 u81 u82 u83 u84 u85 u86 u87 u88 u89 u90 u91 u92 u93 u94 u95 u96 u97 u98 u99 u100 u101 u102 u103 u104 u105 u106 u107 u108 u109 u110 u111 u112 u113 u114 u115 u116 u117 u118 u119 u120 u121 u122 u123 u124 u125 u126 u127 u128 u129 u130 u131 u132 u133 u134 u135 u136 u137 u138 u139 u140 u141 u142 u143 u144 u145 u146 u147 u148 u149 u150 u151 u152 u153 u154 u155 u156 u157 u158 u159 u160 u161 u162 u163 u164 u165 u166 u167 u168 u169 u170 u171 u172 u173 u174 u175 u176 u177 u178 u179 u180 u181 u182 u183 u184 u185 u186 u187 u188 u189 u190 u191 u192 u193 u194 u195 u196 u197 u198 u199 u200 u201 u202 u203 u204 u205 u206 u207 u208 u209 u210 u211 u212 u213 u214 u215 u216 u217 u218 u219 kf0 kf1 kf2 kf3 kf4 kf5 hb0 zf zf_wC hs3
  go_upto_region 9 with fail
  go_cut [16, 17] (fun s16 s17 wx => s16 = (.bool false) ∧ s17 = (.int .i64 0) ∧ wx.cell? ⟨w3.heap.size, 0, none⟩ = some (.int .i64 1) ∧ wx.cell? ⟨w3.heap.size, 1, none⟩ = some (.int .i64 0) ∧ wx.cell? ⟨w3.heap.size, 2, none⟩ = some (.int .i64 0) ∧ wx.cell? ⟨w3.heap.size, 3, none⟩ = some (.int .i64 1) ∧ wx.cell? ⟨w3.heap.size, 4, none⟩ = some (.int .i64 1) ∧ wx.cell? ⟨w3.heap.size, 5, none⟩ = some (.int .i64 50) ∧ Below w.heap.size w wx)
  case first =>
    refine wp_region_held_drew (S := fun w' => w'.cell? ⟨w3.heap.size, 0, none⟩ = some (.int .i64 1) ∧ w'.cell? ⟨w3.heap.size, 1, none⟩ = some (.int .i64 0) ∧ w'.cell? ⟨w3.heap.size, 2, none⟩ = some (.int .i64 0) ∧ w'.cell? ⟨w3.heap.size, 3, none⟩ = some (.int .i64 1) ∧ w'.cell? ⟨w3.heap.size, 4, none⟩ = some (.int .i64 1) ∧ w'.cell? ⟨w3.heap.size, 5, none⟩ = some (.int .i64 50)) (by kernel_rfl) (by first | (go_keep; done) | ((repeat' apply And.intro) <;> go_simp)) (fun hHeld => ?_)
    refine wpAnyH_take (i := 0) (oi := ⟨some 112, _, _, _, _, _⟩) (v := ?_) rfl (by kernel_rfl) (by kernel_rfl) (by kernel_rfl) (fun _ _ _ h => h) (Or.inl ⟨by rfl, ?_⟩) (by assumption) ?_
    rotate_left
    · intro w hSw; (try dsimp only at hSw); go_simp; try with_reducible rfl
    try simp only [Act.put, List.setIfInBounds_toArray, List.set_cons_zero, List.set_cons_succ]
    refine wpAnyH_ready (rs := [1, 2]) (by kernel_rfl) (by simp) ?_
    refine AllReadyH.cons (o := ⟨some 113, _, _, _, _, _⟩) rfl (fun KK hKK => ?_) (AllReadyH.cons (o := ⟨some 114, _, _, _, _, _⟩) rfl (fun KK hKK => ?_) AllReadyH.nil)
    · go_simp
      (try go_wp2_with fail)
      refine hKK.out _ _ (by first | (go_keep; done) | ((repeat' apply And.intro) <;> go_simp)) (fun hHeld => ?_)
      clear hKK KK
      try simp only [Act.put, List.setIfInBounds_toArray, List.set_cons_zero, List.set_cons_succ]
      refine wpAnyH_ready (rs := [2]) (by kernel_rfl) (by simp) ?_
      refine AllReadyH.cons (o := ⟨some 114, _, _, _, _, _⟩) rfl (fun KK hKK => ?_) AllReadyH.nil
      go_simp
      refine Calls.mono (at_c 1 1 _) ?_
      rintro e wt19 ⟨rfl, hb⟩
      replace kf0 := cell_later hb (cell_al _ kf0)
      replace kf1 := cell_later hb (cell_al _ kf1)
      replace kf2 := cell_later hb (cell_al _ kf2)
      replace kf3 := cell_later hb (cell_al _ kf3)
      replace kf4 := cell_later hb (cell_al _ kf4)
      replace kf5 := cell_later hb (cell_al _ kf5)
      have kc0 : wt19.cell? ⟨wC.heap.size, 0, none⟩ = some (.int .i64 1) := cell_later hb (by go_simp)
      have kc1 : wt19.cell? ⟨wC.heap.size, 1, none⟩ = some (.int .i64 0) := cell_later hb (by go_simp)
      have kc2 : wt19.cell? ⟨wC.heap.size, 2, none⟩ = some (.int .i64 0) := cell_later hb (by go_simp)
      have kc3 : wt19.cell? ⟨wC.heap.size, 3, none⟩ = some (.int .i64 1) := cell_later hb (by go_simp)
      have kc4 : wt19.cell? ⟨wC.heap.size, 4, none⟩ = some (.int .i64 1) := cell_later hb (by go_simp)
      have kc5 : wt19.cell? ⟨wC.heap.size, 5, none⟩ = some (.int .i64 50) := cell_later hb (by go_simp)
      replace zf : w3.heap.size < wt19.heap.size := World.block_lt_of_cell? _ _ kf0
      have zf_wt19 := zf
      have zc : wC.heap.size < wt19.heap.size := World.block_lt_of_cell? _ _ kc0
      have zc_wt19 := zc
      replace hb0 : Below w.heap.size w wt19 := (by repeat (first | with_reducible exact Below.refl _ _ | with_reducible assumption | with_reducible refine Below.setCell ?_ (by first | omega | (simp <;> omega)) _ | with_reducible refine balloc ?_ _ | with_reducible refine Below.drew ?_ | with_reducible refine bstep ?_ (by with_reducible assumption)))
      have hs_wt19 := hb.size; (try simp only [World.size_alloc, World.size_setCell] at hs_wt19)
      clear hb
      (try go_wp2_with fail)
      refine hKK.out _ _ (by first | (go_keep; done) | ((repeat' apply And.intro) <;> go_simp)) (fun hHeld => ?_)
      clear hKK KK
      try simp only [Act.put, List.setIfInBounds_toArray, List.set_cons_zero, List.set_cons_succ]
      refine wpAnyH_ready (rs := [3]) (by kernel_rfl) (by simp) ?_
      refine AllReadyH.cons (o := ⟨some 115, _, _, _, _, _⟩) rfl (fun KK hKK => ?_) AllReadyH.nil
      go_simp
      refine Calls.mono (at_c 0 1 _) ?_
      rintro e wt20 ⟨rfl, hb⟩
      replace kf0 := cell_later hb kf0
      replace kf1 := cell_later hb kf1
      replace kf2 := cell_later hb kf2
      replace kf3 := cell_later hb kf3
      replace kf4 := cell_later hb kf4
      replace kf5 := cell_later hb kf5
      replace kc0 := cell_later hb kc0
      replace kc1 := cell_later hb kc1
      replace kc2 := cell_later hb kc2
      replace kc3 := cell_later hb kc3
      replace kc4 := cell_later hb kc4
      replace kc5 := cell_later hb kc5
      replace zf : w3.heap.size < wt20.heap.size := World.block_lt_of_cell? _ _ kf0
      have zf_wt20 := zf
      replace zc : wC.heap.size < wt20.heap.size := World.block_lt_of_cell? _ _ kc0
      have zc_wt20 := zc
      replace hb0 : Below w.heap.size w wt20 := (by repeat (first | with_reducible exact Below.refl _ _ | with_reducible assumption | with_reducible refine Below.setCell ?_ (by first | omega | (simp <;> omega)) _ | with_reducible refine balloc ?_ _ | with_reducible refine Below.drew ?_ | with_reducible refine bstep ?_ (by with_reducible assumption)))
      have hs_wt20 : wt19.heap.size ≤ wt20.heap.size := hb.size
      clear hb
      (try go_wp2_with fail)
      refine hKK.out _ _ (by first | (go_keep; done) | ((repeat' apply And.intro) <;> go_simp)) (fun hHeld => ?_)
      clear hKK KK
      try simp only [Act.put, List.setIfInBounds_toArray, List.set_cons_zero, List.set_cons_succ]
      refine wpAnyH_ready (rs := [4]) (by kernel_rfl) (by simp) ?_
      refine AllReadyH.cons (o := ⟨some 116, _, _, _, _, _⟩) rfl (fun KK hKK => ?_) AllReadyH.nil
      go_simp
      refine Calls.mono (arc_c 1 50 1 1 0 1 _) ?_
      rintro e wt21 ⟨rfl, hb⟩
      replace kf0 := cell_later hb kf0
      replace kf1 := cell_later hb kf1
      replace kf2 := cell_later hb kf2
      replace kf3 := cell_later hb kf3
      replace kf4 := cell_later hb kf4
      replace kf5 := cell_later hb kf5
      replace kc0 := cell_later hb kc0
      replace kc1 := cell_later hb kc1
      replace kc2 := cell_later hb kc2
      replace kc3 := cell_later hb kc3
      replace kc4 := cell_later hb kc4
      replace kc5 := cell_later hb kc5
      replace zf : w3.heap.size < wt21.heap.size := World.block_lt_of_cell? _ _ kf0
      have zf_wt21 := zf
      replace zc : wC.heap.size < wt21.heap.size := World.block_lt_of_cell? _ _ kc0
      have zc_wt21 := zc
      replace hb0 : Below w.heap.size w wt21 := (by repeat (first | with_reducible exact Below.refl _ _ | with_reducible assumption | with_reducible refine Below.setCell ?_ (by first | omega | (simp <;> omega)) _ | with_reducible refine balloc ?_ _ | with_reducible refine Below.drew ?_ | with_reducible refine bstep ?_ (by with_reducible assumption)))
      have hs_wt21 : wt20.heap.size ≤ wt21.heap.size := hb.size
      clear hb
      (try go_wp2_with fail)
      refine hKK.out _ _ (by first | (go_keep; done) | ((repeat' apply And.intro) <;> go_simp)) (fun hHeld => ?_)
      clear hKK KK
      try simp only [Act.put, List.setIfInBounds_toArray, List.set_cons_zero, List.set_cons_succ]
      refine wpAnyH_ready (rs := [5]) (by kernel_rfl) (by simp) ?_
      refine AllReadyH.cons (o := ⟨some 117, _, _, _, _, _⟩) rfl (fun KK hKK => ?_) AllReadyH.nil
      go_simp
      (try go_wp2_with fail)
      refine hKK.out _ _ (by first | (go_keep; done) | ((repeat' apply And.intro) <;> go_simp)) (fun hHeld => ?_)
      clear hKK KK
      try simp only [Act.put, List.setIfInBounds_toArray, List.set_cons_zero, List.set_cons_succ]
      refine wpAnyH_ready (rs := [6]) (by kernel_rfl) (by simp) ?_
      refine AllReadyH.cons (o := ⟨some 118, _, _, _, _, _⟩) rfl (fun KK hKK => ?_) AllReadyH.nil
      go_simp
      refine Calls.mono (HS1.out _ 0 0 _ _ (row_two (s := ⟨1, 0, 0, 1, 1, 50⟩) (by first | (with_reducible assumption) | go_simp) (by first | (with_reducible assumption) | go_simp) (by first | (with_reducible assumption) | go_simp) (by first | (with_reducible assumption) | go_simp) (by first | (with_reducible assumption) | go_simp) (by first | (with_reducible assumption) | go_simp)) (row_two (s := ⟨1, 1, 0, 1, 1, 50⟩) (by first | (with_reducible assumption) | go_simp) (by first | (with_reducible assumption) | go_simp) (by first | (with_reducible assumption) | go_simp) (by first | (with_reducible assumption) | go_simp) (by first | (with_reducible assumption) | go_simp) (by first | (with_reducible assumption) | go_simp))) ?_
      rintro e wt22 ⟨rfl, hb⟩
      replace kf0 := cell_later hb (cell_al _ kf0)
      replace kf1 := cell_later hb (cell_al _ kf1)
      replace kf2 := cell_later hb (cell_al _ kf2)
      replace kf3 := cell_later hb (cell_al _ kf3)
      replace kf4 := cell_later hb (cell_al _ kf4)
      replace kf5 := cell_later hb (cell_al _ kf5)
      replace kc0 := cell_later hb (cell_al _ kc0)
      replace kc1 := cell_later hb (cell_al _ kc1)
      replace kc2 := cell_later hb (cell_al _ kc2)
      replace kc3 := cell_later hb (cell_al _ kc3)
      replace kc4 := cell_later hb (cell_al _ kc4)
      replace kc5 := cell_later hb (cell_al _ kc5)
      have kd0 : wt22.cell? ⟨wt21.heap.size, 0, none⟩ = some (.int .i64 1) := cell_later hb (by go_simp)
      have kd1 : wt22.cell? ⟨wt21.heap.size, 1, none⟩ = some (.int .i64 1) := cell_later hb (by go_simp)
      have kd2 : wt22.cell? ⟨wt21.heap.size, 2, none⟩ = some (.int .i64 0) := cell_later hb (by go_simp)
      have kd3 : wt22.cell? ⟨wt21.heap.size, 3, none⟩ = some (.int .i64 1) := cell_later hb (by go_simp)
      have kd4 : wt22.cell? ⟨wt21.heap.size, 4, none⟩ = some (.int .i64 1) := cell_later hb (by go_simp)
      have kd5 : wt22.cell? ⟨wt21.heap.size, 5, none⟩ = some (.int .i64 50) := cell_later hb (by go_simp)
      replace zf : w3.heap.size < wt22.heap.size := World.block_lt_of_cell? _ _ kf0
      have zf_wt22 := zf
      replace zc : wC.heap.size < wt22.heap.size := World.block_lt_of_cell? _ _ kc0
      have zc_wt22 := zc
      have zd : wt21.heap.size < wt22.heap.size := World.block_lt_of_cell? _ _ kd0
      have zd_wt22 := zd
      replace hb0 : Below w.heap.size w wt22 := (by repeat (first | with_reducible exact Below.refl _ _ | with_reducible assumption | with_reducible refine Below.setCell ?_ (by first | omega | (simp <;> omega)) _ | with_reducible refine balloc ?_ _ | with_reducible refine Below.drew ?_ | with_reducible refine bstep ?_ (by with_reducible assumption)))
      have hs_wt22 := hb.size; (try simp only [World.size_alloc, World.size_setCell] at hs_wt22)
      clear hb
      (try go_wp2_with fail)
      refine hKK.out _ _ (by first | (go_keep; done) | ((repeat' apply And.intro) <;> go_simp)) (fun hHeld => ?_)
      clear hKK KK
      try simp only [Act.put, List.setIfInBounds_toArray, List.set_cons_zero, List.set_cons_succ]
      refine wpAnyH_take (i := 7) (oi := ⟨some 111, _, _, _, _, _⟩) (v := ?_) rfl (by kernel_rfl) (by kernel_rfl) (by kernel_rfl) (fun _ _ _ h => h) (Or.inl ⟨by rfl, ?_⟩) (by assumption) ?_
      rotate_left
      · intro w hSw; (try dsimp only at hSw); go_simp; try with_reducible rfl
      try simp only [Act.put, List.setIfInBounds_toArray, List.set_cons_zero, List.set_cons_succ]
      refine wpAnyH_take (i := 8) (oi := ⟨some 119, _, _, _, _, _⟩) (v := ?_) rfl (by kernel_rfl) (by kernel_rfl) (by kernel_rfl) (fun _ _ _ h => h) (Or.inl ⟨by rfl, ?_⟩) (by assumption) ?_
      rotate_left
      · intro w hSw; (try dsimp only at hSw); go_simp; try with_reducible rfl
      try simp only [Act.put, List.setIfInBounds_toArray, List.set_cons_zero, List.set_cons_succ]
      refine wpAnyH_take (i := 9) (oi := ⟨some 120, _, _, _, _, _⟩) (v := ?_) rfl (by kernel_rfl) (by kernel_rfl) (by kernel_rfl) (fun _ _ _ h => h) (Or.inl ⟨by rfl, ?_⟩) (by assumption) ?_
      rotate_left
      · intro w hSw; (try dsimp only at hSw); go_simp; try with_reducible rfl
      try simp only [Act.put, List.setIfInBounds_toArray, List.set_cons_zero, List.set_cons_succ]
      refine wpAnyH_take (i := 10) (oi := ⟨some 16, _, _, _, _, _⟩) (v := ?_) rfl (by kernel_rfl) (by kernel_rfl) (by kernel_rfl) (fun _ _ _ h => h) (Or.inl ⟨by rfl, ?_⟩) (by assumption) ?_
      rotate_left
      · intro w hSw; (try dsimp only at hSw); go_simp; try with_reducible rfl
      try simp only [Act.put, List.setIfInBounds_toArray, List.set_cons_zero, List.set_cons_succ]
      refine wpAnyH_take (i := 11) (oi := ⟨some 17, _, _, _, _, _⟩) (v := ?_) rfl (by kernel_rfl) (by kernel_rfl) (by kernel_rfl) (fun _ _ _ h => h) (Or.inl ⟨by rfl, ?_⟩) (by assumption) ?_
      rotate_left
      · intro w hSw; (try dsimp only at hSw); go_simp; try with_reducible rfl
      try simp only [Act.put, List.setIfInBounds_toArray, List.set_cons_zero, List.set_cons_succ]
      refine wpAnyH_done (by kernel_rfl) ?_ _
      (try dsimp only [Exit.then, Met])
      go_wp2_with fail
      go_meet
      refine ⟨rfl, rfl, ?_, ?_, ?_, ?_, ?_, ?_, (by repeat (first | with_reducible exact Below.refl _ _ | with_reducible assumption | with_reducible refine Below.setCell ?_ (by first | omega | (simp <;> omega)) _ | with_reducible refine balloc ?_ _ | with_reducible refine Below.drew ?_ | with_reducible refine bstep ?_ (by with_reducible assumption)))⟩
      all_goals first | (with_reducible assumption) | go_simp
    · go_simp
      refine Calls.mono (at_c 1 1 _) ?_
      rintro e wt19 ⟨rfl, hb⟩
      replace kf0 := cell_later hb kf0
      replace kf1 := cell_later hb kf1
      replace kf2 := cell_later hb kf2
      replace kf3 := cell_later hb kf3
      replace kf4 := cell_later hb kf4
      replace kf5 := cell_later hb kf5
      replace zf : w3.heap.size < wt19.heap.size := World.block_lt_of_cell? _ _ kf0
      have zf_wt19 := zf
      replace hb0 : Below w.heap.size w wt19 := (by repeat (first | with_reducible exact Below.refl _ _ | with_reducible assumption | with_reducible refine Below.setCell ?_ (by first | omega | (simp <;> omega)) _ | with_reducible refine balloc ?_ _ | with_reducible refine Below.drew ?_ | with_reducible refine bstep ?_ (by with_reducible assumption)))
      have hs_wt19 : wC.heap.size ≤ wt19.heap.size := hb.size
      clear hb
      (try go_wp2_with fail)
      refine hKK.out _ _ (by first | (go_keep; done) | ((repeat' apply And.intro) <;> go_simp)) (fun hHeld => ?_)
      clear hKK KK
      try simp only [Act.put, List.setIfInBounds_toArray, List.set_cons_zero, List.set_cons_succ]
      refine wpAnyH_ready (rs := [1, 3]) (by kernel_rfl) (by simp) ?_
      refine AllReadyH.cons (o := ⟨some 113, _, _, _, _, _⟩) rfl (fun KK hKK => ?_) (AllReadyH.cons (o := ⟨some 115, _, _, _, _, _⟩) rfl (fun KK hKK => ?_) AllReadyH.nil)
      · go_simp
        (try go_wp2_with fail)
        refine hKK.out _ _ (by first | (go_keep; done) | ((repeat' apply And.intro) <;> go_simp)) (fun hHeld => ?_)
        clear hKK KK
        try simp only [Act.put, List.setIfInBounds_toArray, List.set_cons_zero, List.set_cons_succ]
        refine wpAnyH_ready (rs := [3]) (by kernel_rfl) (by simp) ?_
        refine AllReadyH.cons (o := ⟨some 115, _, _, _, _, _⟩) rfl (fun KK hKK => ?_) AllReadyH.nil
        go_simp
        refine Calls.mono (at_c 0 1 _) ?_
        rintro e wt20 ⟨rfl, hb⟩
        replace kf0 := cell_later hb (cell_al _ kf0)
        replace kf1 := cell_later hb (cell_al _ kf1)
        replace kf2 := cell_later hb (cell_al _ kf2)
        replace kf3 := cell_later hb (cell_al _ kf3)
        replace kf4 := cell_later hb (cell_al _ kf4)
        replace kf5 := cell_later hb (cell_al _ kf5)
        have kc0 : wt20.cell? ⟨wt19.heap.size, 0, none⟩ = some (.int .i64 1) := cell_later hb (by go_simp)
        have kc1 : wt20.cell? ⟨wt19.heap.size, 1, none⟩ = some (.int .i64 0) := cell_later hb (by go_simp)
        have kc2 : wt20.cell? ⟨wt19.heap.size, 2, none⟩ = some (.int .i64 0) := cell_later hb (by go_simp)
        have kc3 : wt20.cell? ⟨wt19.heap.size, 3, none⟩ = some (.int .i64 1) := cell_later hb (by go_simp)
        have kc4 : wt20.cell? ⟨wt19.heap.size, 4, none⟩ = some (.int .i64 1) := cell_later hb (by go_simp)
        have kc5 : wt20.cell? ⟨wt19.heap.size, 5, none⟩ = some (.int .i64 50) := cell_later hb (by go_simp)
        replace zf : w3.heap.size < wt20.heap.size := World.block_lt_of_cell? _ _ kf0
        have zf_wt20 := zf
        have zc : wt19.heap.size < wt20.heap.size := World.block_lt_of_cell? _ _ kc0
        have zc_wt20 := zc
        replace hb0 : Below w.heap.size w wt20 := (by repeat (first | with_reducible exact Below.refl _ _ | with_reducible assumption | with_reducible refine Below.setCell ?_ (by first | omega | (simp <;> omega)) _ | with_reducible refine balloc ?_ _ | with_reducible refine Below.drew ?_ | with_reducible refine bstep ?_ (by with_reducible assumption)))
        have hs_wt20 := hb.size; (try simp only [World.size_alloc, World.size_setCell] at hs_wt20)
        clear hb
        (try go_wp2_with fail)
        refine hKK.out _ _ (by first | (go_keep; done) | ((repeat' apply And.intro) <;> go_simp)) (fun hHeld => ?_)
        clear hKK KK
        try simp only [Act.put, List.setIfInBounds_toArray, List.set_cons_zero, List.set_cons_succ]
        refine wpAnyH_ready (rs := [4]) (by kernel_rfl) (by simp) ?_
        refine AllReadyH.cons (o := ⟨some 116, _, _, _, _, _⟩) rfl (fun KK hKK => ?_) AllReadyH.nil
        go_simp
        refine Calls.mono (arc_c 1 50 1 1 0 1 _) ?_
        rintro e wt21 ⟨rfl, hb⟩
        replace kf0 := cell_later hb kf0
        replace kf1 := cell_later hb kf1
        replace kf2 := cell_later hb kf2
        replace kf3 := cell_later hb kf3
        replace kf4 := cell_later hb kf4
        replace kf5 := cell_later hb kf5
        replace kc0 := cell_later hb kc0
        replace kc1 := cell_later hb kc1
        replace kc2 := cell_later hb kc2
        replace kc3 := cell_later hb kc3
        replace kc4 := cell_later hb kc4
        replace kc5 := cell_later hb kc5
        replace zf : w3.heap.size < wt21.heap.size := World.block_lt_of_cell? _ _ kf0
        have zf_wt21 := zf
        replace zc : wt19.heap.size < wt21.heap.size := World.block_lt_of_cell? _ _ kc0
        have zc_wt21 := zc
        replace hb0 : Below w.heap.size w wt21 := (by repeat (first | with_reducible exact Below.refl _ _ | with_reducible assumption | with_reducible refine Below.setCell ?_ (by first | omega | (simp <;> omega)) _ | with_reducible refine balloc ?_ _ | with_reducible refine Below.drew ?_ | with_reducible refine bstep ?_ (by with_reducible assumption)))
        have hs_wt21 : wt20.heap.size ≤ wt21.heap.size := hb.size
        clear hb
        (try go_wp2_with fail)
        refine hKK.out _ _ (by first | (go_keep; done) | ((repeat' apply And.intro) <;> go_simp)) (fun hHeld => ?_)
        clear hKK KK
        try simp only [Act.put, List.setIfInBounds_toArray, List.set_cons_zero, List.set_cons_succ]
        refine wpAnyH_ready (rs := [5]) (by kernel_rfl) (by simp) ?_
        refine AllReadyH.cons (o := ⟨some 117, _, _, _, _, _⟩) rfl (fun KK hKK => ?_) AllReadyH.nil
        go_simp
        (try go_wp2_with fail)
        refine hKK.out _ _ (by first | (go_keep; done) | ((repeat' apply And.intro) <;> go_simp)) (fun hHeld => ?_)
        clear hKK KK
        try simp only [Act.put, List.setIfInBounds_toArray, List.set_cons_zero, List.set_cons_succ]
        refine wpAnyH_ready (rs := [6]) (by kernel_rfl) (by simp) ?_
        refine AllReadyH.cons (o := ⟨some 118, _, _, _, _, _⟩) rfl (fun KK hKK => ?_) AllReadyH.nil
        go_simp
        refine Calls.mono (HS1.out _ 0 0 _ _ (row_two (s := ⟨1, 0, 0, 1, 1, 50⟩) (by first | (with_reducible assumption) | go_simp) (by first | (with_reducible assumption) | go_simp) (by first | (with_reducible assumption) | go_simp) (by first | (with_reducible assumption) | go_simp) (by first | (with_reducible assumption) | go_simp) (by first | (with_reducible assumption) | go_simp)) (row_two (s := ⟨1, 1, 0, 1, 1, 50⟩) (by first | (with_reducible assumption) | go_simp) (by first | (with_reducible assumption) | go_simp) (by first | (with_reducible assumption) | go_simp) (by first | (with_reducible assumption) | go_simp) (by first | (with_reducible assumption) | go_simp) (by first | (with_reducible assumption) | go_simp))) ?_
        rintro e wt22 ⟨rfl, hb⟩
        replace kf0 := cell_later hb (cell_al _ kf0)
        replace kf1 := cell_later hb (cell_al _ kf1)
        replace kf2 := cell_later hb (cell_al _ kf2)
        replace kf3 := cell_later hb (cell_al _ kf3)
        replace kf4 := cell_later hb (cell_al _ kf4)
        replace kf5 := cell_later hb (cell_al _ kf5)
        replace kc0 := cell_later hb (cell_al _ kc0)
        replace kc1 := cell_later hb (cell_al _ kc1)
        replace kc2 := cell_later hb (cell_al _ kc2)
        replace kc3 := cell_later hb (cell_al _ kc3)
        replace kc4 := cell_later hb (cell_al _ kc4)
        replace kc5 := cell_later hb (cell_al _ kc5)
        have kd0 : wt22.cell? ⟨wt21.heap.size, 0, none⟩ = some (.int .i64 1) := cell_later hb (by go_simp)
        have kd1 : wt22.cell? ⟨wt21.heap.size, 1, none⟩ = some (.int .i64 1) := cell_later hb (by go_simp)
        have kd2 : wt22.cell? ⟨wt21.heap.size, 2, none⟩ = some (.int .i64 0) := cell_later hb (by go_simp)
        have kd3 : wt22.cell? ⟨wt21.heap.size, 3, none⟩ = some (.int .i64 1) := cell_later hb (by go_simp)
        have kd4 : wt22.cell? ⟨wt21.heap.size, 4, none⟩ = some (.int .i64 1) := cell_later hb (by go_simp)
        have kd5 : wt22.cell? ⟨wt21.heap.size, 5, none⟩ = some (.int .i64 50) := cell_later hb (by go_simp)
        replace zf : w3.heap.size < wt22.heap.size := World.block_lt_of_cell? _ _ kf0
        have zf_wt22 := zf
        replace zc : wt19.heap.size < wt22.heap.size := World.block_lt_of_cell? _ _ kc0
        have zc_wt22 := zc
        have zd : wt21.heap.size < wt22.heap.size := World.block_lt_of_cell? _ _ kd0
        have zd_wt22 := zd
        replace hb0 : Below w.heap.size w wt22 := (by repeat (first | with_reducible exact Below.refl _ _ | with_reducible assumption | with_reducible refine Below.setCell ?_ (by first | omega | (simp <;> omega)) _ | with_reducible refine balloc ?_ _ | with_reducible refine Below.drew ?_ | with_reducible refine bstep ?_ (by with_reducible assumption)))
        have hs_wt22 := hb.size; (try simp only [World.size_alloc, World.size_setCell] at hs_wt22)
        clear hb
        (try go_wp2_with fail)
        refine hKK.out _ _ (by first | (go_keep; done) | ((repeat' apply And.intro) <;> go_simp)) (fun hHeld => ?_)
        clear hKK KK
        try simp only [Act.put, List.setIfInBounds_toArray, List.set_cons_zero, List.set_cons_succ]
        refine wpAnyH_take (i := 7) (oi := ⟨some 111, _, _, _, _, _⟩) (v := ?_) rfl (by kernel_rfl) (by kernel_rfl) (by kernel_rfl) (fun _ _ _ h => h) (Or.inl ⟨by rfl, ?_⟩) (by assumption) ?_
        rotate_left
        · intro w hSw; (try dsimp only at hSw); go_simp; try with_reducible rfl
        try simp only [Act.put, List.setIfInBounds_toArray, List.set_cons_zero, List.set_cons_succ]
        refine wpAnyH_take (i := 8) (oi := ⟨some 119, _, _, _, _, _⟩) (v := ?_) rfl (by kernel_rfl) (by kernel_rfl) (by kernel_rfl) (fun _ _ _ h => h) (Or.inl ⟨by rfl, ?_⟩) (by assumption) ?_
        rotate_left
        · intro w hSw; (try dsimp only at hSw); go_simp; try with_reducible rfl
        try simp only [Act.put, List.setIfInBounds_toArray, List.set_cons_zero, List.set_cons_succ]
        refine wpAnyH_take (i := 9) (oi := ⟨some 120, _, _, _, _, _⟩) (v := ?_) rfl (by kernel_rfl) (by kernel_rfl) (by kernel_rfl) (fun _ _ _ h => h) (Or.inl ⟨by rfl, ?_⟩) (by assumption) ?_
        rotate_left
        · intro w hSw; (try dsimp only at hSw); go_simp; try with_reducible rfl
        try simp only [Act.put, List.setIfInBounds_toArray, List.set_cons_zero, List.set_cons_succ]
        refine wpAnyH_take (i := 10) (oi := ⟨some 16, _, _, _, _, _⟩) (v := ?_) rfl (by kernel_rfl) (by kernel_rfl) (by kernel_rfl) (fun _ _ _ h => h) (Or.inl ⟨by rfl, ?_⟩) (by assumption) ?_
        rotate_left
        · intro w hSw; (try dsimp only at hSw); go_simp; try with_reducible rfl
        try simp only [Act.put, List.setIfInBounds_toArray, List.set_cons_zero, List.set_cons_succ]
        refine wpAnyH_take (i := 11) (oi := ⟨some 17, _, _, _, _, _⟩) (v := ?_) rfl (by kernel_rfl) (by kernel_rfl) (by kernel_rfl) (fun _ _ _ h => h) (Or.inl ⟨by rfl, ?_⟩) (by assumption) ?_
        rotate_left
        · intro w hSw; (try dsimp only at hSw); go_simp; try with_reducible rfl
        try simp only [Act.put, List.setIfInBounds_toArray, List.set_cons_zero, List.set_cons_succ]
        refine wpAnyH_done (by kernel_rfl) ?_ _
        (try dsimp only [Exit.then, Met])
        go_wp2_with fail
        go_meet
        refine ⟨rfl, rfl, ?_, ?_, ?_, ?_, ?_, ?_, (by repeat (first | with_reducible exact Below.refl _ _ | with_reducible assumption | with_reducible refine Below.setCell ?_ (by first | omega | (simp <;> omega)) _ | with_reducible refine balloc ?_ _ | with_reducible refine Below.drew ?_ | with_reducible refine bstep ?_ (by with_reducible assumption)))⟩
        all_goals first | (with_reducible assumption) | go_simp
      · go_simp
        refine Calls.mono (at_c 0 1 _) ?_
        rintro e wt20 ⟨rfl, hb⟩
        replace kf0 := cell_later hb kf0
        replace kf1 := cell_later hb kf1
        replace kf2 := cell_later hb kf2
        replace kf3 := cell_later hb kf3
        replace kf4 := cell_later hb kf4
        replace kf5 := cell_later hb kf5
        replace zf : w3.heap.size < wt20.heap.size := World.block_lt_of_cell? _ _ kf0
        have zf_wt20 := zf
        replace hb0 : Below w.heap.size w wt20 := (by repeat (first | with_reducible exact Below.refl _ _ | with_reducible assumption | with_reducible refine Below.setCell ?_ (by first | omega | (simp <;> omega)) _ | with_reducible refine balloc ?_ _ | with_reducible refine Below.drew ?_ | with_reducible refine bstep ?_ (by with_reducible assumption)))
        have hs_wt20 : wt19.heap.size ≤ wt20.heap.size := hb.size
        clear hb
        (try go_wp2_with fail)
        refine hKK.out _ _ (by first | (go_keep; done) | ((repeat' apply And.intro) <;> go_simp)) (fun hHeld => ?_)
        clear hKK KK
        try simp only [Act.put, List.setIfInBounds_toArray, List.set_cons_zero, List.set_cons_succ]
        refine wpAnyH_ready (rs := [1, 4]) (by kernel_rfl) (by simp) ?_
        refine AllReadyH.cons (o := ⟨some 113, _, _, _, _, _⟩) rfl (fun KK hKK => ?_) (AllReadyH.cons (o := ⟨some 116, _, _, _, _, _⟩) rfl (fun KK hKK => ?_) AllReadyH.nil)
        · go_simp
          (try go_wp2_with fail)
          refine hKK.out _ _ (by first | (go_keep; done) | ((repeat' apply And.intro) <;> go_simp)) (fun hHeld => ?_)
          clear hKK KK
          try simp only [Act.put, List.setIfInBounds_toArray, List.set_cons_zero, List.set_cons_succ]
          refine wpAnyH_ready (rs := [4]) (by kernel_rfl) (by simp) ?_
          refine AllReadyH.cons (o := ⟨some 116, _, _, _, _, _⟩) rfl (fun KK hKK => ?_) AllReadyH.nil
          go_simp
          refine Calls.mono (arc_c 1 50 1 1 0 1 _) ?_
          rintro e wt21 ⟨rfl, hb⟩
          replace kf0 := cell_later hb (cell_al _ kf0)
          replace kf1 := cell_later hb (cell_al _ kf1)
          replace kf2 := cell_later hb (cell_al _ kf2)
          replace kf3 := cell_later hb (cell_al _ kf3)
          replace kf4 := cell_later hb (cell_al _ kf4)
          replace kf5 := cell_later hb (cell_al _ kf5)
          have kc0 : wt21.cell? ⟨wt20.heap.size, 0, none⟩ = some (.int .i64 1) := cell_later hb (by go_simp)
          have kc1 : wt21.cell? ⟨wt20.heap.size, 1, none⟩ = some (.int .i64 0) := cell_later hb (by go_simp)
          have kc2 : wt21.cell? ⟨wt20.heap.size, 2, none⟩ = some (.int .i64 0) := cell_later hb (by go_simp)
          have kc3 : wt21.cell? ⟨wt20.heap.size, 3, none⟩ = some (.int .i64 1) := cell_later hb (by go_simp)
          have kc4 : wt21.cell? ⟨wt20.heap.size, 4, none⟩ = some (.int .i64 1) := cell_later hb (by go_simp)
          have kc5 : wt21.cell? ⟨wt20.heap.size, 5, none⟩ = some (.int .i64 50) := cell_later hb (by go_simp)
          replace zf : w3.heap.size < wt21.heap.size := World.block_lt_of_cell? _ _ kf0
          have zf_wt21 := zf
          have zc : wt20.heap.size < wt21.heap.size := World.block_lt_of_cell? _ _ kc0
          have zc_wt21 := zc
          replace hb0 : Below w.heap.size w wt21 := (by repeat (first | with_reducible exact Below.refl _ _ | with_reducible assumption | with_reducible refine Below.setCell ?_ (by first | omega | (simp <;> omega)) _ | with_reducible refine balloc ?_ _ | with_reducible refine Below.drew ?_ | with_reducible refine bstep ?_ (by with_reducible assumption)))
          have hs_wt21 := hb.size; (try simp only [World.size_alloc, World.size_setCell] at hs_wt21)
          clear hb
          (try go_wp2_with fail)
          refine hKK.out _ _ (by first | (go_keep; done) | ((repeat' apply And.intro) <;> go_simp)) (fun hHeld => ?_)
          clear hKK KK
          try simp only [Act.put, List.setIfInBounds_toArray, List.set_cons_zero, List.set_cons_succ]
          refine wpAnyH_ready (rs := [5]) (by kernel_rfl) (by simp) ?_
          refine AllReadyH.cons (o := ⟨some 117, _, _, _, _, _⟩) rfl (fun KK hKK => ?_) AllReadyH.nil
          go_simp
          (try go_wp2_with fail)
          refine hKK.out _ _ (by first | (go_keep; done) | ((repeat' apply And.intro) <;> go_simp)) (fun hHeld => ?_)
          clear hKK KK
          try simp only [Act.put, List.setIfInBounds_toArray, List.set_cons_zero, List.set_cons_succ]
          refine wpAnyH_ready (rs := [6]) (by kernel_rfl) (by simp) ?_
          refine AllReadyH.cons (o := ⟨some 118, _, _, _, _, _⟩) rfl (fun KK hKK => ?_) AllReadyH.nil
          go_simp
          refine Calls.mono (HS1.out _ 0 0 _ _ (row_two (s := ⟨1, 0, 0, 1, 1, 50⟩) (by first | (with_reducible assumption) | go_simp) (by first | (with_reducible assumption) | go_simp) (by first | (with_reducible assumption) | go_simp) (by first | (with_reducible assumption) | go_simp) (by first | (with_reducible assumption) | go_simp) (by first | (with_reducible assumption) | go_simp)) (row_two (s := ⟨1, 1, 0, 1, 1, 50⟩) (by first | (with_reducible assumption) | go_simp) (by first | (with_reducible assumption) | go_simp) (by first | (with_reducible assumption) | go_simp) (by first | (with_reducible assumption) | go_simp) (by first | (with_reducible assumption) | go_simp) (by first | (with_reducible assumption) | go_simp))) ?_
          rintro e wt22 ⟨rfl, hb⟩
          replace kf0 := cell_later hb (cell_al _ kf0)
          replace kf1 := cell_later hb (cell_al _ kf1)
          replace kf2 := cell_later hb (cell_al _ kf2)
          replace kf3 := cell_later hb (cell_al _ kf3)
          replace kf4 := cell_later hb (cell_al _ kf4)
          replace kf5 := cell_later hb (cell_al _ kf5)
          replace kc0 := cell_later hb (cell_al _ kc0)
          replace kc1 := cell_later hb (cell_al _ kc1)
          replace kc2 := cell_later hb (cell_al _ kc2)
          replace kc3 := cell_later hb (cell_al _ kc3)
          replace kc4 := cell_later hb (cell_al _ kc4)
          replace kc5 := cell_later hb (cell_al _ kc5)
          have kd0 : wt22.cell? ⟨wt21.heap.size, 0, none⟩ = some (.int .i64 1) := cell_later hb (by go_simp)
          have kd1 : wt22.cell? ⟨wt21.heap.size, 1, none⟩ = some (.int .i64 1) := cell_later hb (by go_simp)
          have kd2 : wt22.cell? ⟨wt21.heap.size, 2, none⟩ = some (.int .i64 0) := cell_later hb (by go_simp)
          have kd3 : wt22.cell? ⟨wt21.heap.size, 3, none⟩ = some (.int .i64 1) := cell_later hb (by go_simp)
          have kd4 : wt22.cell? ⟨wt21.heap.size, 4, none⟩ = some (.int .i64 1) := cell_later hb (by go_simp)
          have kd5 : wt22.cell? ⟨wt21.heap.size, 5, none⟩ = some (.int .i64 50) := cell_later hb (by go_simp)
          replace zf : w3.heap.size < wt22.heap.size := World.block_lt_of_cell? _ _ kf0
          have zf_wt22 := zf
          replace zc : wt20.heap.size < wt22.heap.size := World.block_lt_of_cell? _ _ kc0
          have zc_wt22 := zc
          have zd : wt21.heap.size < wt22.heap.size := World.block_lt_of_cell? _ _ kd0
          have zd_wt22 := zd
          replace hb0 : Below w.heap.size w wt22 := (by repeat (first | with_reducible exact Below.refl _ _ | with_reducible assumption | with_reducible refine Below.setCell ?_ (by first | omega | (simp <;> omega)) _ | with_reducible refine balloc ?_ _ | with_reducible refine Below.drew ?_ | with_reducible refine bstep ?_ (by with_reducible assumption)))
          have hs_wt22 := hb.size; (try simp only [World.size_alloc, World.size_setCell] at hs_wt22)
          clear hb
          (try go_wp2_with fail)
          refine hKK.out _ _ (by first | (go_keep; done) | ((repeat' apply And.intro) <;> go_simp)) (fun hHeld => ?_)
          clear hKK KK
          try simp only [Act.put, List.setIfInBounds_toArray, List.set_cons_zero, List.set_cons_succ]
          refine wpAnyH_take (i := 7) (oi := ⟨some 111, _, _, _, _, _⟩) (v := ?_) rfl (by kernel_rfl) (by kernel_rfl) (by kernel_rfl) (fun _ _ _ h => h) (Or.inl ⟨by rfl, ?_⟩) (by assumption) ?_
          rotate_left
          · intro w hSw; (try dsimp only at hSw); go_simp; try with_reducible rfl
          try simp only [Act.put, List.setIfInBounds_toArray, List.set_cons_zero, List.set_cons_succ]
          refine wpAnyH_take (i := 8) (oi := ⟨some 119, _, _, _, _, _⟩) (v := ?_) rfl (by kernel_rfl) (by kernel_rfl) (by kernel_rfl) (fun _ _ _ h => h) (Or.inl ⟨by rfl, ?_⟩) (by assumption) ?_
          rotate_left
          · intro w hSw; (try dsimp only at hSw); go_simp; try with_reducible rfl
          try simp only [Act.put, List.setIfInBounds_toArray, List.set_cons_zero, List.set_cons_succ]
          refine wpAnyH_take (i := 9) (oi := ⟨some 120, _, _, _, _, _⟩) (v := ?_) rfl (by kernel_rfl) (by kernel_rfl) (by kernel_rfl) (fun _ _ _ h => h) (Or.inl ⟨by rfl, ?_⟩) (by assumption) ?_
          rotate_left
          · intro w hSw; (try dsimp only at hSw); go_simp; try with_reducible rfl
          try simp only [Act.put, List.setIfInBounds_toArray, List.set_cons_zero, List.set_cons_succ]
          refine wpAnyH_take (i := 10) (oi := ⟨some 16, _, _, _, _, _⟩) (v := ?_) rfl (by kernel_rfl) (by kernel_rfl) (by kernel_rfl) (fun _ _ _ h => h) (Or.inl ⟨by rfl, ?_⟩) (by assumption) ?_
          rotate_left
          · intro w hSw; (try dsimp only at hSw); go_simp; try with_reducible rfl
          try simp only [Act.put, List.setIfInBounds_toArray, List.set_cons_zero, List.set_cons_succ]
          refine wpAnyH_take (i := 11) (oi := ⟨some 17, _, _, _, _, _⟩) (v := ?_) rfl (by kernel_rfl) (by kernel_rfl) (by kernel_rfl) (fun _ _ _ h => h) (Or.inl ⟨by rfl, ?_⟩) (by assumption) ?_
          rotate_left
          · intro w hSw; (try dsimp only at hSw); go_simp; try with_reducible rfl
          try simp only [Act.put, List.setIfInBounds_toArray, List.set_cons_zero, List.set_cons_succ]
          refine wpAnyH_done (by kernel_rfl) ?_ _
          (try dsimp only [Exit.then, Met])
          go_wp2_with fail
          go_meet
          refine ⟨rfl, rfl, ?_, ?_, ?_, ?_, ?_, ?_, (by repeat (first | with_reducible exact Below.refl _ _ | with_reducible assumption | with_reducible refine Below.setCell ?_ (by first | omega | (simp <;> omega)) _ | with_reducible refine balloc ?_ _ | with_reducible refine Below.drew ?_ | with_reducible refine bstep ?_ (by with_reducible assumption)))⟩
          all_goals first | (with_reducible assumption) | go_simp
        · go_simp
          refine Calls.mono (arc_c 1 50 1 1 0 1 _) ?_
          rintro e wt21 ⟨rfl, hb⟩
          replace kf0 := cell_later hb kf0
          replace kf1 := cell_later hb kf1
          replace kf2 := cell_later hb kf2
          replace kf3 := cell_later hb kf3
          replace kf4 := cell_later hb kf4
          replace kf5 := cell_later hb kf5
          replace zf : w3.heap.size < wt21.heap.size := World.block_lt_of_cell? _ _ kf0
          have zf_wt21 := zf
          replace hb0 : Below w.heap.size w wt21 := (by repeat (first | with_reducible exact Below.refl _ _ | with_reducible assumption | with_reducible refine Below.setCell ?_ (by first | omega | (simp <;> omega)) _ | with_reducible refine balloc ?_ _ | with_reducible refine Below.drew ?_ | with_reducible refine bstep ?_ (by with_reducible assumption)))
          have hs_wt21 : wt20.heap.size ≤ wt21.heap.size := hb.size
          clear hb
          (try go_wp2_with fail)
          refine hKK.out _ _ (by first | (go_keep; done) | ((repeat' apply And.intro) <;> go_simp)) (fun hHeld => ?_)
          clear hKK KK
          try simp only [Act.put, List.setIfInBounds_toArray, List.set_cons_zero, List.set_cons_succ]
          refine wpAnyH_ready (rs := [1, 5]) (by kernel_rfl) (by simp) ?_
          refine AllReadyH.cons (o := ⟨some 113, _, _, _, _, _⟩) rfl (fun KK hKK => ?_) (AllReadyH.cons (o := ⟨some 117, _, _, _, _, _⟩) rfl (fun KK hKK => ?_) AllReadyH.nil)
          · go_simp
            (try go_wp2_with fail)
            refine hKK.out _ _ (by first | (go_keep; done) | ((repeat' apply And.intro) <;> go_simp)) (fun hHeld => ?_)
            clear hKK KK
            try simp only [Act.put, List.setIfInBounds_toArray, List.set_cons_zero, List.set_cons_succ]
            refine wpAnyH_ready (rs := [5]) (by kernel_rfl) (by simp) ?_
            refine AllReadyH.cons (o := ⟨some 117, _, _, _, _, _⟩) rfl (fun KK hKK => ?_) AllReadyH.nil
            go_simp
            (try go_wp2_with fail)
            refine hKK.out _ _ (by first | (go_keep; done) | ((repeat' apply And.intro) <;> go_simp)) (fun hHeld => ?_)
            clear hKK KK
            try simp only [Act.put, List.setIfInBounds_toArray, List.set_cons_zero, List.set_cons_succ]
            refine wpAnyH_ready (rs := [6]) (by kernel_rfl) (by simp) ?_
            refine AllReadyH.cons (o := ⟨some 118, _, _, _, _, _⟩) rfl (fun KK hKK => ?_) AllReadyH.nil
            go_simp
            refine Calls.mono (HS1.out _ 0 0 _ _ (row_two (s := ⟨1, 0, 0, 1, 1, 50⟩) (by first | (with_reducible assumption) | go_simp) (by first | (with_reducible assumption) | go_simp) (by first | (with_reducible assumption) | go_simp) (by first | (with_reducible assumption) | go_simp) (by first | (with_reducible assumption) | go_simp) (by first | (with_reducible assumption) | go_simp)) (row_two (s := ⟨1, 1, 0, 1, 1, 50⟩) (by first | (with_reducible assumption) | go_simp) (by first | (with_reducible assumption) | go_simp) (by first | (with_reducible assumption) | go_simp) (by first | (with_reducible assumption) | go_simp) (by first | (with_reducible assumption) | go_simp) (by first | (with_reducible assumption) | go_simp))) ?_
            rintro e wt22 ⟨rfl, hb⟩
            replace kf0 := cell_later hb (cell_al _ (cell_al _ kf0))
            replace kf1 := cell_later hb (cell_al _ (cell_al _ kf1))
            replace kf2 := cell_later hb (cell_al _ (cell_al _ kf2))
            replace kf3 := cell_later hb (cell_al _ (cell_al _ kf3))
            replace kf4 := cell_later hb (cell_al _ (cell_al _ kf4))
            replace kf5 := cell_later hb (cell_al _ (cell_al _ kf5))
            have kc0 : wt22.cell? ⟨wt21.heap.size, 0, none⟩ = some (.int .i64 1) := cell_later hb (by go_simp)
            have kc1 : wt22.cell? ⟨wt21.heap.size, 1, none⟩ = some (.int .i64 0) := cell_later hb (by go_simp)
            have kc2 : wt22.cell? ⟨wt21.heap.size, 2, none⟩ = some (.int .i64 0) := cell_later hb (by go_simp)
            have kc3 : wt22.cell? ⟨wt21.heap.size, 3, none⟩ = some (.int .i64 1) := cell_later hb (by go_simp)
            have kc4 : wt22.cell? ⟨wt21.heap.size, 4, none⟩ = some (.int .i64 1) := cell_later hb (by go_simp)
            have kc5 : wt22.cell? ⟨wt21.heap.size, 5, none⟩ = some (.int .i64 50) := cell_later hb (by go_simp)
            have kd0 : wt22.cell? ⟨wt21.heap.size + 1, 0, none⟩ = some (.int .i64 1) := cell_later hb (by go_simp)
            have kd1 : wt22.cell? ⟨wt21.heap.size + 1, 1, none⟩ = some (.int .i64 1) := cell_later hb (by go_simp)
            have kd2 : wt22.cell? ⟨wt21.heap.size + 1, 2, none⟩ = some (.int .i64 0) := cell_later hb (by go_simp)
            have kd3 : wt22.cell? ⟨wt21.heap.size + 1, 3, none⟩ = some (.int .i64 1) := cell_later hb (by go_simp)
            have kd4 : wt22.cell? ⟨wt21.heap.size + 1, 4, none⟩ = some (.int .i64 1) := cell_later hb (by go_simp)
            have kd5 : wt22.cell? ⟨wt21.heap.size + 1, 5, none⟩ = some (.int .i64 50) := cell_later hb (by go_simp)
            replace zf : w3.heap.size < wt22.heap.size := World.block_lt_of_cell? _ _ kf0
            have zf_wt22 := zf
            have zc : wt21.heap.size < wt22.heap.size := World.block_lt_of_cell? _ _ kc0
            have zc_wt22 := zc
            have zd : wt21.heap.size + 1 < wt22.heap.size := World.block_lt_of_cell? _ _ kd0
            have zd_wt22 := zd
            replace hb0 : Below w.heap.size w wt22 := (by repeat (first | with_reducible exact Below.refl _ _ | with_reducible assumption | with_reducible refine Below.setCell ?_ (by first | omega | (simp <;> omega)) _ | with_reducible refine balloc ?_ _ | with_reducible refine Below.drew ?_ | with_reducible refine bstep ?_ (by with_reducible assumption)))
            have hs_wt22 := hb.size; (try simp only [World.size_alloc, World.size_setCell] at hs_wt22)
            clear hb
            (try go_wp2_with fail)
            refine hKK.out _ _ (by first | (go_keep; done) | ((repeat' apply And.intro) <;> go_simp)) (fun hHeld => ?_)
            clear hKK KK
            try simp only [Act.put, List.setIfInBounds_toArray, List.set_cons_zero, List.set_cons_succ]
            refine wpAnyH_take (i := 7) (oi := ⟨some 111, _, _, _, _, _⟩) (v := ?_) rfl (by kernel_rfl) (by kernel_rfl) (by kernel_rfl) (fun _ _ _ h => h) (Or.inl ⟨by rfl, ?_⟩) (by assumption) ?_
            rotate_left
            · intro w hSw; (try dsimp only at hSw); go_simp; try with_reducible rfl
            try simp only [Act.put, List.setIfInBounds_toArray, List.set_cons_zero, List.set_cons_succ]
            refine wpAnyH_take (i := 8) (oi := ⟨some 119, _, _, _, _, _⟩) (v := ?_) rfl (by kernel_rfl) (by kernel_rfl) (by kernel_rfl) (fun _ _ _ h => h) (Or.inl ⟨by rfl, ?_⟩) (by assumption) ?_
            rotate_left
            · intro w hSw; (try dsimp only at hSw); go_simp; try with_reducible rfl
            try simp only [Act.put, List.setIfInBounds_toArray, List.set_cons_zero, List.set_cons_succ]
            refine wpAnyH_take (i := 9) (oi := ⟨some 120, _, _, _, _, _⟩) (v := ?_) rfl (by kernel_rfl) (by kernel_rfl) (by kernel_rfl) (fun _ _ _ h => h) (Or.inl ⟨by rfl, ?_⟩) (by assumption) ?_
            rotate_left
            · intro w hSw; (try dsimp only at hSw); go_simp; try with_reducible rfl
            try simp only [Act.put, List.setIfInBounds_toArray, List.set_cons_zero, List.set_cons_succ]
            refine wpAnyH_take (i := 10) (oi := ⟨some 16, _, _, _, _, _⟩) (v := ?_) rfl (by kernel_rfl) (by kernel_rfl) (by kernel_rfl) (fun _ _ _ h => h) (Or.inl ⟨by rfl, ?_⟩) (by assumption) ?_
            rotate_left
            · intro w hSw; (try dsimp only at hSw); go_simp; try with_reducible rfl
            try simp only [Act.put, List.setIfInBounds_toArray, List.set_cons_zero, List.set_cons_succ]
            refine wpAnyH_take (i := 11) (oi := ⟨some 17, _, _, _, _, _⟩) (v := ?_) rfl (by kernel_rfl) (by kernel_rfl) (by kernel_rfl) (fun _ _ _ h => h) (Or.inl ⟨by rfl, ?_⟩) (by assumption) ?_
            rotate_left
            · intro w hSw; (try dsimp only at hSw); go_simp; try with_reducible rfl
            try simp only [Act.put, List.setIfInBounds_toArray, List.set_cons_zero, List.set_cons_succ]
            refine wpAnyH_done (by kernel_rfl) ?_ _
            (try dsimp only [Exit.then, Met])
            go_wp2_with fail
            go_meet
            refine ⟨rfl, rfl, ?_, ?_, ?_, ?_, ?_, ?_, (by repeat (first | with_reducible exact Below.refl _ _ | with_reducible assumption | with_reducible refine Below.setCell ?_ (by first | omega | (simp <;> omega)) _ | with_reducible refine balloc ?_ _ | with_reducible refine Below.drew ?_ | with_reducible refine bstep ?_ (by with_reducible assumption)))⟩
            all_goals first | (with_reducible assumption) | go_simp
          · go_simp
            (try go_wp2_with fail)
            refine hKK.out _ _ (by first | (go_keep; done) | ((repeat' apply And.intro) <;> go_simp)) (fun hHeld => ?_)
            clear hKK KK
            try simp only [Act.put, List.setIfInBounds_toArray, List.set_cons_zero, List.set_cons_succ]
            refine wpAnyH_ready (rs := [1]) (by kernel_rfl) (by simp) ?_
            refine AllReadyH.cons (o := ⟨some 113, _, _, _, _, _⟩) rfl (fun KK hKK => ?_) AllReadyH.nil
            go_simp
            (try go_wp2_with fail)
            refine hKK.out _ _ (by first | (go_keep; done) | ((repeat' apply And.intro) <;> go_simp)) (fun hHeld => ?_)
            clear hKK KK
            try simp only [Act.put, List.setIfInBounds_toArray, List.set_cons_zero, List.set_cons_succ]
            refine wpAnyH_ready (rs := [6]) (by kernel_rfl) (by simp) ?_
            refine AllReadyH.cons (o := ⟨some 118, _, _, _, _, _⟩) rfl (fun KK hKK => ?_) AllReadyH.nil
            go_simp
            refine Calls.mono (HS1.out _ 0 0 _ _ (row_two (s := ⟨1, 0, 0, 1, 1, 50⟩) (by first | (with_reducible assumption) | go_simp) (by first | (with_reducible assumption) | go_simp) (by first | (with_reducible assumption) | go_simp) (by first | (with_reducible assumption) | go_simp) (by first | (with_reducible assumption) | go_simp) (by first | (with_reducible assumption) | go_simp)) (row_two (s := ⟨1, 1, 0, 1, 1, 50⟩) (by first | (with_reducible assumption) | go_simp) (by first | (with_reducible assumption) | go_simp) (by first | (with_reducible assumption) | go_simp) (by first | (with_reducible assumption) | go_simp) (by first | (with_reducible assumption) | go_simp) (by first | (with_reducible assumption) | go_simp))) ?_
            rintro e wt22 ⟨rfl, hb⟩
            replace kf0 := cell_later hb (cell_al _ (cell_al _ kf0))
            replace kf1 := cell_later hb (cell_al _ (cell_al _ kf1))
            replace kf2 := cell_later hb (cell_al _ (cell_al _ kf2))
            replace kf3 := cell_later hb (cell_al _ (cell_al _ kf3))
            replace kf4 := cell_later hb (cell_al _ (cell_al _ kf4))
            replace kf5 := cell_later hb (cell_al _ (cell_al _ kf5))
            have kd0 : wt22.cell? ⟨wt21.heap.size, 0, none⟩ = some (.int .i64 1) := cell_later hb (by go_simp)
            have kd1 : wt22.cell? ⟨wt21.heap.size, 1, none⟩ = some (.int .i64 1) := cell_later hb (by go_simp)
            have kd2 : wt22.cell? ⟨wt21.heap.size, 2, none⟩ = some (.int .i64 0) := cell_later hb (by go_simp)
            have kd3 : wt22.cell? ⟨wt21.heap.size, 3, none⟩ = some (.int .i64 1) := cell_later hb (by go_simp)
            have kd4 : wt22.cell? ⟨wt21.heap.size, 4, none⟩ = some (.int .i64 1) := cell_later hb (by go_simp)
            have kd5 : wt22.cell? ⟨wt21.heap.size, 5, none⟩ = some (.int .i64 50) := cell_later hb (by go_simp)
            have kc0 : wt22.cell? ⟨wt21.heap.size + 1, 0, none⟩ = some (.int .i64 1) := cell_later hb (by go_simp)
            have kc1 : wt22.cell? ⟨wt21.heap.size + 1, 1, none⟩ = some (.int .i64 0) := cell_later hb (by go_simp)
            have kc2 : wt22.cell? ⟨wt21.heap.size + 1, 2, none⟩ = some (.int .i64 0) := cell_later hb (by go_simp)
            have kc3 : wt22.cell? ⟨wt21.heap.size + 1, 3, none⟩ = some (.int .i64 1) := cell_later hb (by go_simp)
            have kc4 : wt22.cell? ⟨wt21.heap.size + 1, 4, none⟩ = some (.int .i64 1) := cell_later hb (by go_simp)
            have kc5 : wt22.cell? ⟨wt21.heap.size + 1, 5, none⟩ = some (.int .i64 50) := cell_later hb (by go_simp)
            replace zf : w3.heap.size < wt22.heap.size := World.block_lt_of_cell? _ _ kf0
            have zf_wt22 := zf
            have zd : wt21.heap.size < wt22.heap.size := World.block_lt_of_cell? _ _ kd0
            have zd_wt22 := zd
            have zc : wt21.heap.size + 1 < wt22.heap.size := World.block_lt_of_cell? _ _ kc0
            have zc_wt22 := zc
            replace hb0 : Below w.heap.size w wt22 := (by repeat (first | with_reducible exact Below.refl _ _ | with_reducible assumption | with_reducible refine Below.setCell ?_ (by first | omega | (simp <;> omega)) _ | with_reducible refine balloc ?_ _ | with_reducible refine Below.drew ?_ | with_reducible refine bstep ?_ (by with_reducible assumption)))
            have hs_wt22 := hb.size; (try simp only [World.size_alloc, World.size_setCell] at hs_wt22)
            clear hb
            (try go_wp2_with fail)
            refine hKK.out _ _ (by first | (go_keep; done) | ((repeat' apply And.intro) <;> go_simp)) (fun hHeld => ?_)
            clear hKK KK
            try simp only [Act.put, List.setIfInBounds_toArray, List.set_cons_zero, List.set_cons_succ]
            refine wpAnyH_take (i := 7) (oi := ⟨some 111, _, _, _, _, _⟩) (v := ?_) rfl (by kernel_rfl) (by kernel_rfl) (by kernel_rfl) (fun _ _ _ h => h) (Or.inl ⟨by rfl, ?_⟩) (by assumption) ?_
            rotate_left
            · intro w hSw; (try dsimp only at hSw); go_simp; try with_reducible rfl
            try simp only [Act.put, List.setIfInBounds_toArray, List.set_cons_zero, List.set_cons_succ]
            refine wpAnyH_take (i := 8) (oi := ⟨some 119, _, _, _, _, _⟩) (v := ?_) rfl (by kernel_rfl) (by kernel_rfl) (by kernel_rfl) (fun _ _ _ h => h) (Or.inl ⟨by rfl, ?_⟩) (by assumption) ?_
            rotate_left
            · intro w hSw; (try dsimp only at hSw); go_simp; try with_reducible rfl
            try simp only [Act.put, List.setIfInBounds_toArray, List.set_cons_zero, List.set_cons_succ]
            refine wpAnyH_take (i := 9) (oi := ⟨some 120, _, _, _, _, _⟩) (v := ?_) rfl (by kernel_rfl) (by kernel_rfl) (by kernel_rfl) (fun _ _ _ h => h) (Or.inl ⟨by rfl, ?_⟩) (by assumption) ?_
            rotate_left
            · intro w hSw; (try dsimp only at hSw); go_simp; try with_reducible rfl
            try simp only [Act.put, List.setIfInBounds_toArray, List.set_cons_zero, List.set_cons_succ]
            refine wpAnyH_take (i := 10) (oi := ⟨some 16, _, _, _, _, _⟩) (v := ?_) rfl (by kernel_rfl) (by kernel_rfl) (by kernel_rfl) (fun _ _ _ h => h) (Or.inl ⟨by rfl, ?_⟩) (by assumption) ?_
            rotate_left
            · intro w hSw; (try dsimp only at hSw); go_simp; try with_reducible rfl
            try simp only [Act.put, List.setIfInBounds_toArray, List.set_cons_zero, List.set_cons_succ]
            refine wpAnyH_take (i := 11) (oi := ⟨some 17, _, _, _, _, _⟩) (v := ?_) rfl (by kernel_rfl) (by kernel_rfl) (by kernel_rfl) (fun _ _ _ h => h) (Or.inl ⟨by rfl, ?_⟩) (by assumption) ?_
            rotate_left
            · intro w hSw; (try dsimp only at hSw); go_simp; try with_reducible rfl
            try simp only [Act.put, List.setIfInBounds_toArray, List.set_cons_zero, List.set_cons_succ]
            refine wpAnyH_done (by kernel_rfl) ?_ _
            (try dsimp only [Exit.then, Met])
            go_wp2_with fail
            go_meet
            refine ⟨rfl, rfl, ?_, ?_, ?_, ?_, ?_, ?_, (by repeat (first | with_reducible exact Below.refl _ _ | with_reducible assumption | with_reducible refine Below.setCell ?_ (by first | omega | (simp <;> omega)) _ | with_reducible refine balloc ?_ _ | with_reducible refine Below.drew ?_ | with_reducible refine bstep ?_ (by with_reducible assumption)))⟩
            all_goals first | (with_reducible assumption) | go_simp
  case rest =>
    rename World => wD
    obtain ⟨rfl, rfl, kf0, kf1, kf2, kf3, kf4, kf5, hb0⟩ := hcut
    have zf : w3.heap.size < wD.heap.size := World.block_lt_of_cell? _ _ kf0
    have zf_wD := zf
    rename_i K hK
    have hs3 : w.heap.size ≤ w3.heap.size := by first | assumption | omega
    revert K wD u26 u27 u28 u29 u30 u31 u32 u33 u34 u35 u36 u37 u38 u39 u40 u41 u42 u43 u44 u45 u46 u47 u48 u49 u50 u51 u52 u53 u54 u55 u56 u57 u58 u59 u60 u61 u62 u63 u64 u65 u66 u67 u68 u69 u70 u71 u72 u73 u74 u75 u76 u77 u78 u79 u80 u81 u82 u83 u84 u85 u86 u87 u88 u89 u90 u91 u92 u93 u94 u95 u96 u97 u98 u99 u100 u101 u102 u103 u104 u105 u106 u107 u108 u109 u110 u111 u112 u113 u114 u115 u116 u117 u118 u119 u120 u121 u122 u123 u124 u125 u126 u127 u128 u129 u130 u131 u132 u133 u134 u135 u136 u137 u138 u139 u140 u141 u142 u143 u144 u145 u146 u147 u148 u149 u150 u151 u152 u153 u154 u155 u156 u157 u158 u159 u160 u161 u162 u163 u164 u165 u166 u167 u168 u169 u170 u171 u172 u173 u174 u175 u176 u177 u178 u179 u180 u181 u182 u183 u184 u185 u186 u187 u188 u189 u190 u191 u192 u193 u194 u195 u196 u197 u198 u199 u200 u201 u202 u203 u204 u205 u206 u207 u208 u209 u210 u211 u212 u213 u214 u215 u216 u217 u218 u219 kf0 kf1 kf2 kf3 kf4 kf5 hb0 zf zf_wD hs3
    generalize w3 = w3
    revert w3
    exact q.out)


end Go.Proofs.Ytpadkmlckmopfaa.Se

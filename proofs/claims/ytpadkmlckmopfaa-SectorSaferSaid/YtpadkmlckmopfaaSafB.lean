/- SafB: safer lights. -/
import Derived.Test.YtpadkmlckmopfaaSafA
import Derived.Test.YtpadkmlckmopfaaSecJ
import Derived.Test.YtpadkmlckmopfaaRows
import Derived.WalkKit
import Derived.WalkSpells
import Derived.WalkLawsBesides
import Derived.Lib.Hide
import Derived.Deep.QuietTactic
import Derived.BigQuiet
import Derived.RegionTactic
import Derived.ChangeAlike
import Derived.BigRegion
import Derived.Deep.RegionHeld3
import Derived.Deep.RegionWith
import Derived.Outline
import Derived.IntWalk
import Derived.Deep.DeepCutAuto
import Derived.LoopTactic
import Derived.OwnWalk
import Derived.Laws.OwnMore
import Derived.RangeFuncBox
import Derived.RangeFuncNested
namespace Go.Proofs.Ytpadkmlckmopfaa.Se
open Go.RowKit
set_option linter.unusedSimpArgs false
set_option linter.unusedVariables false

set_option maxRecDepth 100000 in
set_option maxHeartbeats 12800000 in
theorem safer_ok (va vb : Value) (l m : List Sec) (v1 v2 : Int) (w : World) (ha : Secs w va l) (hb : Secs w vb m) (hd : ∀ W, Calls Try.prog 11 #[] W (Ret W (.bool true))) (hl : vaL l = true) (hm : vaL m = true) : Calls Try.prog 7 #[va, vb, (.agg #[.int .i64 v1, .int .i64 v2])] w (Ret w (.bool true)) := by
  have HA := Lib.hid ha
  have HB := Lib.hid hb
  have HD := Lib.hid hd
  have AL : allS l := fun i hi => (vaL_all hl).2 i hi
  have AM : allS m := fun i hi => (vaL_all hm).2 i hi
  have l12 := (vaL_all hl).1
  have m12 := (vaL_all hm).1
  have HAL := Lib.hid AL
  have HAM := Lib.hid AM
  have HVL := Lib.hid hl
  have HVM := Lib.hid hm
  have hlen := tuL_length (l ++ m)
  rw [List.length_append] at hlen
  obtain ⟨N, hN⟩ : ∃ N, (tuL (l ++ m)).length = N := ⟨_, rfl⟩
  rw [hN] at hlen
  have HN := Lib.hid hN
  obtain ⟨n1, hn1⟩ : ∃ n, N + 1 = n := ⟨_, rfl⟩
  have HN1 := Lib.hid hn1
  have CS := fun W k1 k2 => Safer_ok va vb l m W k1 k2 hl hm
  obtain ⟨s0, hs0⟩ : ∃ s, (!hoL m l 1) = s := ⟨_, rfl⟩
  rw [hs0] at CS
  have HS0 := Lib.hid hs0
  have hn50 : n1 ≤ 50 := by omega
  clear hlen
  obtain ⟨i0, hi, hz0, hz1, hz2⟩ := info_partsT info_pT
  have HI := Lib.hid hi
  clear hi ha hb hd AL AM hl hm hN hs0
  go_enter Try.func7, Try.ntmps7
  go_wp2_with fail
  refine Calls.mono (HD.out _) ?_
  rintro e w1 ⟨rfl, hb⟩
  have kv0 : w1.cell? ⟨w.heap.size, 0, none⟩ = some (.int .i64 v1) := cell_later hb (by go_simp)
  have kv1 : w1.cell? ⟨w.heap.size, 1, none⟩ = some (.int .i64 v2) := cell_later hb (by go_simp)
  have zv : w.heap.size < w1.heap.size := World.block_lt_of_cell? _ _ kv0
  have hb0 : Below w.heap.size w w1 := bstep (balloc (Below.refl _ _) _) hb
  clear hb
  go_wp2_with fail
  refine Calls.mono (CS _ (HA.out.below hb0) (HB.out.below hb0)) ?_
  rintro e w2 ⟨rfl, hb⟩
  replace kv0 := cell_later hb kv0
  replace kv1 := cell_later hb kv1
  replace zv : w.heap.size < w2.heap.size := World.block_lt_of_cell? _ _ kv0
  replace hb0 : Below w.heap.size w w2 := bstep hb0 hb
  clear hb
  clear CS
  go_upto_region 6 with fail
  go_cut [11] (fun s11 wx => ∃ g c : Nat, s11 = .slice (some ⟨g, 0, none⟩) n1 c ∧ wx.ownsRow (w.heap.size + 1) 24 2 (.slice (some ⟨g, 0, none⟩) n1 c) n1 (flT (tuL (l ++ m) ++ [(v1, v2)])) ∧ Below w.heap.size w wx)
  case first =>
    go_wp2_with fail
    refine wp_region_held_drew (S := fun w' => w'.cell? ⟨w.heap.size, 0, none⟩ = some (.int .i64 v1) ∧ w'.cell? ⟨w.heap.size, 1, none⟩ = some (.int .i64 v2)) (by kernel_rfl) (by first | (go_keep; done) | ((repeat' apply And.intro) <;> go_simp)) (fun hHeld => ?_)
    refine wpAnyH_take (i := 0) (oi := ⟨some 44, _, _, _, _, _⟩) (v := ?_) rfl (by kernel_rfl) (by kernel_rfl) (by kernel_rfl) (fun _ _ _ h => h) (Or.inl ⟨by rfl, ?_⟩) (by assumption) ?_
    rotate_left
    · intro w hSw; (try dsimp only at hSw); go_simp; try with_reducible rfl
    try simp only [Act.put, List.setIfInBounds_toArray, List.set_cons_zero, List.set_cons_succ]
    refine wpAnyH_take (i := 1) (oi := ⟨some 45, _, _, _, _, _⟩) (v := ?_) rfl (by kernel_rfl) (by kernel_rfl) (by kernel_rfl) (fun _ _ _ h => h) (Or.inl ⟨by rfl, ?_⟩) (by assumption) ?_
    rotate_left
    · intro w hSw; (try dsimp only at hSw); go_simp; try with_reducible rfl
    try simp only [Act.put, List.setIfInBounds_toArray, List.set_cons_zero, List.set_cons_succ]
    refine wpAnyH_take (i := 3) (oi := ⟨some 47, _, _, _, _, _⟩) (v := ?_) rfl (by kernel_rfl) (by kernel_rfl) (by kernel_rfl) (fun _ _ _ h => h) (Or.inl ⟨by rfl, ?_⟩) (by assumption) ?_
    rotate_left
    · intro w hSw; (try dsimp only at hSw); go_simp; try with_reducible rfl
    try simp only [Act.put, List.setIfInBounds_toArray, List.set_cons_zero, List.set_cons_succ]
    refine wpAnyH_ready (rs := [2, 4]) (by kernel_rfl) (by simp) ?_
    refine AllReadyH.cons (o := ⟨some 46, _, _, _, _, _⟩) rfl (fun KK hKK => ?_) (AllReadyH.cons (o := ⟨some 48, _, _, _, _, _⟩) rfl (fun KK hKK => ?_) AllReadyH.nil)
    · go_simp
      refine Calls.mono (rturns_c _ _ l m _ (HA.out.below (by repeat (first | with_reducible exact Below.refl _ _ | with_reducible assumption | with_reducible refine Below.setCell ?_ (by first | omega | (simp <;> omega)) _ | with_reducible refine balloc ?_ _ | with_reducible refine Below.drew ?_ | with_reducible refine bstep ?_ (by with_reducible assumption)))) (HB.out.below (by repeat (first | with_reducible exact Below.refl _ _ | with_reducible assumption | with_reducible refine Below.setCell ?_ (by first | omega | (simp <;> omega)) _ | with_reducible refine balloc ?_ _ | with_reducible refine Below.drew ?_ | with_reducible refine bstep ?_ (by with_reducible assumption)))) l12 m12) ?_
      rintro e wt ⟨u9, rfl, hown, hbt⟩
      have q0 := cell_later hbt (kv0)
      have q1 := cell_later hbt (kv1)
      have hbW : Below w.heap.size w wt := (by repeat (first | with_reducible exact Below.refl _ _ | with_reducible assumption | with_reducible refine Below.setCell ?_ (by first | omega | (simp <;> omega)) _ | with_reducible refine balloc ?_ _ | with_reducible refine Below.drew ?_ | with_reducible refine bstep ?_ (by with_reducible assumption)))
      have hd9 : w2.drew.heap.size = w2.heap.size := rfl
      have hszt := hbt.size
      have hszu : w.heap.size + 1 ≤ wt.heap.size := by omega
      have own1 : wt.ownsRow (w.heap.size + 1) 24 2 u9 N (flT (tuL (l ++ m))) := by
        have h := hown
        rw [HN.out] at h
        exact own_baseT h (by omega)
      (try go_wp2_with fail)
      refine hKK.out _ _ (by first | (go_keep; done) | ((repeat' apply And.intro) <;> go_simp)) (fun hHeld => ?_)
      clear hKK KK
      try simp only [Act.put, List.setIfInBounds_toArray, List.set_cons_zero, List.set_cons_succ]
      refine wpAnyH_ready (rs := [4]) (by kernel_rfl) (by simp) ?_
      refine AllReadyH.cons (o := ⟨some 48, _, _, _, _, _⟩) rfl (fun KK hKK => ?_) AllReadyH.nil
      go_simp
      (try go_wp2_with fail)
      refine hKK.out _ _ (by first | (go_keep; done) | ((repeat' apply And.intro) <;> go_simp)) (fun hHeld => ?_)
      clear hKK KK
      try simp only [Act.put, List.setIfInBounds_toArray, List.set_cons_zero, List.set_cons_succ]
      refine wpAnyH_ready (rs := [5]) (by kernel_rfl) (by simp) ?_
      refine AllReadyH.cons (o := ⟨some 49, _, _, _, _, _⟩) rfl (fun KK hKK => ?_) AllReadyH.nil
      refine wp_append_own _ _ _ 48 rfl (w.heap.size + 1) 24 i0 (.agg #[(.int .i64 0), (.int .i64 0)]) 2 16 Try.underlying48 HI.out hz0 hz1 hz2 rfl (by decide) _ _ _ (by rfl) (own1.alloc _) ⟨wt.heap.size, 0, none⟩ 1 1 [(.int .i64 v1), (.int .i64 v2)] (by rfl) rfl (twoT_new _ _ _ _) (by simp [Value.oneCell']) (by unfold maxLen; omega) (by omega) (by (try simp only [World.size_alloc]); omega) ?_
      intro v9 w9 hown1 hgrow1 _
      have hR9 := below_appT (B := w.heap.size + 1) (show Below (w.heap.size + 1) wt wt from Below.refl _ _) hszu own1 hgrow1
      have HR9 := Lib.hid (hbW.trans (hR9.mono (by omega)))
      have r0 := (hR9.cell (p := ⟨w.heap.size, 0, none⟩) (by simp)).trans q0
      have r1 := (hR9.cell (p := ⟨w.heap.size, 1, none⟩) (by simp)).trans q1
      clear hR9
      have own9 : w9.ownsRow (w.heap.size + 1) 24 2 v9 n1 (flT (tuL (l ++ m) ++ [(v1, v2)])) := by
        rw [← HN1.out, flT_app]
        exact hown1
      rw [← HN1.out] at own9
      obtain ⟨g9, c9, rfl⟩ := ownsRow_succ own9
      rw [HN1.out] at own9
      have HO9 := Lib.hid own9
      clear own9 hown1 hgrow1
      (try go_wp2_with fail)
      refine hKK.out _ _ (by first | (go_keep; done) | ((repeat' apply And.intro) <;> go_simp)) (fun hHeld => ?_)
      clear hKK KK
      try simp only [Act.put, List.setIfInBounds_toArray, List.set_cons_zero, List.set_cons_succ]
      refine wpAnyH_take (i := 6) (oi := ⟨some 11, _, _, _, _, _⟩) (v := ?_) rfl (by kernel_rfl) (by kernel_rfl) (by kernel_rfl) (fun _ _ _ h => h) (Or.inl ⟨by rfl, ?_⟩) (by assumption) ?_
      rotate_left
      · intro w hSw; (try dsimp only at hSw); go_simp; try with_reducible rfl
      try simp only [Act.put, List.setIfInBounds_toArray, List.set_cons_zero, List.set_cons_succ]
      refine wpAnyH_done (by kernel_rfl) ?_ _
      (try dsimp only [Exit.then, Met])
      go_wp2_with fail
      go_meet
      exact ⟨g9, c9, by first | rfl | rw [HN1.out], HO9.out, HR9.out⟩
    · go_simp
      (try go_wp2_with fail)
      refine hKK.out _ _ (by first | (go_keep; done) | ((repeat' apply And.intro) <;> go_simp)) (fun hHeld => ?_)
      clear hKK KK
      try simp only [Act.put, List.setIfInBounds_toArray, List.set_cons_zero, List.set_cons_succ]
      refine wpAnyH_ready (rs := [2]) (by kernel_rfl) (by simp) ?_
      refine AllReadyH.cons (o := ⟨some 46, _, _, _, _, _⟩) rfl (fun KK hKK => ?_) AllReadyH.nil
      go_simp
      refine Calls.mono (rturns_c _ _ l m _ (HA.out.below (by repeat (first | with_reducible exact Below.refl _ _ | with_reducible assumption | with_reducible refine Below.setCell ?_ (by first | omega | (simp <;> omega)) _ | with_reducible refine balloc ?_ _ | with_reducible refine Below.drew ?_ | with_reducible refine bstep ?_ (by with_reducible assumption)))) (HB.out.below (by repeat (first | with_reducible exact Below.refl _ _ | with_reducible assumption | with_reducible refine Below.setCell ?_ (by first | omega | (simp <;> omega)) _ | with_reducible refine balloc ?_ _ | with_reducible refine Below.drew ?_ | with_reducible refine bstep ?_ (by with_reducible assumption)))) l12 m12) ?_
      rintro e wt ⟨u9, rfl, hown, hbt⟩
      have q0 := cell_later hbt (cell_al _ (kv0))
      have q1 := cell_later hbt (cell_al _ (kv1))
      have hbW : Below w.heap.size w wt := (by repeat (first | with_reducible exact Below.refl _ _ | with_reducible assumption | with_reducible refine Below.setCell ?_ (by first | omega | (simp <;> omega)) _ | with_reducible refine balloc ?_ _ | with_reducible refine Below.drew ?_ | with_reducible refine bstep ?_ (by with_reducible assumption)))
      have hd9 : (w2.alloc (.cells #[(.int .i64 v1), (.int .i64 v2)] 24)).drew.heap.size = w2.heap.size + 1 := by
        show (w2.alloc _).heap.size = _
        simp
      have hszt := hbt.size
      have hszu : w.heap.size + 1 ≤ wt.heap.size := by omega
      have own1 : wt.ownsRow (w.heap.size + 1) 24 2 u9 N (flT (tuL (l ++ m))) := by
        have h := hown
        rw [HN.out] at h
        exact own_baseT h (by omega)
      have y0 : wt.cell? ⟨w2.heap.size, 0, none⟩ = some (.int .i64 v1) := cell_later hbt (by go_simp)
      have y1 : wt.cell? ⟨w2.heap.size, 1, none⟩ = some (.int .i64 v2) := cell_later hbt (by go_simp)
      (try go_wp2_with fail)
      refine hKK.out _ _ (by first | (go_keep; done) | ((repeat' apply And.intro) <;> go_simp)) (fun hHeld => ?_)
      clear hKK KK
      try simp only [Act.put, List.setIfInBounds_toArray, List.set_cons_zero, List.set_cons_succ]
      refine wpAnyH_ready (rs := [5]) (by kernel_rfl) (by simp) ?_
      refine AllReadyH.cons (o := ⟨some 49, _, _, _, _, _⟩) rfl (fun KK hKK => ?_) AllReadyH.nil
      refine wp_append_own _ _ _ 48 rfl (w.heap.size + 1) 24 i0 (.agg #[(.int .i64 0), (.int .i64 0)]) 2 16 Try.underlying48 HI.out hz0 hz1 hz2 rfl (by decide) _ _ _ (by rfl) own1 ⟨w2.heap.size, 0, none⟩ 1 1 [(.int .i64 v1), (.int .i64 v2)] (by rfl) rfl (fun j u h => by match j, h with | 0, h => (simp at h; subst h; simpa [Addr.add] using y0) | 1, h => (simp at h; subst h; simpa [Addr.add] using y1)) (by simp [Value.oneCell']) (by unfold maxLen; omega) (by omega) (by (try simp only [World.size_alloc]); omega) ?_
      intro v9 w9 hown1 hgrow1 _
      have hR9 := below_app2 (Below.refl (w.heap.size + 1) wt) own1 hszu hgrow1
      have HR9 := Lib.hid (hbW.trans (hR9.mono (by omega)))
      have r0 := (hR9.cell (p := ⟨w.heap.size, 0, none⟩) (by simp)).trans q0
      have r1 := (hR9.cell (p := ⟨w.heap.size, 1, none⟩) (by simp)).trans q1
      clear hR9
      have own9 : w9.ownsRow (w.heap.size + 1) 24 2 v9 n1 (flT (tuL (l ++ m) ++ [(v1, v2)])) := by
        rw [← HN1.out, flT_app]
        exact hown1
      rw [← HN1.out] at own9
      obtain ⟨g9, c9, rfl⟩ := ownsRow_succ own9
      rw [HN1.out] at own9
      have HO9 := Lib.hid own9
      clear own9 hown1 hgrow1
      (try go_wp2_with fail)
      refine hKK.out _ _ (by first | (go_keep; done) | ((repeat' apply And.intro) <;> go_simp)) (fun hHeld => ?_)
      clear hKK KK
      try simp only [Act.put, List.setIfInBounds_toArray, List.set_cons_zero, List.set_cons_succ]
      refine wpAnyH_take (i := 6) (oi := ⟨some 11, _, _, _, _, _⟩) (v := ?_) rfl (by kernel_rfl) (by kernel_rfl) (by kernel_rfl) (fun _ _ _ h => h) (Or.inl ⟨by rfl, ?_⟩) (by assumption) ?_
      rotate_left
      · intro w hSw; (try dsimp only at hSw); go_simp; try with_reducible rfl
      try simp only [Act.put, List.setIfInBounds_toArray, List.set_cons_zero, List.set_cons_succ]
      refine wpAnyH_done (by kernel_rfl) ?_ _
      (try dsimp only [Exit.then, Met])
      go_wp2_with fail
      go_meet
      exact ⟨g9, c9, by first | rfl | rw [HN1.out], HO9.out, HR9.out⟩
  case rest =>
    obtain ⟨g, c9, rfl, hown, hbc⟩ := hcut
    obtain ⟨hg1, hg2⟩ := hown.lt g rfl
    have HOWN := Lib.hid hown
    have HBC := Lib.hid hbc
    have hwc : w.heap.size ≤ wc.heap.size := by omega
    clear hown hbc hb0 kv0 kv1 zv
    go_wp2
    go_loopw [7, 10, 12] (fun u7 u10 u12 wr => ∃ k : Nat, u12 = (.int .i64 k) ∧ k ≤ n1 ∧ u7 = (.bool true) ∧ (∃ fb : Bool, u10 = (.bool fb) ∧ Hid (fb = sfK l m (tuL (l ++ m)) (min k N))) ∧ Below wc.heap.size wc wr) (fun _ _ i _ => n1 - (intOf i).toNat)
    case atStart => exact ⟨0, rfl, by omega, rfl, ⟨false, rfl, Lib.hid (by simp [sfK])⟩, Below.refl _ _⟩
    case round =>
      obtain ⟨k, rfl, hk, rfl, ⟨fb, rfl, HF⟩, hbel⟩ := hrel
      have hbw : Below w.heap.size w wr := HBC.out.trans (hbel.mono hwc)
      by_cases hlt : k < n1
      · have hTl : (tuL (l ++ m) ++ [(v1, v2)]).length = n1 := by rw [List.length_append, HN.out]; exact HN1.out
        have o0 := HOWN.out.cellAt (k * 2) (by omega)
        have o1 := HOWN.out.cellAt (k * 2 + 1) (by omega)
        obtain ⟨e0, e1⟩ := flT_get (tuL (l ++ m) ++ [(v1, v2)]) k (by rw [hTl]; exact hlt)
        rw [e0] at o0
        rw [e1] at o1
        have p0 := (hbel.cell (p := ⟨g, k * 2, none⟩) hg2).trans o0
        have p1 := (hbel.cell (p := ⟨g, k * 2 + 1, none⟩) hg2).trans o1
        have hgr : g < wr.heap.size := by have := hbel.size; omega
        clear o0 o1 e0 e1
        obtain ⟨x1, hx1⟩ : ∃ x, (gv (tuL (l ++ m) ++ [(v1, v2)]) k).1 = x := ⟨_, rfl⟩
        obtain ⟨x2, hx2⟩ : ∃ x, (gv (tuL (l ++ m) ++ [(v1, v2)]) k).2 = x := ⟨_, rfl⟩
        rw [hx1] at p0
        rw [hx2] at p1
        have HT := Lib.hid (show gv (tuL (l ++ m) ++ [(v1, v2)]) k = (x1, x2) from Prod.ext hx1 hx2)
        have HBW := Lib.hid hbw
        have HBE := Lib.hid hbel
        clear hx1 hx2 hbw hbel hTl
        have ww1 : wrap64 ((n1 : Int) - 1) = (N : Int) := by have := HN1.out; exact (IntWalk.wrap64_in _ (by omega)).trans (by omega)
        have ww2 : IntKind.i64.wrap ((n1 : Int) - 1) = (N : Int) := by have := HN1.out; exact (IntWalk.i64_in _ (by omega)).trans (by omega)
        by_cases hkN : k < N
        · have ht : gv (tuL (l ++ m)) k = (x1, x2) := by rw [← HT.out]; exact (gv_app (by rw [HN.out]; exact hkN)).symm
          have okt : okD (x1, x2) = true := by rw [← ht]; exact tuL_ok (allS_app2 HAL.out HAM.out) (gv_mem (by rw [HN.out]; exact hkN))
          have HIN := Lib.hid (show sfV l m (x1, x2) = true → s0 = true from fun h => HS0.out.symm.trans (sf_in (k := k) (by rw [HN.out]; exact hkN) (by rw [ht]; exact h)))
          have HK1 := Lib.hid (show ∀ y, sfV l m (x1, x2) = y → (fb || y) = sfK l m (tuL (l ++ m)) (min (k + 1) N) from fun y h => by rw [Nat.min_eq_left (by omega), sfK_succ, ht, h, HF.out, Nat.min_eq_left (by omega)])
          have e9 : decide (k < N) = true := decide_eq_true hkN
          have CA := fun W k1 => Color_ok va l x1 x2 W k1 HVL.out okt
          have CB := fun W k1 => Color_ok vb m x1 x2 W k1 HVM.out okt
          have hsf : sfV l m (x1, x2) = (decide ((shL m (x1, x2)).1 = 1) && (!decide ((shL l (x1, x2)).1 = 1) || decide ((shL l (x1, x2)).2 < (shL m (x1, x2)).2))) := rfl
          generalize (shL l (x1, x2)).1 = c at *
          generalize (shL l (x1, x2)).2 = r at *
          generalize (shL m (x1, x2)).1 = d at *
          generalize (shL m (x1, x2)).2 = s at *
          have HSF := Lib.hid hsf
          clear hsf okt ht
          go_wp2_with fail
          refine Calls.mono (CA _ (HA.out.below HBW.out)) ?_
          rintro e wa ⟨rfl, hba⟩
          have p0 := cell_later hba p0
          have p1 := cell_later hba p1
          have hsa := hba.size
          have HBA := Lib.hid (bstep HBW.out hba)
          have HBB := Lib.hid (HBE.out.trans (hba.mono (by have := HBE.out.size; omega)))
          clear hba CA
          go_wp2_with fail
          refine Calls.mono (CB _ (HB.out.below HBA.out)) ?_
          rintro e wb ⟨rfl, hbb⟩
          have HBZ := Lib.hid (HBB.out.trans (hbb.mono (by have := HBB.out.size; omega)))
          clear hbb CB p0 p1
          rcases Decidable.em (d = 1) with hd1 | hd1
          · subst hd1
            rcases Decidable.em (c = 1) with hc1 | hc1
            · subst hc1
              by_cases hrs : r < s
              · have g1 : decide (r < s) = true := decide_eq_true hrs
                have HSV := Lib.hid (show sfV l m (x1, x2) = true from by rw [HSF.out]; simp [hrs])
                clear hrs
                obtain rfl : s0 = true := HIN.out HSV.out
                cases fb
                all_goals
                  go_wp2
                  go_roundw
                  case rel => exact ⟨k + 1, by go_num, by omega, rfl, ⟨_, rfl, Lib.hid (HK1.out _ HSV.out)⟩, HBZ.out⟩
                  case measure => simp [intOf]; omega
              · have g1 : decide (r < s) = false := decide_eq_false hrs
                have HSV := Lib.hid (show sfV l m (x1, x2) = false from by rw [HSF.out]; simp [hrs])
                clear hrs
                cases s0 <;> cases fb
                all_goals
                  go_wp2
                  go_roundw
                  case rel => exact ⟨k + 1, by go_num, by omega, rfl, ⟨_, rfl, Lib.hid (HK1.out _ HSV.out)⟩, HBZ.out⟩
                  case measure => simp [intOf]; omega
            · have g1 : (c == 1) = false := by rw [beq_eq_false_iff_ne]; exact hc1
              have g2 : (c != 1) = true := by rw [bne_iff_ne]; exact hc1
              have HSV := Lib.hid (show sfV l m (x1, x2) = true from by rw [HSF.out]; simp [hc1])
              clear hc1
              obtain rfl : s0 = true := HIN.out HSV.out
              cases fb
              all_goals
                go_wp2
                go_roundw
                case rel => exact ⟨k + 1, by go_num, by omega, rfl, ⟨_, rfl, Lib.hid (HK1.out _ HSV.out)⟩, HBZ.out⟩
                case measure => simp [intOf]; omega
          · have g1 : (d == 1) = false := by rw [beq_eq_false_iff_ne]; exact hd1
            have HSV := Lib.hid (show sfV l m (x1, x2) = false from by rw [HSF.out]; simp [hd1])
            clear hd1
            cases s0 <;> cases fb
            all_goals
              go_wp2
              go_roundw
              case rel => exact ⟨k + 1, by go_num, by omega, rfl, ⟨_, rfl, Lib.hid (HK1.out _ HSV.out)⟩, HBZ.out⟩
              case measure => simp [intOf]; omega
        · obtain rfl : k = N := by have := HN1.out; omega
          have hxv : (x1, x2) = (v1, v2) := by rw [← HT.out]; have := gv_last (tuL (l ++ m)) (v1, v2); rw [HN.out] at this; exact this
          obtain ⟨rfl, rfl⟩ := Prod.mk.injEq _ _ _ _ ▸ hxv
          clear hxv hkN
          cases okt : okD (x1, x2)
          · have CA := fun W k1 => Color_no va l x1 x2 W k1 (by rw [okt, Bool.and_false])
            have CB := fun W k1 => Color_no vb m x1 x2 W k1 (by rw [okt, Bool.and_false])
            have hfs : fb = s0 := by rw [HF.out, Nat.min_eq_left (Nat.le_refl _), ← HS0.out, ← sf_all, HN.out]
            subst hfs
            clear okt
            go_wp2_with fail
            refine Calls.mono (CA _ (HA.out.below HBW.out)) ?_
            rintro e wa ⟨rfl, hba⟩
            have p0 := cell_later hba p0
            have p1 := cell_later hba p1
            have hsa := hba.size
            have HBA := Lib.hid (bstep HBW.out hba)
            clear hba CA
            go_wp2_with fail
            refine Calls.mono (CB _ (HB.out.below HBA.out)) ?_
            rintro e wb ⟨rfl, hbb⟩
            have hbz := bstep HBA.out hbb
            clear hbb CB p0 p1
            go_wp2
            go_ret
            exact ⟨rfl, hbz⟩
          · have HIN := Lib.hid (show sfV l m (x1, x2) = true → s0 = true from fun h => HS0.out.symm.trans (sf_any HAL.out HAM.out okt h))
            have HK1 := Lib.hid (show ∀ y, sfV l m (x1, x2) = y → fb = sfK l m (tuL (l ++ m)) (min (k + 1) k) from fun y h => by rw [Nat.min_eq_right (by omega), HF.out, Nat.min_eq_left (Nat.le_refl _)])
            have e9 : decide (k < k) = false := decide_eq_false (by omega)
            have CA := fun W k1 => Color_ok va l x1 x2 W k1 HVL.out okt
            have CB := fun W k1 => Color_ok vb m x1 x2 W k1 HVM.out okt
            have hsf : sfV l m (x1, x2) = (decide ((shL m (x1, x2)).1 = 1) && (!decide ((shL l (x1, x2)).1 = 1) || decide ((shL l (x1, x2)).2 < (shL m (x1, x2)).2))) := rfl
            generalize (shL l (x1, x2)).1 = c at *
            generalize (shL l (x1, x2)).2 = r at *
            generalize (shL m (x1, x2)).1 = d at *
            generalize (shL m (x1, x2)).2 = s at *
            have HSF := Lib.hid hsf
            clear hsf okt
            go_wp2_with fail
            refine Calls.mono (CA _ (HA.out.below HBW.out)) ?_
            rintro e wa ⟨rfl, hba⟩
            have p0 := cell_later hba p0
            have p1 := cell_later hba p1
            have hsa := hba.size
            have HBA := Lib.hid (bstep HBW.out hba)
            have HBB := Lib.hid (HBE.out.trans (hba.mono (by have := HBE.out.size; omega)))
            clear hba CA
            go_wp2_with fail
            refine Calls.mono (CB _ (HB.out.below HBA.out)) ?_
            rintro e wb ⟨rfl, hbb⟩
            have HBZ := Lib.hid (HBB.out.trans (hbb.mono (by have := HBB.out.size; omega)))
            clear hbb CB p0 p1
            rcases Decidable.em (d = 1) with hd1 | hd1
            · subst hd1
              rcases Decidable.em (c = 1) with hc1 | hc1
              · subst hc1
                by_cases hrs : r < s
                · have g1 : decide (r < s) = true := decide_eq_true hrs
                  have HSV := Lib.hid (show sfV l m (x1, x2) = true from by rw [HSF.out]; simp [hrs])
                  clear hrs
                  obtain rfl : s0 = true := HIN.out HSV.out
                  cases fb
                  all_goals
                    go_wp2
                    go_roundw
                    case rel => exact ⟨k + 1, by go_num, by omega, rfl, ⟨_, rfl, Lib.hid (HK1.out _ HSV.out)⟩, HBZ.out⟩
                    case measure => simp [intOf]; omega
                · have g1 : decide (r < s) = false := decide_eq_false hrs
                  have HSV := Lib.hid (show sfV l m (x1, x2) = false from by rw [HSF.out]; simp [hrs])
                  clear hrs
                  cases s0 <;> cases fb
                  all_goals
                    go_wp2
                    go_roundw
                    case rel => exact ⟨k + 1, by go_num, by omega, rfl, ⟨_, rfl, Lib.hid (HK1.out _ HSV.out)⟩, HBZ.out⟩
                    case measure => simp [intOf]; omega
              · have g1 : (c == 1) = false := by rw [beq_eq_false_iff_ne]; exact hc1
                have g2 : (c != 1) = true := by rw [bne_iff_ne]; exact hc1
                have HSV := Lib.hid (show sfV l m (x1, x2) = true from by rw [HSF.out]; simp [hc1])
                clear hc1
                obtain rfl : s0 = true := HIN.out HSV.out
                cases fb
                all_goals
                  go_wp2
                  go_roundw
                  case rel => exact ⟨k + 1, by go_num, by omega, rfl, ⟨_, rfl, Lib.hid (HK1.out _ HSV.out)⟩, HBZ.out⟩
                  case measure => simp [intOf]; omega
            · have g1 : (d == 1) = false := by rw [beq_eq_false_iff_ne]; exact hd1
              have HSV := Lib.hid (show sfV l m (x1, x2) = false from by rw [HSF.out]; simp [hd1])
              clear hd1
              cases s0 <;> cases fb
              all_goals
                go_wp2
                go_roundw
                case rel => exact ⟨k + 1, by go_num, by omega, rfl, ⟨_, rfl, Lib.hid (HK1.out _ HSV.out)⟩, HBZ.out⟩
                case measure => simp [intOf]; omega
      · obtain rfl : k = n1 := by omega
        have hfs : fb = s0 := by rw [HF.out, Nat.min_eq_right (by have := HN1.out; omega), ← HS0.out, ← sf_all, HN.out]
        subst hfs
        have HBW := Lib.hid hbw
        clear hbw hbel
        go_wp2
        go_ret
        exact ⟨rfl, HBW.out⟩

end Go.Proofs.Ytpadkmlckmopfaa.Se

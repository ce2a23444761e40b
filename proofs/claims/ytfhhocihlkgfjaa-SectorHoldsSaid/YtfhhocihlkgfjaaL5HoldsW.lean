/- L5HoldsW: the law Holds. -/
import Derived.Test.YtfhhocihlkgfjaaSecZ
import Derived.Test.YtfhhocihlkgfjaaSecT
import Derived.Test.YtfhhocihlkgfjaaSecU
import Derived.Test.YtfhhocihlkgfjaaRows
import Derived.WalkKit
import Derived.WalkSpells
import Derived.WalkLawsBesides
import Derived.Lib.Hide
import Derived.Deep.QuietTactic
import Derived.BigQuiet
import Derived.RegionTactic
import Derived.ChangeAlike
import Derived.BigRegion
import Derived.Deep.RegionHeld3
import Derived.Deep.RegionWith
import Derived.Outline
import Derived.IntWalk
import Derived.Deep.DeepCutAuto
namespace Go.Proofs.Ytfhhocihlkgfjaa.Se
open Go.RowKit
set_option linter.unusedSimpArgs false
set_option linter.unusedVariables false

set_option maxRecDepth 100000 in
set_option maxHeartbeats 12800000 in
theorem holds_walk (w : World) (va vb vc : Value) (la lb lc : List Sec) (k v1 v2 : Int) (ha : Secs w va la) (hb : Secs w vb lb) (hc : Secs w vc lc) (HEAD : ∀ w, Calls Try.prog 11 #[] w (Ret w (.bool true))) : Calls Try.prog 6 #[va, vb, vc, (.int .i64 k), (.agg #[.int .i64 v1, .int .i64 v2])] w (Ret w (.bool true)) := by
  obtain ⟨pa, ca, rfl⟩ : ∃ p c, va = .slice p la.length c := by obtain ⟨⟨p, c, h, _⟩, _⟩ := ha; exact ⟨p, c, h⟩
  obtain ⟨pb, cb, rfl⟩ : ∃ p c, vb = .slice p lb.length c := by obtain ⟨⟨p, c, h, _⟩, _⟩ := hb; exact ⟨p, c, h⟩
  obtain ⟨pc, cc, rfl⟩ : ∃ p c, vc = .slice p lc.length c := by obtain ⟨⟨p, c, h, _⟩, _⟩ := hc; exact ⟨p, c, h⟩
  have ANY : ∀ (x y : Value) (lx ly : List Sec), (∀ W, Below w.heap.size w W → Secs W x lx) → (∀ W, Below w.heap.size w W → Secs W y ly) → ∃ (r : Bool) (e : Int), ∀ W, Below w.heap.size w W → Calls Try.prog 18 #[x, y, (.int .i64 k)] W (Ret W (.tuple #[(.bool r), (.int .i64 e)])) := fun x y lx ly hx hy => by
    cases h : (vaL lx && (vaL ly && btB k 1 3))
    · exact ⟨false, 1, fun W hW => Holds_no x y lx ly k W (hx W hW) (hy W hW) h⟩
    · simp only [Bool.and_eq_true] at h
      exact ⟨hoL lx ly k, 0, fun W hW => Holds_ok x y lx ly k W (hx W hW) (hy W hW) h.1 h.2.1 h.2.2⟩
  cases h1 : (vaL la && (vaL lb && btB k 1 3))
  · obtain ⟨r2, e2, N2⟩ := ANY (.slice pb lb.length cb) (.slice pc lc.length cc) lb lc (fun W h => hb.below h) (fun W h => hc.below h)
    obtain ⟨r3, e3, N3⟩ := ANY (.slice pa la.length ca) (.slice pc lc.length cc) la lc (fun W h => ha.below h) (fun W h => hc.below h)
    have N1 : ∀ W, Below w.heap.size w W → Calls Try.prog 18 #[(.slice pa la.length ca), (.slice pb lb.length cb), (.int .i64 k)] W (Ret W (.tuple #[(.bool false), (.int .i64 1)])) := fun W h => by exact Holds_no _ _ la lb k W (ha.below h) (hb.below h) h1
    have H1 := Lib.hid N1
    have H2 := Lib.hid N2
    have H3 := Lib.hid N3
    clear N1 N2 N3 ANY ha hb hc
    go_enter Try.func6, Try.ntmps6
    go_wp2_with fail
    refine Calls.mono (HEAD _) ?_
    rintro e w1 ⟨rfl, hb⟩
    have kv0 : w1.cell? ⟨w.heap.size, 0, none⟩ = some (.int .i64 v1) := cell_later hb (by go_simp)
    have kv1 : w1.cell? ⟨w.heap.size, 1, none⟩ = some (.int .i64 v2) := cell_later hb (by go_simp)
    have zv : w.heap.size < w1.heap.size := World.block_lt_of_cell? _ _ kv0
    have zv_w1 := zv
    have hb0 : Below w.heap.size w w1 := (by repeat (first | with_reducible exact Below.refl _ _ | with_reducible assumption | with_reducible refine Below.setCell ?_ (by first | omega | (simp <;> omega)) _ | with_reducible refine balloc ?_ _ | with_reducible refine Below.drew ?_ | with_reducible refine bstep ?_ (by with_reducible assumption)))
    have hs_w1 := hb.size; (try simp only [World.size_alloc, World.size_setCell] at hs_w1)
    clear hb
    go_wp2_with fail
    refine Calls.mono (H1.out _ (by repeat (first | with_reducible exact Below.refl _ _ | with_reducible assumption | with_reducible refine Below.setCell ?_ (by first | omega | (simp <;> omega)) _ | with_reducible refine balloc ?_ _ | with_reducible refine Below.drew ?_ | with_reducible refine bstep ?_ (by with_reducible assumption)))) ?_
    rintro e w2 ⟨rfl, hb⟩
    replace kv0 := cell_later hb kv0
    replace kv1 := cell_later hb kv1
    replace zv : w.heap.size < w2.heap.size := World.block_lt_of_cell? _ _ kv0
    have zv_w2 := zv
    replace hb0 : Below w.heap.size w w2 := (by repeat (first | with_reducible exact Below.refl _ _ | with_reducible assumption | with_reducible refine Below.setCell ?_ (by first | omega | (simp <;> omega)) _ | with_reducible refine balloc ?_ _ | with_reducible refine Below.drew ?_ | with_reducible refine bstep ?_ (by with_reducible assumption)))
    have hs_w2 : w1.heap.size ≤ w2.heap.size := hb.size
    clear hb
    go_wp2_with fail
    refine Calls.mono (H2.out _ (by repeat (first | with_reducible exact Below.refl _ _ | with_reducible assumption | with_reducible refine Below.setCell ?_ (by first | omega | (simp <;> omega)) _ | with_reducible refine balloc ?_ _ | with_reducible refine Below.drew ?_ | with_reducible refine bstep ?_ (by with_reducible assumption)))) ?_
    rintro e w3 ⟨rfl, hb⟩
    replace kv0 := cell_later hb kv0
    replace kv1 := cell_later hb kv1
    replace zv : w.heap.size < w3.heap.size := World.block_lt_of_cell? _ _ kv0
    have zv_w3 := zv
    replace hb0 : Below w.heap.size w w3 := (by repeat (first | with_reducible exact Below.refl _ _ | with_reducible assumption | with_reducible refine Below.setCell ?_ (by first | omega | (simp <;> omega)) _ | with_reducible refine balloc ?_ _ | with_reducible refine Below.drew ?_ | with_reducible refine bstep ?_ (by with_reducible assumption)))
    have hs_w3 : w2.heap.size ≤ w3.heap.size := hb.size
    clear hb
    go_wp2_with fail
    refine Calls.mono (H3.out _ (by repeat (first | with_reducible exact Below.refl _ _ | with_reducible assumption | with_reducible refine Below.setCell ?_ (by first | omega | (simp <;> omega)) _ | with_reducible refine balloc ?_ _ | with_reducible refine Below.drew ?_ | with_reducible refine bstep ?_ (by with_reducible assumption)))) ?_
    rintro e w4 ⟨rfl, hb⟩
    replace kv0 := cell_later hb kv0
    replace kv1 := cell_later hb kv1
    replace zv : w.heap.size < w4.heap.size := World.block_lt_of_cell? _ _ kv0
    have zv_w4 := zv
    replace hb0 : Below w.heap.size w w4 := (by repeat (first | with_reducible exact Below.refl _ _ | with_reducible assumption | with_reducible refine Below.setCell ?_ (by first | omega | (simp <;> omega)) _ | with_reducible refine balloc ?_ _ | with_reducible refine Below.drew ?_ | with_reducible refine bstep ?_ (by with_reducible assumption)))
    have hs_w4 : w3.heap.size ≤ w4.heap.size := hb.size
    clear hb
    go_wp2
    all_goals first | (exfalso; omega) | (go_ret; refine ret_bool ?_ (by repeat (first | with_reducible exact Below.refl _ _ | with_reducible assumption | with_reducible refine Below.setCell ?_ (by first | omega | (simp <;> omega)) _ | with_reducible refine balloc ?_ _ | with_reducible refine Below.drew ?_ | with_reducible refine bstep ?_ (by with_reducible assumption))); first | (simp; done) | (simp <;> omega) | (simp [*]; done))
  · simp only [Bool.and_eq_true] at h1
    obtain ⟨vla, vlb, vk⟩ := h1
    have ala := (vaL_all vla).2
    have alb := (vaL_all vlb).2
    have k1 := (btB_iff.1 vk).1
    have N1 : ∀ W, Below w.heap.size w W → Calls Try.prog 18 #[(.slice pa la.length ca), (.slice pb lb.length cb), (.int .i64 k)] W (Ret W (.tuple #[(.bool (hoL la lb k)), (.int .i64 0)])) := fun W h => by exact Holds_ok _ _ la lb k W (ha.below h) (hb.below h) vla vlb vk
    have N4 : ∀ W, Below w.heap.size w W → Calls Try.prog 18 #[(.slice pa la.length ca), (.slice pa la.length ca), (.int .i64 k)] W (Ret W (.tuple #[(.bool true), (.int .i64 0)])) := fun W h => by have := Holds_ok _ _ la la k W (ha.below h) (ha.below h) vla vla vk; rwa [ho_self ala k1] at this
    have HQ : hoL la lb k = true → okD (v1, v2) = true → (shL la (v1, v2)).1 = k → (shL lb (v1, v2)).1 = k ∧ (shL la (v1, v2)).2 ≤ (shL lb (v1, v2)).2 := fun h => (ho_iff ala alb k1).1 h (v1, v2)
    have HY : ∃ (y z : Bool) (e : Int), (∀ W, Below w.heap.size w W → Calls Try.prog 18 #[(.slice pb lb.length cb), (.slice pc lc.length cc), (.int .i64 k)] W (Ret W (.tuple #[(.bool y), (.int .i64 e)]))) ∧ (∀ W, Below w.heap.size w W → Calls Try.prog 18 #[(.slice pa la.length ca), (.slice pc lc.length cc), (.int .i64 k)] W (Ret W (.tuple #[(.bool z), (.int .i64 e)]))) ∧ ((e = 1) ∨ (e = 0 ∧ (hoL la lb k = true → y = true → z = true))) := by
      cases vlc : vaL lc
      · exact ⟨false, false, 1, fun W h => Holds_no _ _ lb lc k W (hb.below h) (hc.below h) (by rw [vlc]; simp), fun W h => Holds_no _ _ la lc k W (ha.below h) (hc.below h) (by rw [vlc]; simp), .inl rfl⟩
      · exact ⟨hoL lb lc k, hoL la lc k, 0, fun W h => Holds_ok _ _ lb lc k W (hb.below h) (hc.below h) vlb vlc vk, fun W h => Holds_ok _ _ la lc k W (ha.below h) (hc.below h) vla vlc vk, .inr ⟨rfl, fun h1 h2 => ho_trans ala alb (vaL_all vlc).2 k1 h1 h2⟩⟩
    obtain ⟨y, z, e, N2, N3, HZ⟩ := HY
    have HCC : ∃ (i j l m e : Int), (∀ W, Below w.heap.size w W → Calls Try.prog 16 #[(.slice pa la.length ca), (.agg #[.int .i64 v1, .int .i64 v2])] W (Ret W (.tuple #[(.int .i64 i), (.int .i64 j), (.int .i64 e)]))) ∧ (∀ W, Below w.heap.size w W → Calls Try.prog 16 #[(.slice pb lb.length cb), (.agg #[.int .i64 v1, .int .i64 v2])] W (Ret W (.tuple #[(.int .i64 l), (.int .i64 m), (.int .i64 e)]))) ∧ (e = 1 ∨ (e = 0 ∧ (hoL la lb k = true → i = k → l = k ∧ j ≤ m))) := by
      cases vd : okD (v1, v2)
      · exact ⟨0, 0, 0, 0, 1, fun W h => Color_no _ la v1 v2 W (ha.below h) (by rw [vd]; simp), fun W h => Color_no _ lb v1 v2 W (hb.below h) (by rw [vd]; simp), .inl rfl⟩
      · exact ⟨_, _, _, _, 0, fun W h => Color_ok _ la v1 v2 W (ha.below h) vla vd, fun W h => Color_ok _ lb v1 v2 W (hb.below h) vlb vd, .inr ⟨rfl, fun h1 h2 => HQ h1 vd h2⟩⟩
    obtain ⟨ci, cj, cl, cm, ce, N5, N6, HD⟩ := HCC
    clear HQ
    generalize hoL la lb k = x at *
    have H1 := Lib.hid N1
    have H2 := Lib.hid N2
    have H3 := Lib.hid N3
    have H4 := Lib.hid N4
    have H5 := Lib.hid N5
    have H6 := Lib.hid N6
    clear N1 N2 N3 N4 N5 N6 ANY ha hb hc
    rcases HZ with rfl | ⟨rfl, hz⟩
    · skip
      go_enter Try.func6, Try.ntmps6
      go_wp2_with fail
      refine Calls.mono (HEAD _) ?_
      rintro e w1 ⟨rfl, hb⟩
      have kv0 : w1.cell? ⟨w.heap.size, 0, none⟩ = some (.int .i64 v1) := cell_later hb (by go_simp)
      have kv1 : w1.cell? ⟨w.heap.size, 1, none⟩ = some (.int .i64 v2) := cell_later hb (by go_simp)
      have zv : w.heap.size < w1.heap.size := World.block_lt_of_cell? _ _ kv0
      have zv_w1 := zv
      have hb0 : Below w.heap.size w w1 := (by repeat (first | with_reducible exact Below.refl _ _ | with_reducible assumption | with_reducible refine Below.setCell ?_ (by first | omega | (simp <;> omega)) _ | with_reducible refine balloc ?_ _ | with_reducible refine Below.drew ?_ | with_reducible refine bstep ?_ (by with_reducible assumption)))
      have hs_w1 := hb.size; (try simp only [World.size_alloc, World.size_setCell] at hs_w1)
      clear hb
      go_wp2_with fail
      refine Calls.mono (H1.out _ (by repeat (first | with_reducible exact Below.refl _ _ | with_reducible assumption | with_reducible refine Below.setCell ?_ (by first | omega | (simp <;> omega)) _ | with_reducible refine balloc ?_ _ | with_reducible refine Below.drew ?_ | with_reducible refine bstep ?_ (by with_reducible assumption)))) ?_
      rintro e w2 ⟨rfl, hb⟩
      replace kv0 := cell_later hb kv0
      replace kv1 := cell_later hb kv1
      replace zv : w.heap.size < w2.heap.size := World.block_lt_of_cell? _ _ kv0
      have zv_w2 := zv
      replace hb0 : Below w.heap.size w w2 := (by repeat (first | with_reducible exact Below.refl _ _ | with_reducible assumption | with_reducible refine Below.setCell ?_ (by first | omega | (simp <;> omega)) _ | with_reducible refine balloc ?_ _ | with_reducible refine Below.drew ?_ | with_reducible refine bstep ?_ (by with_reducible assumption)))
      have hs_w2 : w1.heap.size ≤ w2.heap.size := hb.size
      clear hb
      go_wp2_with fail
      refine Calls.mono (H2.out _ (by repeat (first | with_reducible exact Below.refl _ _ | with_reducible assumption | with_reducible refine Below.setCell ?_ (by first | omega | (simp <;> omega)) _ | with_reducible refine balloc ?_ _ | with_reducible refine Below.drew ?_ | with_reducible refine bstep ?_ (by with_reducible assumption)))) ?_
      rintro e w3 ⟨rfl, hb⟩
      replace kv0 := cell_later hb kv0
      replace kv1 := cell_later hb kv1
      replace zv : w.heap.size < w3.heap.size := World.block_lt_of_cell? _ _ kv0
      have zv_w3 := zv
      replace hb0 : Below w.heap.size w w3 := (by repeat (first | with_reducible exact Below.refl _ _ | with_reducible assumption | with_reducible refine Below.setCell ?_ (by first | omega | (simp <;> omega)) _ | with_reducible refine balloc ?_ _ | with_reducible refine Below.drew ?_ | with_reducible refine bstep ?_ (by with_reducible assumption)))
      have hs_w3 : w2.heap.size ≤ w3.heap.size := hb.size
      clear hb
      go_wp2_with fail
      refine Calls.mono (H3.out _ (by repeat (first | with_reducible exact Below.refl _ _ | with_reducible assumption | with_reducible refine Below.setCell ?_ (by first | omega | (simp <;> omega)) _ | with_reducible refine balloc ?_ _ | with_reducible refine Below.drew ?_ | with_reducible refine bstep ?_ (by with_reducible assumption)))) ?_
      rintro e w4 ⟨rfl, hb⟩
      replace kv0 := cell_later hb kv0
      replace kv1 := cell_later hb kv1
      replace zv : w.heap.size < w4.heap.size := World.block_lt_of_cell? _ _ kv0
      have zv_w4 := zv
      replace hb0 : Below w.heap.size w w4 := (by repeat (first | with_reducible exact Below.refl _ _ | with_reducible assumption | with_reducible refine Below.setCell ?_ (by first | omega | (simp <;> omega)) _ | with_reducible refine balloc ?_ _ | with_reducible refine Below.drew ?_ | with_reducible refine bstep ?_ (by with_reducible assumption)))
      have hs_w4 : w3.heap.size ≤ w4.heap.size := hb.size
      clear hb
      go_wp2_with fail
      refine Calls.mono (H4.out _ (by repeat (first | with_reducible exact Below.refl _ _ | with_reducible assumption | with_reducible refine Below.setCell ?_ (by first | omega | (simp <;> omega)) _ | with_reducible refine balloc ?_ _ | with_reducible refine Below.drew ?_ | with_reducible refine bstep ?_ (by with_reducible assumption)))) ?_
      rintro e w5 ⟨rfl, hb⟩
      replace kv0 := cell_later hb kv0
      replace kv1 := cell_later hb kv1
      replace zv : w.heap.size < w5.heap.size := World.block_lt_of_cell? _ _ kv0
      have zv_w5 := zv
      replace hb0 : Below w.heap.size w w5 := (by repeat (first | with_reducible exact Below.refl _ _ | with_reducible assumption | with_reducible refine Below.setCell ?_ (by first | omega | (simp <;> omega)) _ | with_reducible refine balloc ?_ _ | with_reducible refine Below.drew ?_ | with_reducible refine bstep ?_ (by with_reducible assumption)))
      have hs_w5 : w4.heap.size ≤ w5.heap.size := hb.size
      clear hb
      cases x
      · skip
        rcases HD with rfl | ⟨rfl, hq⟩
        · skip
          go_wp2_with fail
          refine Calls.mono (H5.out _ (by repeat (first | with_reducible exact Below.refl _ _ | with_reducible assumption | with_reducible refine Below.setCell ?_ (by first | omega | (simp <;> omega)) _ | with_reducible refine balloc ?_ _ | with_reducible refine Below.drew ?_ | with_reducible refine bstep ?_ (by with_reducible assumption)))) ?_
          rintro e w6 ⟨rfl, hb⟩
          replace kv0 := cell_later hb kv0
          replace kv1 := cell_later hb kv1
          replace zv : w.heap.size < w6.heap.size := World.block_lt_of_cell? _ _ kv0
          have zv_w6 := zv
          replace hb0 : Below w.heap.size w w6 := (by repeat (first | with_reducible exact Below.refl _ _ | with_reducible assumption | with_reducible refine Below.setCell ?_ (by first | omega | (simp <;> omega)) _ | with_reducible refine balloc ?_ _ | with_reducible refine Below.drew ?_ | with_reducible refine bstep ?_ (by with_reducible assumption)))
          have hs_w6 : w5.heap.size ≤ w6.heap.size := hb.size
          clear hb
          go_wp2_with fail
          refine Calls.mono (H6.out _ (by repeat (first | with_reducible exact Below.refl _ _ | with_reducible assumption | with_reducible refine Below.setCell ?_ (by first | omega | (simp <;> omega)) _ | with_reducible refine balloc ?_ _ | with_reducible refine Below.drew ?_ | with_reducible refine bstep ?_ (by with_reducible assumption)))) ?_
          rintro e w7 ⟨rfl, hb⟩
          replace kv0 := cell_later hb kv0
          replace kv1 := cell_later hb kv1
          replace zv : w.heap.size < w7.heap.size := World.block_lt_of_cell? _ _ kv0
          have zv_w7 := zv
          replace hb0 : Below w.heap.size w w7 := (by repeat (first | with_reducible exact Below.refl _ _ | with_reducible assumption | with_reducible refine Below.setCell ?_ (by first | omega | (simp <;> omega)) _ | with_reducible refine balloc ?_ _ | with_reducible refine Below.drew ?_ | with_reducible refine bstep ?_ (by with_reducible assumption)))
          have hs_w7 : w6.heap.size ≤ w7.heap.size := hb.size
          clear hb
          go_wp2
          all_goals first | (exfalso; omega) | (go_ret; refine ret_bool ?_ (by repeat (first | with_reducible exact Below.refl _ _ | with_reducible assumption | with_reducible refine Below.setCell ?_ (by first | omega | (simp <;> omega)) _ | with_reducible refine balloc ?_ _ | with_reducible refine Below.drew ?_ | with_reducible refine bstep ?_ (by with_reducible assumption))); first | (simp; done) | (simp <;> omega) | (simp [*]; done))
        · clear hq
          go_wp2_with fail
          refine Calls.mono (H5.out _ (by repeat (first | with_reducible exact Below.refl _ _ | with_reducible assumption | with_reducible refine Below.setCell ?_ (by first | omega | (simp <;> omega)) _ | with_reducible refine balloc ?_ _ | with_reducible refine Below.drew ?_ | with_reducible refine bstep ?_ (by with_reducible assumption)))) ?_
          rintro e w6 ⟨rfl, hb⟩
          replace kv0 := cell_later hb kv0
          replace kv1 := cell_later hb kv1
          replace zv : w.heap.size < w6.heap.size := World.block_lt_of_cell? _ _ kv0
          have zv_w6 := zv
          replace hb0 : Below w.heap.size w w6 := (by repeat (first | with_reducible exact Below.refl _ _ | with_reducible assumption | with_reducible refine Below.setCell ?_ (by first | omega | (simp <;> omega)) _ | with_reducible refine balloc ?_ _ | with_reducible refine Below.drew ?_ | with_reducible refine bstep ?_ (by with_reducible assumption)))
          have hs_w6 : w5.heap.size ≤ w6.heap.size := hb.size
          clear hb
          go_wp2_with fail
          refine Calls.mono (H6.out _ (by repeat (first | with_reducible exact Below.refl _ _ | with_reducible assumption | with_reducible refine Below.setCell ?_ (by first | omega | (simp <;> omega)) _ | with_reducible refine balloc ?_ _ | with_reducible refine Below.drew ?_ | with_reducible refine bstep ?_ (by with_reducible assumption)))) ?_
          rintro e w7 ⟨rfl, hb⟩
          replace kv0 := cell_later hb kv0
          replace kv1 := cell_later hb kv1
          replace zv : w.heap.size < w7.heap.size := World.block_lt_of_cell? _ _ kv0
          have zv_w7 := zv
          replace hb0 : Below w.heap.size w w7 := (by repeat (first | with_reducible exact Below.refl _ _ | with_reducible assumption | with_reducible refine Below.setCell ?_ (by first | omega | (simp <;> omega)) _ | with_reducible refine balloc ?_ _ | with_reducible refine Below.drew ?_ | with_reducible refine bstep ?_ (by with_reducible assumption)))
          have hs_w7 : w6.heap.size ≤ w7.heap.size := hb.size
          clear hb
          go_wp2
          all_goals first | (exfalso; omega) | (go_ret; refine ret_bool ?_ (by repeat (first | with_reducible exact Below.refl _ _ | with_reducible assumption | with_reducible refine Below.setCell ?_ (by first | omega | (simp <;> omega)) _ | with_reducible refine balloc ?_ _ | with_reducible refine Below.drew ?_ | with_reducible refine bstep ?_ (by with_reducible assumption))); first | (simp; done) | (simp <;> omega) | (simp [*]; done))
      · skip
        rcases HD with rfl | ⟨rfl, hq⟩
        · skip
          go_wp2_with fail
          refine Calls.mono (H5.out _ (by repeat (first | with_reducible exact Below.refl _ _ | with_reducible assumption | with_reducible refine Below.setCell ?_ (by first | omega | (simp <;> omega)) _ | with_reducible refine balloc ?_ _ | with_reducible refine Below.drew ?_ | with_reducible refine bstep ?_ (by with_reducible assumption)))) ?_
          rintro e w6 ⟨rfl, hb⟩
          replace kv0 := cell_later hb kv0
          replace kv1 := cell_later hb kv1
          replace zv : w.heap.size < w6.heap.size := World.block_lt_of_cell? _ _ kv0
          have zv_w6 := zv
          replace hb0 : Below w.heap.size w w6 := (by repeat (first | with_reducible exact Below.refl _ _ | with_reducible assumption | with_reducible refine Below.setCell ?_ (by first | omega | (simp <;> omega)) _ | with_reducible refine balloc ?_ _ | with_reducible refine Below.drew ?_ | with_reducible refine bstep ?_ (by with_reducible assumption)))
          have hs_w6 : w5.heap.size ≤ w6.heap.size := hb.size
          clear hb
          go_wp2_with fail
          refine Calls.mono (H6.out _ (by repeat (first | with_reducible exact Below.refl _ _ | with_reducible assumption | with_reducible refine Below.setCell ?_ (by first | omega | (simp <;> omega)) _ | with_reducible refine balloc ?_ _ | with_reducible refine Below.drew ?_ | with_reducible refine bstep ?_ (by with_reducible assumption)))) ?_
          rintro e w7 ⟨rfl, hb⟩
          replace kv0 := cell_later hb kv0
          replace kv1 := cell_later hb kv1
          replace zv : w.heap.size < w7.heap.size := World.block_lt_of_cell? _ _ kv0
          have zv_w7 := zv
          replace hb0 : Below w.heap.size w w7 := (by repeat (first | with_reducible exact Below.refl _ _ | with_reducible assumption | with_reducible refine Below.setCell ?_ (by first | omega | (simp <;> omega)) _ | with_reducible refine balloc ?_ _ | with_reducible refine Below.drew ?_ | with_reducible refine bstep ?_ (by with_reducible assumption)))
          have hs_w7 : w6.heap.size ≤ w7.heap.size := hb.size
          clear hb
          go_wp2
          all_goals first | (exfalso; omega) | (go_ret; refine ret_bool ?_ (by repeat (first | with_reducible exact Below.refl _ _ | with_reducible assumption | with_reducible refine Below.setCell ?_ (by first | omega | (simp <;> omega)) _ | with_reducible refine balloc ?_ _ | with_reducible refine Below.drew ?_ | with_reducible refine bstep ?_ (by with_reducible assumption))); first | (simp; done) | (simp <;> omega) | (simp [*]; done))
        · have hq2 : ci = k → cl = k ∧ cj ≤ cm := hq rfl
          clear hq
          go_wp2_with fail
          refine Calls.mono (H5.out _ (by repeat (first | with_reducible exact Below.refl _ _ | with_reducible assumption | with_reducible refine Below.setCell ?_ (by first | omega | (simp <;> omega)) _ | with_reducible refine balloc ?_ _ | with_reducible refine Below.drew ?_ | with_reducible refine bstep ?_ (by with_reducible assumption)))) ?_
          rintro e w6 ⟨rfl, hb⟩
          replace kv0 := cell_later hb kv0
          replace kv1 := cell_later hb kv1
          replace zv : w.heap.size < w6.heap.size := World.block_lt_of_cell? _ _ kv0
          have zv_w6 := zv
          replace hb0 : Below w.heap.size w w6 := (by repeat (first | with_reducible exact Below.refl _ _ | with_reducible assumption | with_reducible refine Below.setCell ?_ (by first | omega | (simp <;> omega)) _ | with_reducible refine balloc ?_ _ | with_reducible refine Below.drew ?_ | with_reducible refine bstep ?_ (by with_reducible assumption)))
          have hs_w6 : w5.heap.size ≤ w6.heap.size := hb.size
          clear hb
          go_wp2_with fail
          refine Calls.mono (H6.out _ (by repeat (first | with_reducible exact Below.refl _ _ | with_reducible assumption | with_reducible refine Below.setCell ?_ (by first | omega | (simp <;> omega)) _ | with_reducible refine balloc ?_ _ | with_reducible refine Below.drew ?_ | with_reducible refine bstep ?_ (by with_reducible assumption)))) ?_
          rintro e w7 ⟨rfl, hb⟩
          replace kv0 := cell_later hb kv0
          replace kv1 := cell_later hb kv1
          replace zv : w.heap.size < w7.heap.size := World.block_lt_of_cell? _ _ kv0
          have zv_w7 := zv
          replace hb0 : Below w.heap.size w w7 := (by repeat (first | with_reducible exact Below.refl _ _ | with_reducible assumption | with_reducible refine Below.setCell ?_ (by first | omega | (simp <;> omega)) _ | with_reducible refine balloc ?_ _ | with_reducible refine Below.drew ?_ | with_reducible refine bstep ?_ (by with_reducible assumption)))
          have hs_w7 : w6.heap.size ≤ w7.heap.size := hb.size
          clear hb
          go_wp2
          all_goals first | (exfalso; omega) | (go_ret; refine ret_bool ?_ (by repeat (first | with_reducible exact Below.refl _ _ | with_reducible assumption | with_reducible refine Below.setCell ?_ (by first | omega | (simp <;> omega)) _ | with_reducible refine balloc ?_ _ | with_reducible refine Below.drew ?_ | with_reducible refine bstep ?_ (by with_reducible assumption))); first | (simp; done) | (simp <;> omega) | (simp [*]; done))
    · skip
      go_enter Try.func6, Try.ntmps6
      go_wp2_with fail
      refine Calls.mono (HEAD _) ?_
      rintro e w1 ⟨rfl, hb⟩
      have kv0 : w1.cell? ⟨w.heap.size, 0, none⟩ = some (.int .i64 v1) := cell_later hb (by go_simp)
      have kv1 : w1.cell? ⟨w.heap.size, 1, none⟩ = some (.int .i64 v2) := cell_later hb (by go_simp)
      have zv : w.heap.size < w1.heap.size := World.block_lt_of_cell? _ _ kv0
      have zv_w1 := zv
      have hb0 : Below w.heap.size w w1 := (by repeat (first | with_reducible exact Below.refl _ _ | with_reducible assumption | with_reducible refine Below.setCell ?_ (by first | omega | (simp <;> omega)) _ | with_reducible refine balloc ?_ _ | with_reducible refine Below.drew ?_ | with_reducible refine bstep ?_ (by with_reducible assumption)))
      have hs_w1 := hb.size; (try simp only [World.size_alloc, World.size_setCell] at hs_w1)
      clear hb
      go_wp2_with fail
      refine Calls.mono (H1.out _ (by repeat (first | with_reducible exact Below.refl _ _ | with_reducible assumption | with_reducible refine Below.setCell ?_ (by first | omega | (simp <;> omega)) _ | with_reducible refine balloc ?_ _ | with_reducible refine Below.drew ?_ | with_reducible refine bstep ?_ (by with_reducible assumption)))) ?_
      rintro e w2 ⟨rfl, hb⟩
      replace kv0 := cell_later hb kv0
      replace kv1 := cell_later hb kv1
      replace zv : w.heap.size < w2.heap.size := World.block_lt_of_cell? _ _ kv0
      have zv_w2 := zv
      replace hb0 : Below w.heap.size w w2 := (by repeat (first | with_reducible exact Below.refl _ _ | with_reducible assumption | with_reducible refine Below.setCell ?_ (by first | omega | (simp <;> omega)) _ | with_reducible refine balloc ?_ _ | with_reducible refine Below.drew ?_ | with_reducible refine bstep ?_ (by with_reducible assumption)))
      have hs_w2 : w1.heap.size ≤ w2.heap.size := hb.size
      clear hb
      go_wp2_with fail
      refine Calls.mono (H2.out _ (by repeat (first | with_reducible exact Below.refl _ _ | with_reducible assumption | with_reducible refine Below.setCell ?_ (by first | omega | (simp <;> omega)) _ | with_reducible refine balloc ?_ _ | with_reducible refine Below.drew ?_ | with_reducible refine bstep ?_ (by with_reducible assumption)))) ?_
      rintro e w3 ⟨rfl, hb⟩
      replace kv0 := cell_later hb kv0
      replace kv1 := cell_later hb kv1
      replace zv : w.heap.size < w3.heap.size := World.block_lt_of_cell? _ _ kv0
      have zv_w3 := zv
      replace hb0 : Below w.heap.size w w3 := (by repeat (first | with_reducible exact Below.refl _ _ | with_reducible assumption | with_reducible refine Below.setCell ?_ (by first | omega | (simp <;> omega)) _ | with_reducible refine balloc ?_ _ | with_reducible refine Below.drew ?_ | with_reducible refine bstep ?_ (by with_reducible assumption)))
      have hs_w3 : w2.heap.size ≤ w3.heap.size := hb.size
      clear hb
      go_wp2_with fail
      refine Calls.mono (H3.out _ (by repeat (first | with_reducible exact Below.refl _ _ | with_reducible assumption | with_reducible refine Below.setCell ?_ (by first | omega | (simp <;> omega)) _ | with_reducible refine balloc ?_ _ | with_reducible refine Below.drew ?_ | with_reducible refine bstep ?_ (by with_reducible assumption)))) ?_
      rintro e w4 ⟨rfl, hb⟩
      replace kv0 := cell_later hb kv0
      replace kv1 := cell_later hb kv1
      replace zv : w.heap.size < w4.heap.size := World.block_lt_of_cell? _ _ kv0
      have zv_w4 := zv
      replace hb0 : Below w.heap.size w w4 := (by repeat (first | with_reducible exact Below.refl _ _ | with_reducible assumption | with_reducible refine Below.setCell ?_ (by first | omega | (simp <;> omega)) _ | with_reducible refine balloc ?_ _ | with_reducible refine Below.drew ?_ | with_reducible refine bstep ?_ (by with_reducible assumption)))
      have hs_w4 : w3.heap.size ≤ w4.heap.size := hb.size
      clear hb
      go_wp2_with fail
      refine Calls.mono (H4.out _ (by repeat (first | with_reducible exact Below.refl _ _ | with_reducible assumption | with_reducible refine Below.setCell ?_ (by first | omega | (simp <;> omega)) _ | with_reducible refine balloc ?_ _ | with_reducible refine Below.drew ?_ | with_reducible refine bstep ?_ (by with_reducible assumption)))) ?_
      rintro e w5 ⟨rfl, hb⟩
      replace kv0 := cell_later hb kv0
      replace kv1 := cell_later hb kv1
      replace zv : w.heap.size < w5.heap.size := World.block_lt_of_cell? _ _ kv0
      have zv_w5 := zv
      replace hb0 : Below w.heap.size w w5 := (by repeat (first | with_reducible exact Below.refl _ _ | with_reducible assumption | with_reducible refine Below.setCell ?_ (by first | omega | (simp <;> omega)) _ | with_reducible refine balloc ?_ _ | with_reducible refine Below.drew ?_ | with_reducible refine bstep ?_ (by with_reducible assumption)))
      have hs_w5 : w4.heap.size ≤ w5.heap.size := hb.size
      clear hb
      cases x
      · clear hz
        rcases HD with rfl | ⟨rfl, hq⟩
        · skip
          go_wp2_with fail
          refine Calls.mono (H5.out _ (by repeat (first | with_reducible exact Below.refl _ _ | with_reducible assumption | with_reducible refine Below.setCell ?_ (by first | omega | (simp <;> omega)) _ | with_reducible refine balloc ?_ _ | with_reducible refine Below.drew ?_ | with_reducible refine bstep ?_ (by with_reducible assumption)))) ?_
          rintro e w6 ⟨rfl, hb⟩
          replace kv0 := cell_later hb kv0
          replace kv1 := cell_later hb kv1
          replace zv : w.heap.size < w6.heap.size := World.block_lt_of_cell? _ _ kv0
          have zv_w6 := zv
          replace hb0 : Below w.heap.size w w6 := (by repeat (first | with_reducible exact Below.refl _ _ | with_reducible assumption | with_reducible refine Below.setCell ?_ (by first | omega | (simp <;> omega)) _ | with_reducible refine balloc ?_ _ | with_reducible refine Below.drew ?_ | with_reducible refine bstep ?_ (by with_reducible assumption)))
          have hs_w6 : w5.heap.size ≤ w6.heap.size := hb.size
          clear hb
          go_wp2_with fail
          refine Calls.mono (H6.out _ (by repeat (first | with_reducible exact Below.refl _ _ | with_reducible assumption | with_reducible refine Below.setCell ?_ (by first | omega | (simp <;> omega)) _ | with_reducible refine balloc ?_ _ | with_reducible refine Below.drew ?_ | with_reducible refine bstep ?_ (by with_reducible assumption)))) ?_
          rintro e w7 ⟨rfl, hb⟩
          replace kv0 := cell_later hb kv0
          replace kv1 := cell_later hb kv1
          replace zv : w.heap.size < w7.heap.size := World.block_lt_of_cell? _ _ kv0
          have zv_w7 := zv
          replace hb0 : Below w.heap.size w w7 := (by repeat (first | with_reducible exact Below.refl _ _ | with_reducible assumption | with_reducible refine Below.setCell ?_ (by first | omega | (simp <;> omega)) _ | with_reducible refine balloc ?_ _ | with_reducible refine Below.drew ?_ | with_reducible refine bstep ?_ (by with_reducible assumption)))
          have hs_w7 : w6.heap.size ≤ w7.heap.size := hb.size
          clear hb
          go_wp2
          all_goals first | (exfalso; omega) | (go_ret; refine ret_bool ?_ (by repeat (first | with_reducible exact Below.refl _ _ | with_reducible assumption | with_reducible refine Below.setCell ?_ (by first | omega | (simp <;> omega)) _ | with_reducible refine balloc ?_ _ | with_reducible refine Below.drew ?_ | with_reducible refine bstep ?_ (by with_reducible assumption))); first | (simp; done) | (simp <;> omega) | (simp [*]; done))
        · clear hq
          go_wp2_with fail
          refine Calls.mono (H5.out _ (by repeat (first | with_reducible exact Below.refl _ _ | with_reducible assumption | with_reducible refine Below.setCell ?_ (by first | omega | (simp <;> omega)) _ | with_reducible refine balloc ?_ _ | with_reducible refine Below.drew ?_ | with_reducible refine bstep ?_ (by with_reducible assumption)))) ?_
          rintro e w6 ⟨rfl, hb⟩
          replace kv0 := cell_later hb kv0
          replace kv1 := cell_later hb kv1
          replace zv : w.heap.size < w6.heap.size := World.block_lt_of_cell? _ _ kv0
          have zv_w6 := zv
          replace hb0 : Below w.heap.size w w6 := (by repeat (first | with_reducible exact Below.refl _ _ | with_reducible assumption | with_reducible refine Below.setCell ?_ (by first | omega | (simp <;> omega)) _ | with_reducible refine balloc ?_ _ | with_reducible refine Below.drew ?_ | with_reducible refine bstep ?_ (by with_reducible assumption)))
          have hs_w6 : w5.heap.size ≤ w6.heap.size := hb.size
          clear hb
          go_wp2_with fail
          refine Calls.mono (H6.out _ (by repeat (first | with_reducible exact Below.refl _ _ | with_reducible assumption | with_reducible refine Below.setCell ?_ (by first | omega | (simp <;> omega)) _ | with_reducible refine balloc ?_ _ | with_reducible refine Below.drew ?_ | with_reducible refine bstep ?_ (by with_reducible assumption)))) ?_
          rintro e w7 ⟨rfl, hb⟩
          replace kv0 := cell_later hb kv0
          replace kv1 := cell_later hb kv1
          replace zv : w.heap.size < w7.heap.size := World.block_lt_of_cell? _ _ kv0
          have zv_w7 := zv
          replace hb0 : Below w.heap.size w w7 := (by repeat (first | with_reducible exact Below.refl _ _ | with_reducible assumption | with_reducible refine Below.setCell ?_ (by first | omega | (simp <;> omega)) _ | with_reducible refine balloc ?_ _ | with_reducible refine Below.drew ?_ | with_reducible refine bstep ?_ (by with_reducible assumption)))
          have hs_w7 : w6.heap.size ≤ w7.heap.size := hb.size
          clear hb
          go_wp2
          all_goals first | (exfalso; omega) | (go_ret; refine ret_bool ?_ (by repeat (first | with_reducible exact Below.refl _ _ | with_reducible assumption | with_reducible refine Below.setCell ?_ (by first | omega | (simp <;> omega)) _ | with_reducible refine balloc ?_ _ | with_reducible refine Below.drew ?_ | with_reducible refine bstep ?_ (by with_reducible assumption))); first | (simp; done) | (simp <;> omega) | (simp [*]; done))
      · skip
        cases y
        · clear hz
          rcases HD with rfl | ⟨rfl, hq⟩
          · skip
            go_wp2_with fail
            refine Calls.mono (H5.out _ (by repeat (first | with_reducible exact Below.refl _ _ | with_reducible assumption | with_reducible refine Below.setCell ?_ (by first | omega | (simp <;> omega)) _ | with_reducible refine balloc ?_ _ | with_reducible refine Below.drew ?_ | with_reducible refine bstep ?_ (by with_reducible assumption)))) ?_
            rintro e w6 ⟨rfl, hb⟩
            replace kv0 := cell_later hb kv0
            replace kv1 := cell_later hb kv1
            replace zv : w.heap.size < w6.heap.size := World.block_lt_of_cell? _ _ kv0
            have zv_w6 := zv
            replace hb0 : Below w.heap.size w w6 := (by repeat (first | with_reducible exact Below.refl _ _ | with_reducible assumption | with_reducible refine Below.setCell ?_ (by first | omega | (simp <;> omega)) _ | with_reducible refine balloc ?_ _ | with_reducible refine Below.drew ?_ | with_reducible refine bstep ?_ (by with_reducible assumption)))
            have hs_w6 : w5.heap.size ≤ w6.heap.size := hb.size
            clear hb
            go_wp2_with fail
            refine Calls.mono (H6.out _ (by repeat (first | with_reducible exact Below.refl _ _ | with_reducible assumption | with_reducible refine Below.setCell ?_ (by first | omega | (simp <;> omega)) _ | with_reducible refine balloc ?_ _ | with_reducible refine Below.drew ?_ | with_reducible refine bstep ?_ (by with_reducible assumption)))) ?_
            rintro e w7 ⟨rfl, hb⟩
            replace kv0 := cell_later hb kv0
            replace kv1 := cell_later hb kv1
            replace zv : w.heap.size < w7.heap.size := World.block_lt_of_cell? _ _ kv0
            have zv_w7 := zv
            replace hb0 : Below w.heap.size w w7 := (by repeat (first | with_reducible exact Below.refl _ _ | with_reducible assumption | with_reducible refine Below.setCell ?_ (by first | omega | (simp <;> omega)) _ | with_reducible refine balloc ?_ _ | with_reducible refine Below.drew ?_ | with_reducible refine bstep ?_ (by with_reducible assumption)))
            have hs_w7 : w6.heap.size ≤ w7.heap.size := hb.size
            clear hb
            go_wp2
            all_goals first | (exfalso; omega) | (go_ret; refine ret_bool ?_ (by repeat (first | with_reducible exact Below.refl _ _ | with_reducible assumption | with_reducible refine Below.setCell ?_ (by first | omega | (simp <;> omega)) _ | with_reducible refine balloc ?_ _ | with_reducible refine Below.drew ?_ | with_reducible refine bstep ?_ (by with_reducible assumption))); first | (simp; done) | (simp <;> omega) | (simp [*]; done))
          · have hq2 : ci = k → cl = k ∧ cj ≤ cm := hq rfl
            clear hq
            go_wp2_with fail
            refine Calls.mono (H5.out _ (by repeat (first | with_reducible exact Below.refl _ _ | with_reducible assumption | with_reducible refine Below.setCell ?_ (by first | omega | (simp <;> omega)) _ | with_reducible refine balloc ?_ _ | with_reducible refine Below.drew ?_ | with_reducible refine bstep ?_ (by with_reducible assumption)))) ?_
            rintro e w6 ⟨rfl, hb⟩
            replace kv0 := cell_later hb kv0
            replace kv1 := cell_later hb kv1
            replace zv : w.heap.size < w6.heap.size := World.block_lt_of_cell? _ _ kv0
            have zv_w6 := zv
            replace hb0 : Below w.heap.size w w6 := (by repeat (first | with_reducible exact Below.refl _ _ | with_reducible assumption | with_reducible refine Below.setCell ?_ (by first | omega | (simp <;> omega)) _ | with_reducible refine balloc ?_ _ | with_reducible refine Below.drew ?_ | with_reducible refine bstep ?_ (by with_reducible assumption)))
            have hs_w6 : w5.heap.size ≤ w6.heap.size := hb.size
            clear hb
            go_wp2_with fail
            refine Calls.mono (H6.out _ (by repeat (first | with_reducible exact Below.refl _ _ | with_reducible assumption | with_reducible refine Below.setCell ?_ (by first | omega | (simp <;> omega)) _ | with_reducible refine balloc ?_ _ | with_reducible refine Below.drew ?_ | with_reducible refine bstep ?_ (by with_reducible assumption)))) ?_
            rintro e w7 ⟨rfl, hb⟩
            replace kv0 := cell_later hb kv0
            replace kv1 := cell_later hb kv1
            replace zv : w.heap.size < w7.heap.size := World.block_lt_of_cell? _ _ kv0
            have zv_w7 := zv
            replace hb0 : Below w.heap.size w w7 := (by repeat (first | with_reducible exact Below.refl _ _ | with_reducible assumption | with_reducible refine Below.setCell ?_ (by first | omega | (simp <;> omega)) _ | with_reducible refine balloc ?_ _ | with_reducible refine Below.drew ?_ | with_reducible refine bstep ?_ (by with_reducible assumption)))
            have hs_w7 : w6.heap.size ≤ w7.heap.size := hb.size
            clear hb
            go_wp2
            all_goals first | (exfalso; omega) | (go_ret; refine ret_bool ?_ (by repeat (first | with_reducible exact Below.refl _ _ | with_reducible assumption | with_reducible refine Below.setCell ?_ (by first | omega | (simp <;> omega)) _ | with_reducible refine balloc ?_ _ | with_reducible refine Below.drew ?_ | with_reducible refine bstep ?_ (by with_reducible assumption))); first | (simp; done) | (simp <;> omega) | (simp [*]; done))
        · have hz2 : z = true := hz rfl rfl
          subst hz2
          clear hz
          rcases HD with rfl | ⟨rfl, hq⟩
          · skip
            go_wp2_with fail
            refine Calls.mono (H5.out _ (by repeat (first | with_reducible exact Below.refl _ _ | with_reducible assumption | with_reducible refine Below.setCell ?_ (by first | omega | (simp <;> omega)) _ | with_reducible refine balloc ?_ _ | with_reducible refine Below.drew ?_ | with_reducible refine bstep ?_ (by with_reducible assumption)))) ?_
            rintro e w6 ⟨rfl, hb⟩
            replace kv0 := cell_later hb kv0
            replace kv1 := cell_later hb kv1
            replace zv : w.heap.size < w6.heap.size := World.block_lt_of_cell? _ _ kv0
            have zv_w6 := zv
            replace hb0 : Below w.heap.size w w6 := (by repeat (first | with_reducible exact Below.refl _ _ | with_reducible assumption | with_reducible refine Below.setCell ?_ (by first | omega | (simp <;> omega)) _ | with_reducible refine balloc ?_ _ | with_reducible refine Below.drew ?_ | with_reducible refine bstep ?_ (by with_reducible assumption)))
            have hs_w6 : w5.heap.size ≤ w6.heap.size := hb.size
            clear hb
            go_wp2_with fail
            refine Calls.mono (H6.out _ (by repeat (first | with_reducible exact Below.refl _ _ | with_reducible assumption | with_reducible refine Below.setCell ?_ (by first | omega | (simp <;> omega)) _ | with_reducible refine balloc ?_ _ | with_reducible refine Below.drew ?_ | with_reducible refine bstep ?_ (by with_reducible assumption)))) ?_
            rintro e w7 ⟨rfl, hb⟩
            replace kv0 := cell_later hb kv0
            replace kv1 := cell_later hb kv1
            replace zv : w.heap.size < w7.heap.size := World.block_lt_of_cell? _ _ kv0
            have zv_w7 := zv
            replace hb0 : Below w.heap.size w w7 := (by repeat (first | with_reducible exact Below.refl _ _ | with_reducible assumption | with_reducible refine Below.setCell ?_ (by first | omega | (simp <;> omega)) _ | with_reducible refine balloc ?_ _ | with_reducible refine Below.drew ?_ | with_reducible refine bstep ?_ (by with_reducible assumption)))
            have hs_w7 : w6.heap.size ≤ w7.heap.size := hb.size
            clear hb
            go_wp2
            all_goals first | (exfalso; omega) | (go_ret; refine ret_bool ?_ (by repeat (first | with_reducible exact Below.refl _ _ | with_reducible assumption | with_reducible refine Below.setCell ?_ (by first | omega | (simp <;> omega)) _ | with_reducible refine balloc ?_ _ | with_reducible refine Below.drew ?_ | with_reducible refine bstep ?_ (by with_reducible assumption))); first | (simp; done) | (simp <;> omega) | (simp [*]; done))
          · have hq2 : ci = k → cl = k ∧ cj ≤ cm := hq rfl
            clear hq
            go_wp2_with fail
            refine Calls.mono (H5.out _ (by repeat (first | with_reducible exact Below.refl _ _ | with_reducible assumption | with_reducible refine Below.setCell ?_ (by first | omega | (simp <;> omega)) _ | with_reducible refine balloc ?_ _ | with_reducible refine Below.drew ?_ | with_reducible refine bstep ?_ (by with_reducible assumption)))) ?_
            rintro e w6 ⟨rfl, hb⟩
            replace kv0 := cell_later hb kv0
            replace kv1 := cell_later hb kv1
            replace zv : w.heap.size < w6.heap.size := World.block_lt_of_cell? _ _ kv0
            have zv_w6 := zv
            replace hb0 : Below w.heap.size w w6 := (by repeat (first | with_reducible exact Below.refl _ _ | with_reducible assumption | with_reducible refine Below.setCell ?_ (by first | omega | (simp <;> omega)) _ | with_reducible refine balloc ?_ _ | with_reducible refine Below.drew ?_ | with_reducible refine bstep ?_ (by with_reducible assumption)))
            have hs_w6 : w5.heap.size ≤ w6.heap.size := hb.size
            clear hb
            go_wp2_with fail
            refine Calls.mono (H6.out _ (by repeat (first | with_reducible exact Below.refl _ _ | with_reducible assumption | with_reducible refine Below.setCell ?_ (by first | omega | (simp <;> omega)) _ | with_reducible refine balloc ?_ _ | with_reducible refine Below.drew ?_ | with_reducible refine bstep ?_ (by with_reducible assumption)))) ?_
            rintro e w7 ⟨rfl, hb⟩
            replace kv0 := cell_later hb kv0
            replace kv1 := cell_later hb kv1
            replace zv : w.heap.size < w7.heap.size := World.block_lt_of_cell? _ _ kv0
            have zv_w7 := zv
            replace hb0 : Below w.heap.size w w7 := (by repeat (first | with_reducible exact Below.refl _ _ | with_reducible assumption | with_reducible refine Below.setCell ?_ (by first | omega | (simp <;> omega)) _ | with_reducible refine balloc ?_ _ | with_reducible refine Below.drew ?_ | with_reducible refine bstep ?_ (by with_reducible assumption)))
            have hs_w7 : w6.heap.size ≤ w7.heap.size := hb.size
            clear hb
            go_wp2
            all_goals first | (exfalso; omega) | (go_ret; refine ret_bool ?_ (by repeat (first | with_reducible exact Below.refl _ _ | with_reducible assumption | with_reducible refine Below.setCell ?_ (by first | omega | (simp <;> omega)) _ | with_reducible refine balloc ?_ _ | with_reducible refine Below.drew ?_ | with_reducible refine bstep ?_ (by with_reducible assumption))); first | (simp; done) | (simp <;> omega) | (simp [*]; done))


end Go.Proofs.Ytfhhocihlkgfjaa.Se

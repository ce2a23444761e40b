/- L5SeenW: the law Seen. -/
import Derived.Test.YtfhhocihlkgfjaaSecZ
import Derived.Test.YtfhhocihlkgfjaaSecT
import Derived.Test.YtfhhocihlkgfjaaL5TurnW
import Derived.Test.YtfhhocihlkgfjaaRows
import Derived.WalkKit
import Derived.WalkSpells
import Derived.WalkLawsBesides
import Derived.Lib.Hide
import Derived.Deep.QuietTactic
import Derived.BigQuiet
import Derived.RegionTactic
import Derived.ChangeAlike
import Derived.BigRegion
import Derived.Deep.RegionHeld3
import Derived.Deep.RegionWith
import Derived.Outline
import Derived.IntWalk
import Derived.Deep.DeepCutAuto
namespace Go.Proofs.Ytfhhocihlkgfjaa.Se
open Go.RowKit
set_option linter.unusedSimpArgs false
set_option linter.unusedVariables false

theorem near_deg (p1 p2 a1 a2 d : Int) : nearB p1 p2 a1 a2 a1 a2 d = decide ((p1 - a1) * (p1 - a1) + (p2 - a2) * (p2 - a2) ≤ d * d) := by
  unfold nearB cmpDist
  rw [if_pos (.inl ⟨rfl, rfl⟩), decide_eq_decide]
  have e : sq a1 a2 p1 p2 = (p1 - a1) * (p1 - a1) + (p2 - a2) * (p2 - a2) := rfl
  rw [e]
  rcases cmp_cases ((p1 - a1) * (p1 - a1) + (p2 - a2) * (p2 - a2)) (d * d) with ⟨h, q⟩ | ⟨h, q⟩ | ⟨h, q⟩ <;> rw [q] <;> omega
theorem sh_scale (l : List Sec) (v : V) : shL l (2 * v.1, 2 * v.2) = shL l v := by
  refine find_congr fun s _ => ?_
  have h2 := cmV_scale (m := 1) (n := 2) (by omega) (by omega) s.fr v
  have h3 := cmV_scale (m := 1) (n := 2) (by omega) (by omega) s.to v
  simp only [Int.one_mul] at h2 h3
  unfold hasS hasV
  rw [h2, h3]
theorem seL_eq (l : List Sec) (a1 a2 p1 p2 v1 v2 : Int) (h1 : p1 - a1 = v1) (h2 : p2 - a2 = v2) : seL l a1 a2 p1 p2 = if v1 * v1 + v2 * v2 ≤ (shL l (v1, v2)).2 * (shL l (v1, v2)).2 then (shL l (v1, v2)).1 else 0 := by
  unfold seL
  rw [near_deg, h1, h2]
  simp only [decide_eq_true_eq]
/-- What is seen, at a place and twice as far. -/
theorem seen_cases (l : List Sec) (v1 v2 : Int) {c far : Int} (hc : c = if v1 * v1 + v2 * v2 ≤ (shL l (v1, v2)).2 * (shL l (v1, v2)).2 then (shL l (v1, v2)).1 else 0)
    (hf : far = if (2 * v1) * (2 * v1) + (2 * v2) * (2 * v2) ≤ (shL l (2 * v1, 2 * v2)).2 * (shL l (2 * v1, 2 * v2)).2 then (shL l (2 * v1, 2 * v2)).1 else 0) :
    ((shL l (v1, v2)).1 = 0 ∧ c = 0 ∧ far = 0) ∨ ((shL l (v1, v2)).1 ≠ 0 ∧ (shL l (v1, v2)).2 * (shL l (v1, v2)).2 < v1 * v1 + v2 * v2 ∧ c = 0 ∧ far = 0) ∨
    ((shL l (v1, v2)).1 ≠ 0 ∧ v1 * v1 + v2 * v2 ≤ (shL l (v1, v2)).2 * (shL l (v1, v2)).2 ∧ c = (shL l (v1, v2)).1 ∧ (far = 0 ∨ far = (shL l (v1, v2)).1)) := by
  have hs := sh_scale l (v1, v2)
  dsimp only at hs
  rw [hs] at hf
  generalize shL l (v1, v2) = q at *
  have n1 := sq_nn v1
  have n2 := sq_nn v2
  have e1 : (2 * v1) * (2 * v1) = 4 * (v1 * v1) := by grind
  have e2 : (2 * v2) * (2 * v2) = 4 * (v2 * v2) := by grind
  rw [e1, e2] at hf
  by_cases h0 : q.1 = 0
  · left
    rw [h0] at hc hf
    exact ⟨h0, by simpa using hc, by simpa using hf⟩
  · right
    by_cases hn : v1 * v1 + v2 * v2 ≤ q.2 * q.2
    · right
      rw [if_pos hn] at hc
      refine ⟨h0, hn, hc, ?_⟩
      split at hf
      · exact .inr hf
      · exact .inl hf
    · left
      rw [if_neg hn] at hc
      rw [if_neg (by omega)] at hf
      exact ⟨h0, by omega, hc, hf⟩

set_option maxRecDepth 100000 in
set_option maxHeartbeats 12800000 in
theorem seen_walk (w : World) (va : Value) (l : List Sec) (ha : Secs w va l) (x1 x2 y1 y2 z1 z2 : Int) (HEAD : ∀ w, Calls Try.prog 11 #[] w (Ret w (.bool true))) : Calls Try.prog 10 #[va, (.agg #[.int .i64 x1, .int .i64 x2]), (.agg #[.int .i64 y1, .int .i64 y2]), (.agg #[.int .i64 z1, .int .i64 z2])] w (Ret w (.bool true)) := by
  obtain ⟨pa, ca, rfl⟩ : ∃ p c, va = .slice p l.length c := by obtain ⟨⟨p, c, h, _⟩, _⟩ := ha; exact ⟨p, c, h⟩
  by_cases hval : (vaL l && (okB x1 x2 && okB y1 y2)) = true
  · simp only [Bool.and_eq_true, okB_iff] at hval
    obtain ⟨vl, hx, hy⟩ := hval
    have all := (vaL_all vl).2
    by_cases he : y1 = x1 ∧ y2 = x2
    · skip
      obtain ⟨rfl, rfl⟩ := he
      have N1 : ∀ W, Below w.heap.size w W → Calls Try.prog 25 #[(.slice pa l.length ca), .agg #[(.int .i64 y1), (.int .i64 y2)], .agg #[(.int .i64 y1), (.int .i64 y2)]] W (Ret W (.tuple #[(.int .i64 0), (.int .i64 4)])) := fun W h => Seen_same _ l y1 y2 W (ha.below h) vl hx
      have H1 := Lib.hid N1
      clear N1 ha
      go_enter Try.func10, Try.ntmps10
      go_wp2_with fail
      refine Calls.mono (HEAD _) ?_
      rintro e w1 ⟨rfl, hb⟩
      have kx0 : w1.cell? ⟨w.heap.size, 0, none⟩ = some (.int .i64 y1) := cell_later hb (by go_simp)
      have kx1 : w1.cell? ⟨w.heap.size, 1, none⟩ = some (.int .i64 y2) := cell_later hb (by go_simp)
      have ky0 : w1.cell? ⟨w.heap.size + 1, 0, none⟩ = some (.int .i64 y1) := cell_later hb (by go_simp)
      have ky1 : w1.cell? ⟨w.heap.size + 1, 1, none⟩ = some (.int .i64 y2) := cell_later hb (by go_simp)
      have kz0 : w1.cell? ⟨w.heap.size + 1 + 1, 0, none⟩ = some (.int .i64 z1) := cell_later hb (by go_simp)
      have kz1 : w1.cell? ⟨w.heap.size + 1 + 1, 1, none⟩ = some (.int .i64 z2) := cell_later hb (by go_simp)
      have zx : w.heap.size < w1.heap.size := World.block_lt_of_cell? _ _ kx0
      have zx_w1 := zx
      have zy : w.heap.size + 1 < w1.heap.size := World.block_lt_of_cell? _ _ ky0
      have zy_w1 := zy
      have zz : w.heap.size + 1 + 1 < w1.heap.size := World.block_lt_of_cell? _ _ kz0
      have zz_w1 := zz
      have hb0 : Below w.heap.size w w1 := (by repeat (first | with_reducible exact Below.refl _ _ | with_reducible assumption | with_reducible refine Below.setCell ?_ (by first | omega | (simp <;> omega)) _ | with_reducible refine balloc ?_ _ | with_reducible refine Below.drew ?_ | with_reducible refine bstep ?_ (by with_reducible assumption)))
      have hs_w1 := hb.size; (try simp only [World.size_alloc, World.size_setCell] at hs_w1)
      clear hb
      go_wp2_with fail
      refine Calls.mono (H1.out _ (by repeat (first | with_reducible exact Below.refl _ _ | with_reducible assumption | with_reducible refine Below.setCell ?_ (by first | omega | (simp <;> omega)) _ | with_reducible refine balloc ?_ _ | with_reducible refine Below.drew ?_ | with_reducible refine bstep ?_ (by with_reducible assumption)))) ?_
      rintro e w2 ⟨rfl, hb⟩
      replace kx0 := cell_later hb kx0
      replace kx1 := cell_later hb kx1
      replace ky0 := cell_later hb ky0
      replace ky1 := cell_later hb ky1
      replace kz0 := cell_later hb kz0
      replace kz1 := cell_later hb kz1
      replace zx : w.heap.size < w2.heap.size := World.block_lt_of_cell? _ _ kx0
      have zx_w2 := zx
      replace zy : w.heap.size + 1 < w2.heap.size := World.block_lt_of_cell? _ _ ky0
      have zy_w2 := zy
      replace zz : w.heap.size + 1 + 1 < w2.heap.size := World.block_lt_of_cell? _ _ kz0
      have zz_w2 := zz
      replace hb0 : Below w.heap.size w w2 := (by repeat (first | with_reducible exact Below.refl _ _ | with_reducible assumption | with_reducible refine Below.setCell ?_ (by first | omega | (simp <;> omega)) _ | with_reducible refine balloc ?_ _ | with_reducible refine Below.drew ?_ | with_reducible refine bstep ?_ (by with_reducible assumption)))
      have hs_w2 : w1.heap.size ≤ w2.heap.size := hb.size
      clear hb
      go_wp2
      all_goals first | (exfalso; omega) | (go_ret; refine ret_bool ?_ (by repeat (first | with_reducible exact Below.refl _ _ | with_reducible assumption | with_reducible refine Below.setCell ?_ (by first | omega | (simp <;> omega)) _ | with_reducible refine balloc ?_ _ | with_reducible refine Below.drew ?_ | with_reducible refine bstep ?_ (by with_reducible assumption))); first | (simp; done) | (simp <;> omega) | (simp [*]; done))
    · skip
      obtain ⟨c, hc⟩ : ∃ c, seL l x1 x2 y1 y2 = c := ⟨_, rfl⟩
      have N1 : ∀ W, Below w.heap.size w W → Calls Try.prog 25 #[(.slice pa l.length ca), .agg #[(.int .i64 x1), (.int .i64 x2)], .agg #[(.int .i64 y1), (.int .i64 y2)]] W (Ret W (.tuple #[(.int .i64 c), (.int .i64 0)])) := fun W h => by have := Seen_ok _ l x1 x2 y1 y2 W (ha.below h) vl hx hy he; rwa [hc] at this
      have H1 := Lib.hid N1
      clear N1
      cases h1 : wiB (x1, x2) 100000
      · have U1 : ∀ w, Calls Try.prog 28 #[.agg #[(.int .i64 x1), (.int .i64 x2)], (.int .i64 100000)] w (Ret w (.bool false)) := fun w => by have := within_c x1 x2 100000 w (by omega); rwa [h1] at this
        have HU1 := Lib.hid U1
        clear U1 ha
        go_enter Try.func10, Try.ntmps10
        go_wp2_with fail
        refine Calls.mono (HEAD _) ?_
        rintro e w1 ⟨rfl, hb⟩
        have kx0 : w1.cell? ⟨w.heap.size, 0, none⟩ = some (.int .i64 x1) := cell_later hb (by go_simp)
        have kx1 : w1.cell? ⟨w.heap.size, 1, none⟩ = some (.int .i64 x2) := cell_later hb (by go_simp)
        have ky0 : w1.cell? ⟨w.heap.size + 1, 0, none⟩ = some (.int .i64 y1) := cell_later hb (by go_simp)
        have ky1 : w1.cell? ⟨w.heap.size + 1, 1, none⟩ = some (.int .i64 y2) := cell_later hb (by go_simp)
        have kz0 : w1.cell? ⟨w.heap.size + 1 + 1, 0, none⟩ = some (.int .i64 z1) := cell_later hb (by go_simp)
        have kz1 : w1.cell? ⟨w.heap.size + 1 + 1, 1, none⟩ = some (.int .i64 z2) := cell_later hb (by go_simp)
        have zx : w.heap.size < w1.heap.size := World.block_lt_of_cell? _ _ kx0
        have zx_w1 := zx
        have zy : w.heap.size + 1 < w1.heap.size := World.block_lt_of_cell? _ _ ky0
        have zy_w1 := zy
        have zz : w.heap.size + 1 + 1 < w1.heap.size := World.block_lt_of_cell? _ _ kz0
        have zz_w1 := zz
        have hb0 : Below w.heap.size w w1 := (by repeat (first | with_reducible exact Below.refl _ _ | with_reducible assumption | with_reducible refine Below.setCell ?_ (by first | omega | (simp <;> omega)) _ | with_reducible refine balloc ?_ _ | with_reducible refine Below.drew ?_ | with_reducible refine bstep ?_ (by with_reducible assumption)))
        have hs_w1 := hb.size; (try simp only [World.size_alloc, World.size_setCell] at hs_w1)
        clear hb
        go_wp2_with fail
        refine Calls.mono (H1.out _ (by repeat (first | with_reducible exact Below.refl _ _ | with_reducible assumption | with_reducible refine Below.setCell ?_ (by first | omega | (simp <;> omega)) _ | with_reducible refine balloc ?_ _ | with_reducible refine Below.drew ?_ | with_reducible refine bstep ?_ (by with_reducible assumption)))) ?_
        rintro e w2 ⟨rfl, hb⟩
        replace kx0 := cell_later hb kx0
        replace kx1 := cell_later hb kx1
        replace ky0 := cell_later hb ky0
        replace ky1 := cell_later hb ky1
        replace kz0 := cell_later hb kz0
        replace kz1 := cell_later hb kz1
        replace zx : w.heap.size < w2.heap.size := World.block_lt_of_cell? _ _ kx0
        have zx_w2 := zx
        replace zy : w.heap.size + 1 < w2.heap.size := World.block_lt_of_cell? _ _ ky0
        have zy_w2 := zy
        replace zz : w.heap.size + 1 + 1 < w2.heap.size := World.block_lt_of_cell? _ _ kz0
        have zz_w2 := zz
        replace hb0 : Below w.heap.size w w2 := (by repeat (first | with_reducible exact Below.refl _ _ | with_reducible assumption | with_reducible refine Below.setCell ?_ (by first | omega | (simp <;> omega)) _ | with_reducible refine balloc ?_ _ | with_reducible refine Below.drew ?_ | with_reducible refine bstep ?_ (by with_reducible assumption)))
        have hs_w2 : w1.heap.size ≤ w2.heap.size := hb.size
        clear hb
        go_wp2_with fail
        refine Calls.mono (HU1.out _) ?_
        rintro e w3 ⟨rfl, hb⟩
        replace kx0 := cell_later hb kx0
        replace kx1 := cell_later hb kx1
        replace ky0 := cell_later hb ky0
        replace ky1 := cell_later hb ky1
        replace kz0 := cell_later hb kz0
        replace kz1 := cell_later hb kz1
        replace zx : w.heap.size < w3.heap.size := World.block_lt_of_cell? _ _ kx0
        have zx_w3 := zx
        replace zy : w.heap.size + 1 < w3.heap.size := World.block_lt_of_cell? _ _ ky0
        have zy_w3 := zy
        replace zz : w.heap.size + 1 + 1 < w3.heap.size := World.block_lt_of_cell? _ _ kz0
        have zz_w3 := zz
        replace hb0 : Below w.heap.size w w3 := (by repeat (first | with_reducible exact Below.refl _ _ | with_reducible assumption | with_reducible refine Below.setCell ?_ (by first | omega | (simp <;> omega)) _ | with_reducible refine balloc ?_ _ | with_reducible refine Below.drew ?_ | with_reducible refine bstep ?_ (by with_reducible assumption)))
        have hs_w3 : w2.heap.size ≤ w3.heap.size := hb.size
        clear hb
        go_wp2
        all_goals first | (exfalso; omega) | (go_ret; refine ret_bool ?_ (by repeat (first | with_reducible exact Below.refl _ _ | with_reducible assumption | with_reducible refine Below.setCell ?_ (by first | omega | (simp <;> omega)) _ | with_reducible refine balloc ?_ _ | with_reducible refine Below.drew ?_ | with_reducible refine bstep ?_ (by with_reducible assumption))); first | (simp; done) | (simp <;> omega) | (simp [*]; done))
      · skip
        cases h2 : wiB (y1, y2) 100000
        · have U1 : ∀ w, Calls Try.prog 28 #[.agg #[(.int .i64 x1), (.int .i64 x2)], (.int .i64 100000)] w (Ret w (.bool true)) := fun w => by have := within_c x1 x2 100000 w (by omega); rwa [h1] at this
          have U2 : ∀ w, Calls Try.prog 28 #[.agg #[(.int .i64 y1), (.int .i64 y2)], (.int .i64 100000)] w (Ret w (.bool false)) := fun w => by have := within_c y1 y2 100000 w (by omega); rwa [h2] at this
          have HU1 := Lib.hid U1
          have HU2 := Lib.hid U2
          clear U1 U2 ha
          go_enter Try.func10, Try.ntmps10
          go_wp2_with fail
          refine Calls.mono (HEAD _) ?_
          rintro e w1 ⟨rfl, hb⟩
          have kx0 : w1.cell? ⟨w.heap.size, 0, none⟩ = some (.int .i64 x1) := cell_later hb (by go_simp)
          have kx1 : w1.cell? ⟨w.heap.size, 1, none⟩ = some (.int .i64 x2) := cell_later hb (by go_simp)
          have ky0 : w1.cell? ⟨w.heap.size + 1, 0, none⟩ = some (.int .i64 y1) := cell_later hb (by go_simp)
          have ky1 : w1.cell? ⟨w.heap.size + 1, 1, none⟩ = some (.int .i64 y2) := cell_later hb (by go_simp)
          have kz0 : w1.cell? ⟨w.heap.size + 1 + 1, 0, none⟩ = some (.int .i64 z1) := cell_later hb (by go_simp)
          have kz1 : w1.cell? ⟨w.heap.size + 1 + 1, 1, none⟩ = some (.int .i64 z2) := cell_later hb (by go_simp)
          have zx : w.heap.size < w1.heap.size := World.block_lt_of_cell? _ _ kx0
          have zx_w1 := zx
          have zy : w.heap.size + 1 < w1.heap.size := World.block_lt_of_cell? _ _ ky0
          have zy_w1 := zy
          have zz : w.heap.size + 1 + 1 < w1.heap.size := World.block_lt_of_cell? _ _ kz0
          have zz_w1 := zz
          have hb0 : Below w.heap.size w w1 := (by repeat (first | with_reducible exact Below.refl _ _ | with_reducible assumption | with_reducible refine Below.setCell ?_ (by first | omega | (simp <;> omega)) _ | with_reducible refine balloc ?_ _ | with_reducible refine Below.drew ?_ | with_reducible refine bstep ?_ (by with_reducible assumption)))
          have hs_w1 := hb.size; (try simp only [World.size_alloc, World.size_setCell] at hs_w1)
          clear hb
          go_wp2_with fail
          refine Calls.mono (H1.out _ (by repeat (first | with_reducible exact Below.refl _ _ | with_reducible assumption | with_reducible refine Below.setCell ?_ (by first | omega | (simp <;> omega)) _ | with_reducible refine balloc ?_ _ | with_reducible refine Below.drew ?_ | with_reducible refine bstep ?_ (by with_reducible assumption)))) ?_
          rintro e w2 ⟨rfl, hb⟩
          replace kx0 := cell_later hb kx0
          replace kx1 := cell_later hb kx1
          replace ky0 := cell_later hb ky0
          replace ky1 := cell_later hb ky1
          replace kz0 := cell_later hb kz0
          replace kz1 := cell_later hb kz1
          replace zx : w.heap.size < w2.heap.size := World.block_lt_of_cell? _ _ kx0
          have zx_w2 := zx
          replace zy : w.heap.size + 1 < w2.heap.size := World.block_lt_of_cell? _ _ ky0
          have zy_w2 := zy
          replace zz : w.heap.size + 1 + 1 < w2.heap.size := World.block_lt_of_cell? _ _ kz0
          have zz_w2 := zz
          replace hb0 : Below w.heap.size w w2 := (by repeat (first | with_reducible exact Below.refl _ _ | with_reducible assumption | with_reducible refine Below.setCell ?_ (by first | omega | (simp <;> omega)) _ | with_reducible refine balloc ?_ _ | with_reducible refine Below.drew ?_ | with_reducible refine bstep ?_ (by with_reducible assumption)))
          have hs_w2 : w1.heap.size ≤ w2.heap.size := hb.size
          clear hb
          go_wp2_with fail
          refine Calls.mono (HU1.out _) ?_
          rintro e w3 ⟨rfl, hb⟩
          replace kx0 := cell_later hb kx0
          replace kx1 := cell_later hb kx1
          replace ky0 := cell_later hb ky0
          replace ky1 := cell_later hb ky1
          replace kz0 := cell_later hb kz0
          replace kz1 := cell_later hb kz1
          replace zx : w.heap.size < w3.heap.size := World.block_lt_of_cell? _ _ kx0
          have zx_w3 := zx
          replace zy : w.heap.size + 1 < w3.heap.size := World.block_lt_of_cell? _ _ ky0
          have zy_w3 := zy
          replace zz : w.heap.size + 1 + 1 < w3.heap.size := World.block_lt_of_cell? _ _ kz0
          have zz_w3 := zz
          replace hb0 : Below w.heap.size w w3 := (by repeat (first | with_reducible exact Below.refl _ _ | with_reducible assumption | with_reducible refine Below.setCell ?_ (by first | omega | (simp <;> omega)) _ | with_reducible refine balloc ?_ _ | with_reducible refine Below.drew ?_ | with_reducible refine bstep ?_ (by with_reducible assumption)))
          have hs_w3 : w2.heap.size ≤ w3.heap.size := hb.size
          clear hb
          go_wp2_with fail
          refine Calls.mono (HU2.out _) ?_
          rintro e w4 ⟨rfl, hb⟩
          replace kx0 := cell_later hb kx0
          replace kx1 := cell_later hb kx1
          replace ky0 := cell_later hb ky0
          replace ky1 := cell_later hb ky1
          replace kz0 := cell_later hb kz0
          replace kz1 := cell_later hb kz1
          replace zx : w.heap.size < w4.heap.size := World.block_lt_of_cell? _ _ kx0
          have zx_w4 := zx
          replace zy : w.heap.size + 1 < w4.heap.size := World.block_lt_of_cell? _ _ ky0
          have zy_w4 := zy
          replace zz : w.heap.size + 1 + 1 < w4.heap.size := World.block_lt_of_cell? _ _ kz0
          have zz_w4 := zz
          replace hb0 : Below w.heap.size w w4 := (by repeat (first | with_reducible exact Below.refl _ _ | with_reducible assumption | with_reducible refine Below.setCell ?_ (by first | omega | (simp <;> omega)) _ | with_reducible refine balloc ?_ _ | with_reducible refine Below.drew ?_ | with_reducible refine bstep ?_ (by with_reducible assumption)))
          have hs_w4 : w3.heap.size ≤ w4.heap.size := hb.size
          clear hb
          go_wp2
          all_goals first | (exfalso; omega) | (go_ret; refine ret_bool ?_ (by repeat (first | with_reducible exact Below.refl _ _ | with_reducible assumption | with_reducible refine Below.setCell ?_ (by first | omega | (simp <;> omega)) _ | with_reducible refine balloc ?_ _ | with_reducible refine Below.drew ?_ | with_reducible refine bstep ?_ (by with_reducible assumption))); first | (simp; done) | (simp <;> omega) | (simp [*]; done))
        · skip
          have U1 : ∀ w, Calls Try.prog 28 #[.agg #[(.int .i64 x1), (.int .i64 x2)], (.int .i64 100000)] w (Ret w (.bool true)) := fun w => by have := within_c x1 x2 100000 w (by omega); rwa [h1] at this
          have U2 : ∀ w, Calls Try.prog 28 #[.agg #[(.int .i64 y1), (.int .i64 y2)], (.int .i64 100000)] w (Ret w (.bool true)) := fun w => by have := within_c y1 y2 100000 w (by omega); rwa [h2] at this
          have b1 := wiB_iff.1 h1
          have b2 := wiB_iff.1 h2
          dsimp only at b1 b2
          obtain ⟨⟨b11, b12⟩, b13, b14⟩ := b1
          obtain ⟨⟨b21, b22⟩, b23, b24⟩ := b2
          obtain ⟨v1, hv1⟩ : ∃ v, y1 - x1 = v := ⟨_, rfl⟩
          obtain ⟨v2, hv2⟩ : ∃ v, y2 - x2 = v := ⟨_, rfl⟩
          have hvd : okD (v1, v2) = true := okD_iff.2 ⟨fun h => he (by have e1 := congrArg Prod.fst h; have e2 := congrArg Prod.snd h; dsimp only at e1 e2; omega), by dsimp only; omega, by dsimp only; omega⟩
          have N2 : ∀ W, Below w.heap.size w W → Calls Try.prog 16 #[(.slice pa l.length ca), .agg #[(.int .i64 v1), (.int .i64 v2)]] W (Ret W (.tuple #[(.int .i64 ((shL l (v1, v2)).1)), (.int .i64 ((shL l (v1, v2)).2)), (.int .i64 0)])) := fun W h => Color_ok _ l v1 v2 W (ha.below h) vl hvd
          obtain ⟨far, hf⟩ : ∃ f, seL l x1 x2 (x1 + 2 * v1) (x2 + 2 * v2) = f := ⟨_, rfl⟩
          have okf : ok (x1 + 2 * v1) (x2 + 2 * v2) := by unfold ok; omega
          have N3 : ∀ W, Below w.heap.size w W → Calls Try.prog 25 #[(.slice pa l.length ca), .agg #[(.int .i64 x1), (.int .i64 x2)], .agg #[(.int .i64 ((x1 + 2 * v1))), (.int .i64 ((x2 + 2 * v2)))]] W (Ret W (.tuple #[(.int .i64 far), (.int .i64 0)])) := fun W h => by have := Seen_ok _ l x1 x2 (x1 + 2 * v1) (x2 + 2 * v2) W (ha.below h) vl hx okf (fun h => he (by omega)); rwa [hf] at this
          have okz : wiB (z1, z2) 100000 = true → ok (x1 + z1) (x2 + z2) ∧ ok (y1 + z1) (y2 + z2) := fun h => by have b3 := wiB_iff.1 h; dsimp only at b3; unfold ok; omega
          have hm : seL l (x1 + z1) (x2 + z2) (y1 + z1) (y2 + z2) = c := by rw [← hc, seL_eq l _ _ _ _ v1 v2 (by omega) (by omega), seL_eq l _ _ _ _ v1 v2 hv1 hv2]
          have N4 : wiB (z1, z2) 100000 = true → ∀ W, Below w.heap.size w W → Calls Try.prog 25 #[(.slice pa l.length ca), .agg #[(.int .i64 ((x1 + z1))), (.int .i64 ((x2 + z2)))], .agg #[(.int .i64 ((y1 + z1))), (.int .i64 ((y2 + z2)))]] W (Ret W (.tuple #[(.int .i64 c), (.int .i64 0)])) := fun hz W h => by have := Seen_ok _ l (x1 + z1) (x2 + z2) (y1 + z1) (y2 + z2) W (ha.below h) vl (okz hz).1 (okz hz).2 (fun h => he (by omega)); rwa [hm] at this
          have hcc := seen_cases l v1 v2 (c := c) (far := far) (by rw [← hc]; exact seL_eq l _ _ _ _ v1 v2 hv1 hv2) (by rw [← hf]; exact seL_eq l _ _ _ _ (2 * v1) (2 * v2) (by omega) (by omega))
          have shb := sh_bd all (v1, v2)
          generalize shL l (v1, v2) = q at *
          obtain ⟨d, r⟩ := q
          dsimp only at hcc N2 shb
          have m1 := mul_bd (a := v1) (b := v1) (A := 200000) (B := 200000) (by omega) (by omega) (by omega) (by omega)
          have m2 := mul_bd (a := v2) (b := v2) (A := 200000) (B := 200000) (by omega) (by omega) (by omega) (by omega)
          have m3 := mul_bd (a := r) (b := r) (A := 3000000) (B := 3000000) (by omega) (by omega) (by omega) (by omega)
          simp only [Int.reduceMul] at m1 m2 m3
          have wa1 : IntKind.i64.wrap (y1 - x1) = v1 := by first | exact IntWalk.i64_in _ (by omega) | (rw [hv1]; exact IntWalk.i64_in _ (by omega))
          have wb1 : wrap64 (y1 - x1) = v1 := by first | exact IntWalk.wrap64_in _ (by omega) | (rw [hv1]; exact IntWalk.wrap64_in _ (by omega))
          have wa2 : IntKind.i64.wrap (y2 - x2) = v2 := by first | exact IntWalk.i64_in _ (by omega) | (rw [hv2]; exact IntWalk.i64_in _ (by omega))
          have wb2 : wrap64 (y2 - x2) = v2 := by first | exact IntWalk.wrap64_in _ (by omega) | (rw [hv2]; exact IntWalk.wrap64_in _ (by omega))
          have wa3 : IntKind.i64.wrap (v1 * v1) = v1 * v1 := by first | exact IntWalk.i64_in _ (by omega) | (rw [hv1]; exact IntWalk.i64_in _ (by omega))
          have wb3 : wrap64 (v1 * v1) = v1 * v1 := by first | exact IntWalk.wrap64_in _ (by omega) | (rw [hv1]; exact IntWalk.wrap64_in _ (by omega))
          have wa4 : IntKind.i64.wrap (v2 * v2) = v2 * v2 := by first | exact IntWalk.i64_in _ (by omega) | (rw [hv2]; exact IntWalk.i64_in _ (by omega))
          have wb4 : wrap64 (v2 * v2) = v2 * v2 := by first | exact IntWalk.wrap64_in _ (by omega) | (rw [hv2]; exact IntWalk.wrap64_in _ (by omega))
          have wa5 : IntKind.i64.wrap (v1 * v1 + v2 * v2) = v1 * v1 + v2 * v2 := by first | exact IntWalk.i64_in _ (by omega) | (rw [hv1]; exact IntWalk.i64_in _ (by omega))
          have wb5 : wrap64 (v1 * v1 + v2 * v2) = v1 * v1 + v2 * v2 := by first | exact IntWalk.wrap64_in _ (by omega) | (rw [hv1]; exact IntWalk.wrap64_in _ (by omega))
          have wa6 : IntKind.i64.wrap (r * r) = r * r := by first | exact IntWalk.i64_in _ (by omega) | (rw [hv ]; exact IntWalk.i64_in _ (by omega))
          have wb6 : wrap64 (r * r) = r * r := by first | exact IntWalk.wrap64_in _ (by omega) | (rw [hv ]; exact IntWalk.wrap64_in _ (by omega))
          have wa7 : IntKind.i64.wrap (2 * v1) = 2 * v1 := by first | exact IntWalk.i64_in _ (by omega) | (rw [hv ]; exact IntWalk.i64_in _ (by omega))
          have wb7 : wrap64 (2 * v1) = 2 * v1 := by first | exact IntWalk.wrap64_in _ (by omega) | (rw [hv ]; exact IntWalk.wrap64_in _ (by omega))
          have wa8 : IntKind.i64.wrap (2 * v2) = 2 * v2 := by first | exact IntWalk.i64_in _ (by omega) | (rw [hv ]; exact IntWalk.i64_in _ (by omega))
          have wb8 : wrap64 (2 * v2) = 2 * v2 := by first | exact IntWalk.wrap64_in _ (by omega) | (rw [hv ]; exact IntWalk.wrap64_in _ (by omega))
          have wa9 : IntKind.i64.wrap (x1 + 2 * v1) = x1 + 2 * v1 := by first | exact IntWalk.i64_in _ (by omega) | (rw [hv1]; exact IntWalk.i64_in _ (by omega))
          have wb9 : wrap64 (x1 + 2 * v1) = x1 + 2 * v1 := by first | exact IntWalk.wrap64_in _ (by omega) | (rw [hv1]; exact IntWalk.wrap64_in _ (by omega))
          have wa10 : IntKind.i64.wrap (x2 + 2 * v2) = x2 + 2 * v2 := by first | exact IntWalk.i64_in _ (by omega) | (rw [hv2]; exact IntWalk.i64_in _ (by omega))
          have wb10 : wrap64 (x2 + 2 * v2) = x2 + 2 * v2 := by first | exact IntWalk.wrap64_in _ (by omega) | (rw [hv2]; exact IntWalk.wrap64_in _ (by omega))
          have N5 : wiB (z1, z2) 100000 = true → (IntKind.i64.wrap (x1 + z1) = x1 + z1 ∧ IntKind.i64.wrap (x2 + z2) = x2 + z2) ∧ IntKind.i64.wrap (y1 + z1) = y1 + z1 ∧ IntKind.i64.wrap (y2 + z2) = y2 + z2 := fun h => by have b3 := wiB_iff.1 h; dsimp only at b3; exact ⟨⟨IntWalk.i64_in _ (by omega), IntWalk.i64_in _ (by omega)⟩, IntWalk.i64_in _ (by omega), IntWalk.i64_in _ (by omega)⟩
          have U3 := fun w => within_c z1 z2 100000 w (by omega)
          generalize wiB (z1, z2) 100000 = u3 at *
          have HU1 := Lib.hid U1
          have HU2 := Lib.hid U2
          have HU3 := Lib.hid U3
          have HN2 := Lib.hid N2
          have HN3 := Lib.hid N3
          have HN4 := Lib.hid N4
          have HN5 := Lib.hid N5
          clear U1 U2 U3 N2 N3 N4 N5 ha hc hf hm hvd all hx hy okf okz h1 h2 vl
          have HV1 := Lib.hid hv1
          have HV2 := Lib.hid hv2
          clear hv1 hv2
          go_enter Try.func10, Try.ntmps10
          go_wp2_with fail
          refine Calls.mono (HEAD _) ?_
          rintro e w1 ⟨rfl, hb⟩
          have kx0 : w1.cell? ⟨w.heap.size, 0, none⟩ = some (.int .i64 x1) := cell_later hb (by go_simp)
          have kx1 : w1.cell? ⟨w.heap.size, 1, none⟩ = some (.int .i64 x2) := cell_later hb (by go_simp)
          have ky0 : w1.cell? ⟨w.heap.size + 1, 0, none⟩ = some (.int .i64 y1) := cell_later hb (by go_simp)
          have ky1 : w1.cell? ⟨w.heap.size + 1, 1, none⟩ = some (.int .i64 y2) := cell_later hb (by go_simp)
          have kz0 : w1.cell? ⟨w.heap.size + 1 + 1, 0, none⟩ = some (.int .i64 z1) := cell_later hb (by go_simp)
          have kz1 : w1.cell? ⟨w.heap.size + 1 + 1, 1, none⟩ = some (.int .i64 z2) := cell_later hb (by go_simp)
          have zx : w.heap.size < w1.heap.size := World.block_lt_of_cell? _ _ kx0
          have zx_w1 := zx
          have zy : w.heap.size + 1 < w1.heap.size := World.block_lt_of_cell? _ _ ky0
          have zy_w1 := zy
          have zz : w.heap.size + 1 + 1 < w1.heap.size := World.block_lt_of_cell? _ _ kz0
          have zz_w1 := zz
          have hb0 : Below w.heap.size w w1 := (by repeat (first | with_reducible exact Below.refl _ _ | with_reducible assumption | with_reducible refine Below.setCell ?_ (by first | omega | (simp <;> omega)) _ | with_reducible refine balloc ?_ _ | with_reducible refine Below.drew ?_ | with_reducible refine bstep ?_ (by with_reducible assumption)))
          have hs_w1 := hb.size; (try simp only [World.size_alloc, World.size_setCell] at hs_w1)
          clear hb
          go_wp2_with fail
          refine Calls.mono (H1.out _ (by repeat (first | with_reducible exact Below.refl _ _ | with_reducible assumption | with_reducible refine Below.setCell ?_ (by first | omega | (simp <;> omega)) _ | with_reducible refine balloc ?_ _ | with_reducible refine Below.drew ?_ | with_reducible refine bstep ?_ (by with_reducible assumption)))) ?_
          rintro e w2 ⟨rfl, hb⟩
          replace kx0 := cell_later hb kx0
          replace kx1 := cell_later hb kx1
          replace ky0 := cell_later hb ky0
          replace ky1 := cell_later hb ky1
          replace kz0 := cell_later hb kz0
          replace kz1 := cell_later hb kz1
          replace zx : w.heap.size < w2.heap.size := World.block_lt_of_cell? _ _ kx0
          have zx_w2 := zx
          replace zy : w.heap.size + 1 < w2.heap.size := World.block_lt_of_cell? _ _ ky0
          have zy_w2 := zy
          replace zz : w.heap.size + 1 + 1 < w2.heap.size := World.block_lt_of_cell? _ _ kz0
          have zz_w2 := zz
          replace hb0 : Below w.heap.size w w2 := (by repeat (first | with_reducible exact Below.refl _ _ | with_reducible assumption | with_reducible refine Below.setCell ?_ (by first | omega | (simp <;> omega)) _ | with_reducible refine balloc ?_ _ | with_reducible refine Below.drew ?_ | with_reducible refine bstep ?_ (by with_reducible assumption)))
          have hs_w2 : w1.heap.size ≤ w2.heap.size := hb.size
          clear hb
          go_wp2_with fail
          refine Calls.mono (HU1.out _) ?_
          rintro e w3 ⟨rfl, hb⟩
          replace kx0 := cell_later hb kx0
          replace kx1 := cell_later hb kx1
          replace ky0 := cell_later hb ky0
          replace ky1 := cell_later hb ky1
          replace kz0 := cell_later hb kz0
          replace kz1 := cell_later hb kz1
          replace zx : w.heap.size < w3.heap.size := World.block_lt_of_cell? _ _ kx0
          have zx_w3 := zx
          replace zy : w.heap.size + 1 < w3.heap.size := World.block_lt_of_cell? _ _ ky0
          have zy_w3 := zy
          replace zz : w.heap.size + 1 + 1 < w3.heap.size := World.block_lt_of_cell? _ _ kz0
          have zz_w3 := zz
          replace hb0 : Below w.heap.size w w3 := (by repeat (first | with_reducible exact Below.refl _ _ | with_reducible assumption | with_reducible refine Below.setCell ?_ (by first | omega | (simp <;> omega)) _ | with_reducible refine balloc ?_ _ | with_reducible refine Below.drew ?_ | with_reducible refine bstep ?_ (by with_reducible assumption)))
          have hs_w3 : w2.heap.size ≤ w3.heap.size := hb.size
          clear hb
          go_wp2_with fail
          refine Calls.mono (HU2.out _) ?_
          rintro e w4 ⟨rfl, hb⟩
          replace kx0 := cell_later hb kx0
          replace kx1 := cell_later hb kx1
          replace ky0 := cell_later hb ky0
          replace ky1 := cell_later hb ky1
          replace kz0 := cell_later hb kz0
          replace kz1 := cell_later hb kz1
          replace zx : w.heap.size < w4.heap.size := World.block_lt_of_cell? _ _ kx0
          have zx_w4 := zx
          replace zy : w.heap.size + 1 < w4.heap.size := World.block_lt_of_cell? _ _ ky0
          have zy_w4 := zy
          replace zz : w.heap.size + 1 + 1 < w4.heap.size := World.block_lt_of_cell? _ _ kz0
          have zz_w4 := zz
          replace hb0 : Below w.heap.size w w4 := (by repeat (first | with_reducible exact Below.refl _ _ | with_reducible assumption | with_reducible refine Below.setCell ?_ (by first | omega | (simp <;> omega)) _ | with_reducible refine balloc ?_ _ | with_reducible refine Below.drew ?_ | with_reducible refine bstep ?_ (by with_reducible assumption)))
          have hs_w4 : w3.heap.size ≤ w4.heap.size := hb.size
          clear hb
          go_wp2_with fail
          refine Calls.mono (at_c v1 v2 _) ?_
          rintro e w5 ⟨rfl, hb⟩
          replace kx0 := cell_later hb kx0
          replace kx1 := cell_later hb kx1
          replace ky0 := cell_later hb ky0
          replace ky1 := cell_later hb ky1
          replace kz0 := cell_later hb kz0
          replace kz1 := cell_later hb kz1
          replace zx : w.heap.size < w5.heap.size := World.block_lt_of_cell? _ _ kx0
          have zx_w5 := zx
          replace zy : w.heap.size + 1 < w5.heap.size := World.block_lt_of_cell? _ _ ky0
          have zy_w5 := zy
          replace zz : w.heap.size + 1 + 1 < w5.heap.size := World.block_lt_of_cell? _ _ kz0
          have zz_w5 := zz
          replace hb0 : Below w.heap.size w w5 := (by repeat (first | with_reducible exact Below.refl _ _ | with_reducible assumption | with_reducible refine Below.setCell ?_ (by first | omega | (simp <;> omega)) _ | with_reducible refine balloc ?_ _ | with_reducible refine Below.drew ?_ | with_reducible refine bstep ?_ (by with_reducible assumption)))
          have hs_w5 : w4.heap.size ≤ w5.heap.size := hb.size
          clear hb
          go_wp2_with fail
          refine Calls.mono (HN2.out _ (by repeat (first | with_reducible exact Below.refl _ _ | with_reducible assumption | with_reducible refine Below.setCell ?_ (by first | omega | (simp <;> omega)) _ | with_reducible refine balloc ?_ _ | with_reducible refine Below.drew ?_ | with_reducible refine bstep ?_ (by with_reducible assumption)))) ?_
          rintro e w6 ⟨rfl, hb⟩
          replace kx0 := cell_later hb (cell_al _ kx0)
          replace kx1 := cell_later hb (cell_al _ kx1)
          replace ky0 := cell_later hb (cell_al _ ky0)
          replace ky1 := cell_later hb (cell_al _ ky1)
          replace kz0 := cell_later hb (cell_al _ kz0)
          replace kz1 := cell_later hb (cell_al _ kz1)
          have kv0 : w6.cell? ⟨w5.heap.size, 0, none⟩ = some (.int .i64 v1) := cell_later hb (by go_simp)
          have kv1 : w6.cell? ⟨w5.heap.size, 1, none⟩ = some (.int .i64 v2) := cell_later hb (by go_simp)
          replace zx : w.heap.size < w6.heap.size := World.block_lt_of_cell? _ _ kx0
          have zx_w6 := zx
          replace zy : w.heap.size + 1 < w6.heap.size := World.block_lt_of_cell? _ _ ky0
          have zy_w6 := zy
          replace zz : w.heap.size + 1 + 1 < w6.heap.size := World.block_lt_of_cell? _ _ kz0
          have zz_w6 := zz
          have zv : w5.heap.size < w6.heap.size := World.block_lt_of_cell? _ _ kv0
          have zv_w6 := zv
          replace hb0 : Below w.heap.size w w6 := (by repeat (first | with_reducible exact Below.refl _ _ | with_reducible assumption | with_reducible refine Below.setCell ?_ (by first | omega | (simp <;> omega)) _ | with_reducible refine balloc ?_ _ | with_reducible refine Below.drew ?_ | with_reducible refine bstep ?_ (by with_reducible assumption)))
          have hs_w6 := hb.size; (try simp only [World.size_alloc, World.size_setCell] at hs_w6)
          clear hb
          rcases hcc with ⟨rfl, rfl, rfl⟩ | ⟨k1, k2, rfl, rfl⟩ | ⟨k1, k2, rfl, hfar⟩
          · skip
            go_wp2_with fail
            refine wp_region_held_drew (S := fun w' => w'.cell? ⟨w.heap.size, 0, none⟩ = some (.int .i64 x1) ∧ w'.cell? ⟨w.heap.size, 1, none⟩ = some (.int .i64 x2) ∧ w'.cell? ⟨w5.heap.size, 0, none⟩ = some (.int .i64 v1) ∧ w'.cell? ⟨w5.heap.size, 1, none⟩ = some (.int .i64 v2)) (by kernel_rfl) (by first | (go_keep; done) | ((repeat' apply And.intro) <;> go_simp)) (fun hHeld => ?_)
            refine wpAnyH_take (i := 0) (oi := ⟨some 106, _, _, _, _, _⟩) (v := ?_) rfl (by kernel_rfl) (by kernel_rfl) (by kernel_rfl) (fun _ _ _ h => h) (Or.inl ⟨by rfl, ?_⟩) (by assumption) ?_
            rotate_left
            · intro w hSw; (try dsimp only at hSw); go_simp; try with_reducible rfl
            try simp only [Act.put, List.setIfInBounds_toArray, List.set_cons_zero, List.set_cons_succ]
            refine wpAnyH_take (i := 1) (oi := ⟨some 107, _, _, _, _, _⟩) (v := ?_) rfl (by kernel_rfl) (by kernel_rfl) (by kernel_rfl) (fun _ _ _ h => h) (Or.inl ⟨by rfl, ?_⟩) (by assumption) ?_
            rotate_left
            · intro w hSw; (try dsimp only at hSw); go_simp; try with_reducible rfl
            try simp only [Act.put, List.setIfInBounds_toArray, List.set_cons_zero, List.set_cons_succ]
            refine wpAnyH_take (i := 2) (oi := ⟨some 108, _, _, _, _, _⟩) (v := ?_) rfl (by kernel_rfl) (by kernel_rfl) (by kernel_rfl) (fun _ _ _ h => h) (Or.inl ⟨by rfl, ?_⟩) (by assumption) ?_
            rotate_left
            · intro w hSw; (try dsimp only at hSw); go_simp; try with_reducible rfl
            try simp only [Act.put, List.setIfInBounds_toArray, List.set_cons_zero, List.set_cons_succ]
            refine wpAnyH_take (i := 3) (oi := ⟨some 109, _, _, _, _, _⟩) (v := ?_) rfl (by kernel_rfl) (by kernel_rfl) (by kernel_rfl) (fun _ _ _ h => h) (Or.inl ⟨by rfl, ?_⟩) (by assumption) ?_
            rotate_left
            · intro w hSw; (try dsimp only at hSw); go_simp; try with_reducible rfl
            try simp only [Act.put, List.setIfInBounds_toArray, List.set_cons_zero, List.set_cons_succ]
            refine wpAnyH_take (i := 4) (oi := ⟨some 110, _, _, _, _, _⟩) (v := ?_) rfl (by kernel_rfl) (by kernel_rfl) (by kernel_rfl) (fun _ _ _ h => h) (Or.inl ⟨by rfl, ?_⟩) (by assumption) ?_
            rotate_left
            · intro w hSw; (try dsimp only at hSw); go_simp; try with_reducible rfl
            try simp only [Act.put, List.setIfInBounds_toArray, List.set_cons_zero, List.set_cons_succ]
            refine wpAnyH_take (i := 5) (oi := ⟨some 111, _, _, _, _, _⟩) (v := ?_) rfl (by kernel_rfl) (by kernel_rfl) (by kernel_rfl) (fun _ _ _ h => h) (Or.inl ⟨by rfl, ?_⟩) (by assumption) ?_
            rotate_left
            · intro w hSw; (try dsimp only at hSw); go_simp; try with_reducible rfl
            try simp only [Act.put, List.setIfInBounds_toArray, List.set_cons_zero, List.set_cons_succ]
            refine wpAnyH_take (i := 6) (oi := ⟨some 112, _, _, _, _, _⟩) (v := ?_) rfl (by kernel_rfl) (by kernel_rfl) (by kernel_rfl) (fun _ _ _ h => h) (Or.inl ⟨by rfl, ?_⟩) (by assumption) ?_
            rotate_left
            · intro w hSw; (try dsimp only at hSw); go_simp; try with_reducible rfl
            try simp only [Act.put, List.setIfInBounds_toArray, List.set_cons_zero, List.set_cons_succ]
            refine wpAnyH_take (i := 7) (oi := ⟨some 113, _, _, _, _, _⟩) (v := ?_) rfl (by kernel_rfl) (by kernel_rfl) (by kernel_rfl) (fun _ _ _ h => h) (Or.inl ⟨by rfl, ?_⟩) (by assumption) ?_
            rotate_left
            · intro w hSw; (try dsimp only at hSw); go_simp; try with_reducible rfl
            try simp only [Act.put, List.setIfInBounds_toArray, List.set_cons_zero, List.set_cons_succ]
            refine wpAnyH_take (i := 8) (oi := ⟨some 114, _, _, _, _, _⟩) (v := ?_) rfl (by kernel_rfl) (by kernel_rfl) (by kernel_rfl) (fun _ _ _ h => h) (Or.inl ⟨by rfl, ?_⟩) (by assumption) ?_
            rotate_left
            · intro w hSw; (try dsimp only at hSw); go_simp; try with_reducible rfl
            try simp only [Act.put, List.setIfInBounds_toArray, List.set_cons_zero, List.set_cons_succ]
            refine wpAnyH_take (i := 9) (oi := ⟨some 115, _, _, _, _, _⟩) (v := ?_) rfl (by kernel_rfl) (by kernel_rfl) (by kernel_rfl) (fun _ _ _ h => h) (Or.inl ⟨by rfl, ?_⟩) (by assumption) ?_
            rotate_left
            · intro w hSw; (try dsimp only at hSw); go_simp; try with_reducible rfl
            try simp only [Act.put, List.setIfInBounds_toArray, List.set_cons_zero, List.set_cons_succ]
            refine wpAnyH_take (i := 10) (oi := ⟨some 116, _, _, _, _, _⟩) (v := ?_) rfl (by kernel_rfl) (by kernel_rfl) (by kernel_rfl) (fun _ _ _ h => h) (Or.inl ⟨by rfl, ?_⟩) (by assumption) ?_
            rotate_left
            · intro w hSw; (try dsimp only at hSw); go_simp; try with_reducible rfl
            try simp only [Act.put, List.setIfInBounds_toArray, List.set_cons_zero, List.set_cons_succ]
            refine wpAnyH_take (i := 11) (oi := ⟨some 117, _, _, _, _, _⟩) (v := ?_) rfl (by kernel_rfl) (by kernel_rfl) (by kernel_rfl) (fun _ _ _ h => h) (Or.inl ⟨by rfl, ?_⟩) (by assumption) ?_
            rotate_left
            · intro w hSw; (try dsimp only at hSw); go_simp; try with_reducible rfl
            try simp only [Act.put, List.setIfInBounds_toArray, List.set_cons_zero, List.set_cons_succ]
            refine wpAnyH_take (i := 12) (oi := ⟨some 118, _, _, _, _, _⟩) (v := ?_) rfl (by kernel_rfl) (by kernel_rfl) (by kernel_rfl) (fun _ _ _ h => h) (Or.inl ⟨by rfl, ?_⟩) (by assumption) ?_
            rotate_left
            · intro w hSw; (try dsimp only at hSw); go_simp; try with_reducible rfl
            try simp only [Act.put, List.setIfInBounds_toArray, List.set_cons_zero, List.set_cons_succ]
            refine wpAnyH_take (i := 13) (oi := ⟨some 119, _, _, _, _, _⟩) (v := ?_) rfl (by kernel_rfl) (by kernel_rfl) (by kernel_rfl) (fun _ _ _ h => h) (Or.inl ⟨by rfl, ?_⟩) (by assumption) ?_
            rotate_left
            · intro w hSw; (try dsimp only at hSw); go_simp; try with_reducible rfl
            try simp only [Act.put, List.setIfInBounds_toArray, List.set_cons_zero, List.set_cons_succ]
            refine wpAnyH_ready (rs := [14]) (by kernel_rfl) (by simp) ?_
            refine AllReadyH.cons (o := ⟨some 120, _, _, _, _, _⟩) rfl (fun KK hKK => ?_) AllReadyH.nil
            go_simp
            refine Calls.mono (at_c (x1 + 2 * v1) (x2 + 2 * v2) _) ?_
            rintro e wt7 ⟨rfl, hb⟩
            replace kx0 := cell_later hb kx0
            replace kx1 := cell_later hb kx1
            replace ky0 := cell_later hb ky0
            replace ky1 := cell_later hb ky1
            replace kz0 := cell_later hb kz0
            replace kz1 := cell_later hb kz1
            replace kv0 := cell_later hb kv0
            replace kv1 := cell_later hb kv1
            replace zx : w.heap.size < wt7.heap.size := World.block_lt_of_cell? _ _ kx0
            have zx_wt7 := zx
            replace zy : w.heap.size + 1 < wt7.heap.size := World.block_lt_of_cell? _ _ ky0
            have zy_wt7 := zy
            replace zz : w.heap.size + 1 + 1 < wt7.heap.size := World.block_lt_of_cell? _ _ kz0
            have zz_wt7 := zz
            replace zv : w5.heap.size < wt7.heap.size := World.block_lt_of_cell? _ _ kv0
            have zv_wt7 := zv
            replace hb0 : Below w.heap.size w wt7 := (by repeat (first | with_reducible exact Below.refl _ _ | with_reducible assumption | with_reducible refine Below.setCell ?_ (by first | omega | (simp <;> omega)) _ | with_reducible refine balloc ?_ _ | with_reducible refine Below.drew ?_ | with_reducible refine bstep ?_ (by with_reducible assumption)))
            have hs_wt7 : w6.heap.size ≤ wt7.heap.size := hb.size
            clear hb
            (try go_wp2_with fail)
            refine hKK.out _ _ (by first | (go_keep; done) | ((repeat' apply And.intro) <;> go_simp)) (fun hHeld => ?_)
            clear hKK KK
            try simp only [Act.put, List.setIfInBounds_toArray, List.set_cons_zero, List.set_cons_succ]
            refine wpAnyH_ready (rs := [15]) (by kernel_rfl) (by simp) ?_
            refine AllReadyH.cons (o := ⟨some 121, _, _, _, _, _⟩) rfl (fun KK hKK => ?_) AllReadyH.nil
            go_simp
            refine Calls.mono (HN3.out _ (by repeat (first | with_reducible exact Below.refl _ _ | with_reducible assumption | with_reducible refine Below.setCell ?_ (by first | omega | (simp <;> omega)) _ | with_reducible refine balloc ?_ _ | with_reducible refine Below.drew ?_ | with_reducible refine bstep ?_ (by with_reducible assumption)))) ?_
            rintro e wt8 ⟨rfl, hb⟩
            replace kx0 := cell_later hb kx0
            replace kx1 := cell_later hb kx1
            replace ky0 := cell_later hb ky0
            replace ky1 := cell_later hb ky1
            replace kz0 := cell_later hb kz0
            replace kz1 := cell_later hb kz1
            replace kv0 := cell_later hb kv0
            replace kv1 := cell_later hb kv1
            replace zx : w.heap.size < wt8.heap.size := World.block_lt_of_cell? _ _ kx0
            have zx_wt8 := zx
            replace zy : w.heap.size + 1 < wt8.heap.size := World.block_lt_of_cell? _ _ ky0
            have zy_wt8 := zy
            replace zz : w.heap.size + 1 + 1 < wt8.heap.size := World.block_lt_of_cell? _ _ kz0
            have zz_wt8 := zz
            replace zv : w5.heap.size < wt8.heap.size := World.block_lt_of_cell? _ _ kv0
            have zv_wt8 := zv
            replace hb0 : Below w.heap.size w wt8 := (by repeat (first | with_reducible exact Below.refl _ _ | with_reducible assumption | with_reducible refine Below.setCell ?_ (by first | omega | (simp <;> omega)) _ | with_reducible refine balloc ?_ _ | with_reducible refine Below.drew ?_ | with_reducible refine bstep ?_ (by with_reducible assumption)))
            have hs_wt8 : wt7.heap.size ≤ wt8.heap.size := hb.size
            clear hb
            (try go_wp2_with fail)
            refine hKK.out _ _ (by first | (go_keep; done) | ((repeat' apply And.intro) <;> go_simp)) (fun hHeld => ?_)
            clear hKK KK
            try simp only [Act.put, List.setIfInBounds_toArray, List.set_cons_zero, List.set_cons_succ]
            refine wpAnyH_take (i := 16) (oi := ⟨some 105, _, _, _, _, _⟩) (v := ?_) rfl (by kernel_rfl) (by kernel_rfl) (by kernel_rfl) (fun _ _ _ h => h) (Or.inl ⟨by rfl, ?_⟩) (by assumption) ?_
            rotate_left
            · intro w hSw; (try dsimp only at hSw); go_simp; try with_reducible rfl
            try simp only [Act.put, List.setIfInBounds_toArray, List.set_cons_zero, List.set_cons_succ]
            refine wpAnyH_take (i := 17) (oi := ⟨some 122, _, _, _, _, _⟩) (v := ?_) rfl (by kernel_rfl) (by kernel_rfl) (by kernel_rfl) (fun _ _ _ h => h) (Or.inl ⟨by rfl, ?_⟩) (by assumption) ?_
            rotate_left
            · intro w hSw; (try dsimp only at hSw); go_simp; try with_reducible rfl
            try simp only [Act.put, List.setIfInBounds_toArray, List.set_cons_zero, List.set_cons_succ]
            refine wpAnyH_take (i := 18) (oi := ⟨some 123, _, _, _, _, _⟩) (v := ?_) rfl (by kernel_rfl) (by kernel_rfl) (by kernel_rfl) (fun _ _ _ h => h) (Or.inl ⟨by rfl, ?_⟩) (by assumption) ?_
            rotate_left
            · intro w hSw; (try dsimp only at hSw); go_simp; try with_reducible rfl
            try simp only [Act.put, List.setIfInBounds_toArray, List.set_cons_zero, List.set_cons_succ]
            refine wpAnyH_take (i := 19) (oi := ⟨some 16, _, _, _, _, _⟩) (v := ?_) rfl (by kernel_rfl) (by kernel_rfl) (by kernel_rfl) (fun _ _ _ h => h) (Or.inl ⟨by rfl, ?_⟩) (by assumption) ?_
            rotate_left
            · intro w hSw; (try dsimp only at hSw); go_simp; try with_reducible rfl
            try simp only [Act.put, List.setIfInBounds_toArray, List.set_cons_zero, List.set_cons_succ]
            refine wpAnyH_take (i := 20) (oi := ⟨some 17, _, _, _, _, _⟩) (v := ?_) rfl (by kernel_rfl) (by kernel_rfl) (by kernel_rfl) (fun _ _ _ h => h) (Or.inl ⟨by rfl, ?_⟩) (by assumption) ?_
            rotate_left
            · intro w hSw; (try dsimp only at hSw); go_simp; try with_reducible rfl
            try simp only [Act.put, List.setIfInBounds_toArray, List.set_cons_zero, List.set_cons_succ]
            refine wpAnyH_done (by kernel_rfl) ?_ _
            (try dsimp only [Exit.then, Met])
            cases u3
            · skip
              go_wp2_with fail
              refine Calls.mono (HU3.out _) ?_
              rintro e w9 ⟨rfl, hb⟩
              replace kx0 := cell_later hb kx0
              replace kx1 := cell_later hb kx1
              replace ky0 := cell_later hb ky0
              replace ky1 := cell_later hb ky1
              replace kz0 := cell_later hb kz0
              replace kz1 := cell_later hb kz1
              replace kv0 := cell_later hb kv0
              replace kv1 := cell_later hb kv1
              replace zx : w.heap.size < w9.heap.size := World.block_lt_of_cell? _ _ kx0
              have zx_w9 := zx
              replace zy : w.heap.size + 1 < w9.heap.size := World.block_lt_of_cell? _ _ ky0
              have zy_w9 := zy
              replace zz : w.heap.size + 1 + 1 < w9.heap.size := World.block_lt_of_cell? _ _ kz0
              have zz_w9 := zz
              replace zv : w5.heap.size < w9.heap.size := World.block_lt_of_cell? _ _ kv0
              have zv_w9 := zv
              replace hb0 : Below w.heap.size w w9 := (by repeat (first | with_reducible exact Below.refl _ _ | with_reducible assumption | with_reducible refine Below.setCell ?_ (by first | omega | (simp <;> omega)) _ | with_reducible refine balloc ?_ _ | with_reducible refine Below.drew ?_ | with_reducible refine bstep ?_ (by with_reducible assumption)))
              have hs_w9 : wt8.heap.size ≤ w9.heap.size := hb.size
              clear hb
              go_wp2
              all_goals first | (exfalso; omega) | (go_ret; refine ret_bool ?_ (by repeat (first | with_reducible exact Below.refl _ _ | with_reducible assumption | with_reducible refine Below.setCell ?_ (by first | omega | (simp <;> omega)) _ | with_reducible refine balloc ?_ _ | with_reducible refine Below.drew ?_ | with_reducible refine bstep ?_ (by with_reducible assumption))); first | (simp; done) | (simp <;> omega) | (simp [*]; done))
            · skip
              obtain ⟨⟨o1, o2⟩, o3, o4⟩ := HN5.out (by first | rfl | trivial)
              have N4 := HN4.out (by first | rfl | trivial)
              have HN6 := Lib.hid N4
              clear N4
              go_wp2_with fail
              refine Calls.mono (HU3.out _) ?_
              rintro e w9 ⟨rfl, hb⟩
              replace kx0 := cell_later hb kx0
              replace kx1 := cell_later hb kx1
              replace ky0 := cell_later hb ky0
              replace ky1 := cell_later hb ky1
              replace kz0 := cell_later hb kz0
              replace kz1 := cell_later hb kz1
              replace kv0 := cell_later hb kv0
              replace kv1 := cell_later hb kv1
              replace zx : w.heap.size < w9.heap.size := World.block_lt_of_cell? _ _ kx0
              have zx_w9 := zx
              replace zy : w.heap.size + 1 < w9.heap.size := World.block_lt_of_cell? _ _ ky0
              have zy_w9 := zy
              replace zz : w.heap.size + 1 + 1 < w9.heap.size := World.block_lt_of_cell? _ _ kz0
              have zz_w9 := zz
              replace zv : w5.heap.size < w9.heap.size := World.block_lt_of_cell? _ _ kv0
              have zv_w9 := zv
              replace hb0 : Below w.heap.size w w9 := (by repeat (first | with_reducible exact Below.refl _ _ | with_reducible assumption | with_reducible refine Below.setCell ?_ (by first | omega | (simp <;> omega)) _ | with_reducible refine balloc ?_ _ | with_reducible refine Below.drew ?_ | with_reducible refine bstep ?_ (by with_reducible assumption)))
              have hs_w9 : wt8.heap.size ≤ w9.heap.size := hb.size
              clear hb
              go_wp2_with fail
              refine wp_region_held_drew (S := fun w' => w'.cell? ⟨w.heap.size, 0, none⟩ = some (.int .i64 x1) ∧ w'.cell? ⟨w.heap.size, 1, none⟩ = some (.int .i64 x2) ∧ w'.cell? ⟨w.heap.size + 1, 0, none⟩ = some (.int .i64 y1) ∧ w'.cell? ⟨w.heap.size + 1, 1, none⟩ = some (.int .i64 y2) ∧ w'.cell? ⟨w.heap.size + 1 + 1, 0, none⟩ = some (.int .i64 z1) ∧ w'.cell? ⟨w.heap.size + 1 + 1, 1, none⟩ = some (.int .i64 z2)) (by kernel_rfl) (by first | (go_keep; done) | ((repeat' apply And.intro) <;> go_simp)) (fun hHeld => ?_)
              refine wpAnyH_take (i := 0) (oi := ⟨some 143, _, _, _, _, _⟩) (v := ?_) rfl (by kernel_rfl) (by kernel_rfl) (by kernel_rfl) (fun _ _ _ h => h) (Or.inl ⟨by rfl, ?_⟩) (by assumption) ?_
              rotate_left
              · intro w hSw; (try dsimp only at hSw); go_simp; try with_reducible rfl
              try simp only [Act.put, List.setIfInBounds_toArray, List.set_cons_zero, List.set_cons_succ]
              refine wpAnyH_take (i := 1) (oi := ⟨some 144, _, _, _, _, _⟩) (v := ?_) rfl (by kernel_rfl) (by kernel_rfl) (by kernel_rfl) (fun _ _ _ h => h) (Or.inl ⟨by rfl, ?_⟩) (by assumption) ?_
              rotate_left
              · intro w hSw; (try dsimp only at hSw); go_simp; try with_reducible rfl
              try simp only [Act.put, List.setIfInBounds_toArray, List.set_cons_zero, List.set_cons_succ]
              refine wpAnyH_take (i := 2) (oi := ⟨some 145, _, _, _, _, _⟩) (v := ?_) rfl (by kernel_rfl) (by kernel_rfl) (by kernel_rfl) (fun _ _ _ h => h) (Or.inl ⟨by rfl, ?_⟩) (by assumption) ?_
              rotate_left
              · intro w hSw; (try dsimp only at hSw); go_simp; try with_reducible rfl
              try simp only [Act.put, List.setIfInBounds_toArray, List.set_cons_zero, List.set_cons_succ]
              refine wpAnyH_take (i := 3) (oi := ⟨some 146, _, _, _, _, _⟩) (v := ?_) rfl (by kernel_rfl) (by kernel_rfl) (by kernel_rfl) (fun _ _ _ h => h) (Or.inl ⟨by rfl, ?_⟩) (by assumption) ?_
              rotate_left
              · intro w hSw; (try dsimp only at hSw); go_simp; try with_reducible rfl
              try simp only [Act.put, List.setIfInBounds_toArray, List.set_cons_zero, List.set_cons_succ]
              refine wpAnyH_take (i := 4) (oi := ⟨some 147, _, _, _, _, _⟩) (v := ?_) rfl (by kernel_rfl) (by kernel_rfl) (by kernel_rfl) (fun _ _ _ h => h) (Or.inl ⟨by rfl, ?_⟩) (by assumption) ?_
              rotate_left
              · intro w hSw; (try dsimp only at hSw); go_simp; try with_reducible rfl
              try simp only [Act.put, List.setIfInBounds_toArray, List.set_cons_zero, List.set_cons_succ]
              refine wpAnyH_take (i := 5) (oi := ⟨some 148, _, _, _, _, _⟩) (v := ?_) rfl (by kernel_rfl) (by kernel_rfl) (by kernel_rfl) (fun _ _ _ h => h) (Or.inl ⟨by rfl, ?_⟩) (by assumption) ?_
              rotate_left
              · intro w hSw; (try dsimp only at hSw); go_simp; try with_reducible rfl
              try simp only [Act.put, List.setIfInBounds_toArray, List.set_cons_zero, List.set_cons_succ]
              refine wpAnyH_take (i := 6) (oi := ⟨some 149, _, _, _, _, _⟩) (v := ?_) rfl (by kernel_rfl) (by kernel_rfl) (by kernel_rfl) (fun _ _ _ h => h) (Or.inl ⟨by rfl, ?_⟩) (by assumption) ?_
              rotate_left
              · intro w hSw; (try dsimp only at hSw); go_simp; try with_reducible rfl
              try simp only [Act.put, List.setIfInBounds_toArray, List.set_cons_zero, List.set_cons_succ]
              refine wpAnyH_take (i := 7) (oi := ⟨some 150, _, _, _, _, _⟩) (v := ?_) rfl (by kernel_rfl) (by kernel_rfl) (by kernel_rfl) (fun _ _ _ h => h) (Or.inl ⟨by rfl, ?_⟩) (by assumption) ?_
              rotate_left
              · intro w hSw; (try dsimp only at hSw); go_simp; try with_reducible rfl
              try simp only [Act.put, List.setIfInBounds_toArray, List.set_cons_zero, List.set_cons_succ]
              refine wpAnyH_take (i := 8) (oi := ⟨some 151, _, _, _, _, _⟩) (v := ?_) rfl (by kernel_rfl) (by kernel_rfl) (by kernel_rfl) (fun _ _ _ h => h) (Or.inl ⟨by rfl, ?_⟩) (by assumption) ?_
              rotate_left
              · intro w hSw; (try dsimp only at hSw); go_simp; try with_reducible rfl
              try simp only [Act.put, List.setIfInBounds_toArray, List.set_cons_zero, List.set_cons_succ]
              refine wpAnyH_take (i := 9) (oi := ⟨some 152, _, _, _, _, _⟩) (v := ?_) rfl (by kernel_rfl) (by kernel_rfl) (by kernel_rfl) (fun _ _ _ h => h) (Or.inl ⟨by rfl, ?_⟩) (by assumption) ?_
              rotate_left
              · intro w hSw; (try dsimp only at hSw); go_simp; try with_reducible rfl
              try simp only [Act.put, List.setIfInBounds_toArray, List.set_cons_zero, List.set_cons_succ]
              refine wpAnyH_take (i := 10) (oi := ⟨some 153, _, _, _, _, _⟩) (v := ?_) rfl (by kernel_rfl) (by kernel_rfl) (by kernel_rfl) (fun _ _ _ h => h) (Or.inl ⟨by rfl, ?_⟩) (by assumption) ?_
              rotate_left
              · intro w hSw; (try dsimp only at hSw); go_simp; try with_reducible rfl
              try simp only [Act.put, List.setIfInBounds_toArray, List.set_cons_zero, List.set_cons_succ]
              refine wpAnyH_take (i := 12) (oi := ⟨some 155, _, _, _, _, _⟩) (v := ?_) rfl (by kernel_rfl) (by kernel_rfl) (by kernel_rfl) (fun _ _ _ h => h) (Or.inl ⟨by rfl, ?_⟩) (by assumption) ?_
              rotate_left
              · intro w hSw; (try dsimp only at hSw); go_simp; try with_reducible rfl
              try simp only [Act.put, List.setIfInBounds_toArray, List.set_cons_zero, List.set_cons_succ]
              refine wpAnyH_take (i := 13) (oi := ⟨some 156, _, _, _, _, _⟩) (v := ?_) rfl (by kernel_rfl) (by kernel_rfl) (by kernel_rfl) (fun _ _ _ h => h) (Or.inl ⟨by rfl, ?_⟩) (by assumption) ?_
              rotate_left
              · intro w hSw; (try dsimp only at hSw); go_simp; try with_reducible rfl
              try simp only [Act.put, List.setIfInBounds_toArray, List.set_cons_zero, List.set_cons_succ]
              refine wpAnyH_take (i := 14) (oi := ⟨some 157, _, _, _, _, _⟩) (v := ?_) rfl (by kernel_rfl) (by kernel_rfl) (by kernel_rfl) (fun _ _ _ h => h) (Or.inl ⟨by rfl, ?_⟩) (by assumption) ?_
              rotate_left
              · intro w hSw; (try dsimp only at hSw); go_simp; try with_reducible rfl
              try simp only [Act.put, List.setIfInBounds_toArray, List.set_cons_zero, List.set_cons_succ]
              refine wpAnyH_take (i := 15) (oi := ⟨some 158, _, _, _, _, _⟩) (v := ?_) rfl (by kernel_rfl) (by kernel_rfl) (by kernel_rfl) (fun _ _ _ h => h) (Or.inl ⟨by rfl, ?_⟩) (by assumption) ?_
              rotate_left
              · intro w hSw; (try dsimp only at hSw); go_simp; try with_reducible rfl
              try simp only [Act.put, List.setIfInBounds_toArray, List.set_cons_zero, List.set_cons_succ]
              refine wpAnyH_take (i := 16) (oi := ⟨some 159, _, _, _, _, _⟩) (v := ?_) rfl (by kernel_rfl) (by kernel_rfl) (by kernel_rfl) (fun _ _ _ h => h) (Or.inl ⟨by rfl, ?_⟩) (by assumption) ?_
              rotate_left
              · intro w hSw; (try dsimp only at hSw); go_simp; try with_reducible rfl
              try simp only [Act.put, List.setIfInBounds_toArray, List.set_cons_zero, List.set_cons_succ]
              refine wpAnyH_take (i := 17) (oi := ⟨some 160, _, _, _, _, _⟩) (v := ?_) rfl (by kernel_rfl) (by kernel_rfl) (by kernel_rfl) (fun _ _ _ h => h) (Or.inl ⟨by rfl, ?_⟩) (by assumption) ?_
              rotate_left
              · intro w hSw; (try dsimp only at hSw); go_simp; try with_reducible rfl
              try simp only [Act.put, List.setIfInBounds_toArray, List.set_cons_zero, List.set_cons_succ]
              refine wpAnyH_take (i := 18) (oi := ⟨some 161, _, _, _, _, _⟩) (v := ?_) rfl (by kernel_rfl) (by kernel_rfl) (by kernel_rfl) (fun _ _ _ h => h) (Or.inl ⟨by rfl, ?_⟩) (by assumption) ?_
              rotate_left
              · intro w hSw; (try dsimp only at hSw); go_simp; try with_reducible rfl
              try simp only [Act.put, List.setIfInBounds_toArray, List.set_cons_zero, List.set_cons_succ]
              refine wpAnyH_take (i := 19) (oi := ⟨some 162, _, _, _, _, _⟩) (v := ?_) rfl (by kernel_rfl) (by kernel_rfl) (by kernel_rfl) (fun _ _ _ h => h) (Or.inl ⟨by rfl, ?_⟩) (by assumption) ?_
              rotate_left
              · intro w hSw; (try dsimp only at hSw); go_simp; try with_reducible rfl
              try simp only [Act.put, List.setIfInBounds_toArray, List.set_cons_zero, List.set_cons_succ]
              refine wpAnyH_take (i := 20) (oi := ⟨some 163, _, _, _, _, _⟩) (v := ?_) rfl (by kernel_rfl) (by kernel_rfl) (by kernel_rfl) (fun _ _ _ h => h) (Or.inl ⟨by rfl, ?_⟩) (by assumption) ?_
              rotate_left
              · intro w hSw; (try dsimp only at hSw); go_simp; try with_reducible rfl
              try simp only [Act.put, List.setIfInBounds_toArray, List.set_cons_zero, List.set_cons_succ]
              refine wpAnyH_take (i := 21) (oi := ⟨some 164, _, _, _, _, _⟩) (v := ?_) rfl (by kernel_rfl) (by kernel_rfl) (by kernel_rfl) (fun _ _ _ h => h) (Or.inl ⟨by rfl, ?_⟩) (by assumption) ?_
              rotate_left
              · intro w hSw; (try dsimp only at hSw); go_simp; try with_reducible rfl
              try simp only [Act.put, List.setIfInBounds_toArray, List.set_cons_zero, List.set_cons_succ]
              refine wpAnyH_ready (rs := [11]) (by kernel_rfl) (by simp) ?_
              refine AllReadyH.cons (o := ⟨some 154, _, _, _, _, _⟩) rfl (fun KK hKK => ?_) AllReadyH.nil
              go_simp
              refine Calls.mono (at_c (x1 + z1) (x2 + z2) _) ?_
              rintro e wt10 ⟨rfl, hb⟩
              replace kx0 := cell_later hb kx0
              replace kx1 := cell_later hb kx1
              replace ky0 := cell_later hb ky0
              replace ky1 := cell_later hb ky1
              replace kz0 := cell_later hb kz0
              replace kz1 := cell_later hb kz1
              replace kv0 := cell_later hb kv0
              replace kv1 := cell_later hb kv1
              replace zx : w.heap.size < wt10.heap.size := World.block_lt_of_cell? _ _ kx0
              have zx_wt10 := zx
              replace zy : w.heap.size + 1 < wt10.heap.size := World.block_lt_of_cell? _ _ ky0
              have zy_wt10 := zy
              replace zz : w.heap.size + 1 + 1 < wt10.heap.size := World.block_lt_of_cell? _ _ kz0
              have zz_wt10 := zz
              replace zv : w5.heap.size < wt10.heap.size := World.block_lt_of_cell? _ _ kv0
              have zv_wt10 := zv
              replace hb0 : Below w.heap.size w wt10 := (by repeat (first | with_reducible exact Below.refl _ _ | with_reducible assumption | with_reducible refine Below.setCell ?_ (by first | omega | (simp <;> omega)) _ | with_reducible refine balloc ?_ _ | with_reducible refine Below.drew ?_ | with_reducible refine bstep ?_ (by with_reducible assumption)))
              have hs_wt10 : w9.heap.size ≤ wt10.heap.size := hb.size
              clear hb
              (try go_wp2_with fail)
              refine hKK.out _ _ (by first | (go_keep; done) | ((repeat' apply And.intro) <;> go_simp)) (fun hHeld => ?_)
              clear hKK KK
              try simp only [Act.put, List.setIfInBounds_toArray, List.set_cons_zero, List.set_cons_succ]
              refine wpAnyH_ready (rs := [22]) (by kernel_rfl) (by simp) ?_
              refine AllReadyH.cons (o := ⟨some 165, _, _, _, _, _⟩) rfl (fun KK hKK => ?_) AllReadyH.nil
              go_simp
              refine Calls.mono (at_c (y1 + z1) (y2 + z2) _) ?_
              rintro e wt11 ⟨rfl, hb⟩
              replace kx0 := cell_later hb kx0
              replace kx1 := cell_later hb kx1
              replace ky0 := cell_later hb ky0
              replace ky1 := cell_later hb ky1
              replace kz0 := cell_later hb kz0
              replace kz1 := cell_later hb kz1
              replace kv0 := cell_later hb kv0
              replace kv1 := cell_later hb kv1
              replace zx : w.heap.size < wt11.heap.size := World.block_lt_of_cell? _ _ kx0
              have zx_wt11 := zx
              replace zy : w.heap.size + 1 < wt11.heap.size := World.block_lt_of_cell? _ _ ky0
              have zy_wt11 := zy
              replace zz : w.heap.size + 1 + 1 < wt11.heap.size := World.block_lt_of_cell? _ _ kz0
              have zz_wt11 := zz
              replace zv : w5.heap.size < wt11.heap.size := World.block_lt_of_cell? _ _ kv0
              have zv_wt11 := zv
              replace hb0 : Below w.heap.size w wt11 := (by repeat (first | with_reducible exact Below.refl _ _ | with_reducible assumption | with_reducible refine Below.setCell ?_ (by first | omega | (simp <;> omega)) _ | with_reducible refine balloc ?_ _ | with_reducible refine Below.drew ?_ | with_reducible refine bstep ?_ (by with_reducible assumption)))
              have hs_wt11 : wt10.heap.size ≤ wt11.heap.size := hb.size
              clear hb
              (try go_wp2_with fail)
              refine hKK.out _ _ (by first | (go_keep; done) | ((repeat' apply And.intro) <;> go_simp)) (fun hHeld => ?_)
              clear hKK KK
              try simp only [Act.put, List.setIfInBounds_toArray, List.set_cons_zero, List.set_cons_succ]
              refine wpAnyH_ready (rs := [23]) (by kernel_rfl) (by simp) ?_
              refine AllReadyH.cons (o := ⟨some 166, _, _, _, _, _⟩) rfl (fun KK hKK => ?_) AllReadyH.nil
              go_simp
              refine Calls.mono (HN6.out _ (by repeat (first | with_reducible exact Below.refl _ _ | with_reducible assumption | with_reducible refine Below.setCell ?_ (by first | omega | (simp <;> omega)) _ | with_reducible refine balloc ?_ _ | with_reducible refine Below.drew ?_ | with_reducible refine bstep ?_ (by with_reducible assumption)))) ?_
              rintro e wt12 ⟨rfl, hb⟩
              replace kx0 := cell_later hb kx0
              replace kx1 := cell_later hb kx1
              replace ky0 := cell_later hb ky0
              replace ky1 := cell_later hb ky1
              replace kz0 := cell_later hb kz0
              replace kz1 := cell_later hb kz1
              replace kv0 := cell_later hb kv0
              replace kv1 := cell_later hb kv1
              replace zx : w.heap.size < wt12.heap.size := World.block_lt_of_cell? _ _ kx0
              have zx_wt12 := zx
              replace zy : w.heap.size + 1 < wt12.heap.size := World.block_lt_of_cell? _ _ ky0
              have zy_wt12 := zy
              replace zz : w.heap.size + 1 + 1 < wt12.heap.size := World.block_lt_of_cell? _ _ kz0
              have zz_wt12 := zz
              replace zv : w5.heap.size < wt12.heap.size := World.block_lt_of_cell? _ _ kv0
              have zv_wt12 := zv
              replace hb0 : Below w.heap.size w wt12 := (by repeat (first | with_reducible exact Below.refl _ _ | with_reducible assumption | with_reducible refine Below.setCell ?_ (by first | omega | (simp <;> omega)) _ | with_reducible refine balloc ?_ _ | with_reducible refine Below.drew ?_ | with_reducible refine bstep ?_ (by with_reducible assumption)))
              have hs_wt12 : wt11.heap.size ≤ wt12.heap.size := hb.size
              clear hb
              (try go_wp2_with fail)
              refine hKK.out _ _ (by first | (go_keep; done) | ((repeat' apply And.intro) <;> go_simp)) (fun hHeld => ?_)
              clear hKK KK
              try simp only [Act.put, List.setIfInBounds_toArray, List.set_cons_zero, List.set_cons_succ]
              refine wpAnyH_take (i := 24) (oi := ⟨some 142, _, _, _, _, _⟩) (v := ?_) rfl (by kernel_rfl) (by kernel_rfl) (by kernel_rfl) (fun _ _ _ h => h) (Or.inl ⟨by rfl, ?_⟩) (by assumption) ?_
              rotate_left
              · intro w hSw; (try dsimp only at hSw); go_simp; try with_reducible rfl
              try simp only [Act.put, List.setIfInBounds_toArray, List.set_cons_zero, List.set_cons_succ]
              refine wpAnyH_take (i := 25) (oi := ⟨some 167, _, _, _, _, _⟩) (v := ?_) rfl (by kernel_rfl) (by kernel_rfl) (by kernel_rfl) (fun _ _ _ h => h) (Or.inl ⟨by rfl, ?_⟩) (by assumption) ?_
              rotate_left
              · intro w hSw; (try dsimp only at hSw); go_simp; try with_reducible rfl
              try simp only [Act.put, List.setIfInBounds_toArray, List.set_cons_zero, List.set_cons_succ]
              refine wpAnyH_take (i := 26) (oi := ⟨some 168, _, _, _, _, _⟩) (v := ?_) rfl (by kernel_rfl) (by kernel_rfl) (by kernel_rfl) (fun _ _ _ h => h) (Or.inl ⟨by rfl, ?_⟩) (by assumption) ?_
              rotate_left
              · intro w hSw; (try dsimp only at hSw); go_simp; try with_reducible rfl
              try simp only [Act.put, List.setIfInBounds_toArray, List.set_cons_zero, List.set_cons_succ]
              refine wpAnyH_take (i := 27) (oi := ⟨some 18, _, _, _, _, _⟩) (v := ?_) rfl (by kernel_rfl) (by kernel_rfl) (by kernel_rfl) (fun _ _ _ h => h) (Or.inl ⟨by rfl, ?_⟩) (by assumption) ?_
              rotate_left
              · intro w hSw; (try dsimp only at hSw); go_simp; try with_reducible rfl
              try simp only [Act.put, List.setIfInBounds_toArray, List.set_cons_zero, List.set_cons_succ]
              refine wpAnyH_take (i := 28) (oi := ⟨some 19, _, _, _, _, _⟩) (v := ?_) rfl (by kernel_rfl) (by kernel_rfl) (by kernel_rfl) (fun _ _ _ h => h) (Or.inl ⟨by rfl, ?_⟩) (by assumption) ?_
              rotate_left
              · intro w hSw; (try dsimp only at hSw); go_simp; try with_reducible rfl
              try simp only [Act.put, List.setIfInBounds_toArray, List.set_cons_zero, List.set_cons_succ]
              refine wpAnyH_done (by kernel_rfl) ?_ _
              (try dsimp only [Exit.then, Met])
              go_wp2
              all_goals first | (exfalso; omega) | (go_ret; refine ret_bool ?_ (by repeat (first | with_reducible exact Below.refl _ _ | with_reducible assumption | with_reducible refine Below.setCell ?_ (by first | omega | (simp <;> omega)) _ | with_reducible refine balloc ?_ _ | with_reducible refine Below.drew ?_ | with_reducible refine bstep ?_ (by with_reducible assumption))); first | (simp; done) | (simp <;> omega) | (simp [*]; done))
          · skip
            go_wp2_with fail
            refine wp_region_held_drew (S := fun w' => w'.cell? ⟨w.heap.size, 0, none⟩ = some (.int .i64 x1) ∧ w'.cell? ⟨w.heap.size, 1, none⟩ = some (.int .i64 x2) ∧ w'.cell? ⟨w5.heap.size, 0, none⟩ = some (.int .i64 v1) ∧ w'.cell? ⟨w5.heap.size, 1, none⟩ = some (.int .i64 v2)) (by kernel_rfl) (by first | (go_keep; done) | ((repeat' apply And.intro) <;> go_simp)) (fun hHeld => ?_)
            refine wpAnyH_take (i := 0) (oi := ⟨some 106, _, _, _, _, _⟩) (v := ?_) rfl (by kernel_rfl) (by kernel_rfl) (by kernel_rfl) (fun _ _ _ h => h) (Or.inl ⟨by rfl, ?_⟩) (by assumption) ?_
            rotate_left
            · intro w hSw; (try dsimp only at hSw); go_simp; try with_reducible rfl
            try simp only [Act.put, List.setIfInBounds_toArray, List.set_cons_zero, List.set_cons_succ]
            refine wpAnyH_take (i := 1) (oi := ⟨some 107, _, _, _, _, _⟩) (v := ?_) rfl (by kernel_rfl) (by kernel_rfl) (by kernel_rfl) (fun _ _ _ h => h) (Or.inl ⟨by rfl, ?_⟩) (by assumption) ?_
            rotate_left
            · intro w hSw; (try dsimp only at hSw); go_simp; try with_reducible rfl
            try simp only [Act.put, List.setIfInBounds_toArray, List.set_cons_zero, List.set_cons_succ]
            refine wpAnyH_take (i := 2) (oi := ⟨some 108, _, _, _, _, _⟩) (v := ?_) rfl (by kernel_rfl) (by kernel_rfl) (by kernel_rfl) (fun _ _ _ h => h) (Or.inl ⟨by rfl, ?_⟩) (by assumption) ?_
            rotate_left
            · intro w hSw; (try dsimp only at hSw); go_simp; try with_reducible rfl
            try simp only [Act.put, List.setIfInBounds_toArray, List.set_cons_zero, List.set_cons_succ]
            refine wpAnyH_take (i := 3) (oi := ⟨some 109, _, _, _, _, _⟩) (v := ?_) rfl (by kernel_rfl) (by kernel_rfl) (by kernel_rfl) (fun _ _ _ h => h) (Or.inl ⟨by rfl, ?_⟩) (by assumption) ?_
            rotate_left
            · intro w hSw; (try dsimp only at hSw); go_simp; try with_reducible rfl
            try simp only [Act.put, List.setIfInBounds_toArray, List.set_cons_zero, List.set_cons_succ]
            refine wpAnyH_take (i := 4) (oi := ⟨some 110, _, _, _, _, _⟩) (v := ?_) rfl (by kernel_rfl) (by kernel_rfl) (by kernel_rfl) (fun _ _ _ h => h) (Or.inl ⟨by rfl, ?_⟩) (by assumption) ?_
            rotate_left
            · intro w hSw; (try dsimp only at hSw); go_simp; try with_reducible rfl
            try simp only [Act.put, List.setIfInBounds_toArray, List.set_cons_zero, List.set_cons_succ]
            refine wpAnyH_take (i := 5) (oi := ⟨some 111, _, _, _, _, _⟩) (v := ?_) rfl (by kernel_rfl) (by kernel_rfl) (by kernel_rfl) (fun _ _ _ h => h) (Or.inl ⟨by rfl, ?_⟩) (by assumption) ?_
            rotate_left
            · intro w hSw; (try dsimp only at hSw); go_simp; try with_reducible rfl
            try simp only [Act.put, List.setIfInBounds_toArray, List.set_cons_zero, List.set_cons_succ]
            refine wpAnyH_take (i := 6) (oi := ⟨some 112, _, _, _, _, _⟩) (v := ?_) rfl (by kernel_rfl) (by kernel_rfl) (by kernel_rfl) (fun _ _ _ h => h) (Or.inl ⟨by rfl, ?_⟩) (by assumption) ?_
            rotate_left
            · intro w hSw; (try dsimp only at hSw); go_simp; try with_reducible rfl
            try simp only [Act.put, List.setIfInBounds_toArray, List.set_cons_zero, List.set_cons_succ]
            refine wpAnyH_take (i := 7) (oi := ⟨some 113, _, _, _, _, _⟩) (v := ?_) rfl (by kernel_rfl) (by kernel_rfl) (by kernel_rfl) (fun _ _ _ h => h) (Or.inl ⟨by rfl, ?_⟩) (by assumption) ?_
            rotate_left
            · intro w hSw; (try dsimp only at hSw); go_simp; try with_reducible rfl
            try simp only [Act.put, List.setIfInBounds_toArray, List.set_cons_zero, List.set_cons_succ]
            refine wpAnyH_take (i := 8) (oi := ⟨some 114, _, _, _, _, _⟩) (v := ?_) rfl (by kernel_rfl) (by kernel_rfl) (by kernel_rfl) (fun _ _ _ h => h) (Or.inl ⟨by rfl, ?_⟩) (by assumption) ?_
            rotate_left
            · intro w hSw; (try dsimp only at hSw); go_simp; try with_reducible rfl
            try simp only [Act.put, List.setIfInBounds_toArray, List.set_cons_zero, List.set_cons_succ]
            refine wpAnyH_take (i := 9) (oi := ⟨some 115, _, _, _, _, _⟩) (v := ?_) rfl (by kernel_rfl) (by kernel_rfl) (by kernel_rfl) (fun _ _ _ h => h) (Or.inl ⟨by rfl, ?_⟩) (by assumption) ?_
            rotate_left
            · intro w hSw; (try dsimp only at hSw); go_simp; try with_reducible rfl
            try simp only [Act.put, List.setIfInBounds_toArray, List.set_cons_zero, List.set_cons_succ]
            refine wpAnyH_take (i := 10) (oi := ⟨some 116, _, _, _, _, _⟩) (v := ?_) rfl (by kernel_rfl) (by kernel_rfl) (by kernel_rfl) (fun _ _ _ h => h) (Or.inl ⟨by rfl, ?_⟩) (by assumption) ?_
            rotate_left
            · intro w hSw; (try dsimp only at hSw); go_simp; try with_reducible rfl
            try simp only [Act.put, List.setIfInBounds_toArray, List.set_cons_zero, List.set_cons_succ]
            refine wpAnyH_take (i := 11) (oi := ⟨some 117, _, _, _, _, _⟩) (v := ?_) rfl (by kernel_rfl) (by kernel_rfl) (by kernel_rfl) (fun _ _ _ h => h) (Or.inl ⟨by rfl, ?_⟩) (by assumption) ?_
            rotate_left
            · intro w hSw; (try dsimp only at hSw); go_simp; try with_reducible rfl
            try simp only [Act.put, List.setIfInBounds_toArray, List.set_cons_zero, List.set_cons_succ]
            refine wpAnyH_take (i := 12) (oi := ⟨some 118, _, _, _, _, _⟩) (v := ?_) rfl (by kernel_rfl) (by kernel_rfl) (by kernel_rfl) (fun _ _ _ h => h) (Or.inl ⟨by rfl, ?_⟩) (by assumption) ?_
            rotate_left
            · intro w hSw; (try dsimp only at hSw); go_simp; try with_reducible rfl
            try simp only [Act.put, List.setIfInBounds_toArray, List.set_cons_zero, List.set_cons_succ]
            refine wpAnyH_take (i := 13) (oi := ⟨some 119, _, _, _, _, _⟩) (v := ?_) rfl (by kernel_rfl) (by kernel_rfl) (by kernel_rfl) (fun _ _ _ h => h) (Or.inl ⟨by rfl, ?_⟩) (by assumption) ?_
            rotate_left
            · intro w hSw; (try dsimp only at hSw); go_simp; try with_reducible rfl
            try simp only [Act.put, List.setIfInBounds_toArray, List.set_cons_zero, List.set_cons_succ]
            refine wpAnyH_ready (rs := [14]) (by kernel_rfl) (by simp) ?_
            refine AllReadyH.cons (o := ⟨some 120, _, _, _, _, _⟩) rfl (fun KK hKK => ?_) AllReadyH.nil
            go_simp
            refine Calls.mono (at_c (x1 + 2 * v1) (x2 + 2 * v2) _) ?_
            rintro e wt7 ⟨rfl, hb⟩
            replace kx0 := cell_later hb kx0
            replace kx1 := cell_later hb kx1
            replace ky0 := cell_later hb ky0
            replace ky1 := cell_later hb ky1
            replace kz0 := cell_later hb kz0
            replace kz1 := cell_later hb kz1
            replace kv0 := cell_later hb kv0
            replace kv1 := cell_later hb kv1
            replace zx : w.heap.size < wt7.heap.size := World.block_lt_of_cell? _ _ kx0
            have zx_wt7 := zx
            replace zy : w.heap.size + 1 < wt7.heap.size := World.block_lt_of_cell? _ _ ky0
            have zy_wt7 := zy
            replace zz : w.heap.size + 1 + 1 < wt7.heap.size := World.block_lt_of_cell? _ _ kz0
            have zz_wt7 := zz
            replace zv : w5.heap.size < wt7.heap.size := World.block_lt_of_cell? _ _ kv0
            have zv_wt7 := zv
            replace hb0 : Below w.heap.size w wt7 := (by repeat (first | with_reducible exact Below.refl _ _ | with_reducible assumption | with_reducible refine Below.setCell ?_ (by first | omega | (simp <;> omega)) _ | with_reducible refine balloc ?_ _ | with_reducible refine Below.drew ?_ | with_reducible refine bstep ?_ (by with_reducible assumption)))
            have hs_wt7 : w6.heap.size ≤ wt7.heap.size := hb.size
            clear hb
            (try go_wp2_with fail)
            refine hKK.out _ _ (by first | (go_keep; done) | ((repeat' apply And.intro) <;> go_simp)) (fun hHeld => ?_)
            clear hKK KK
            try simp only [Act.put, List.setIfInBounds_toArray, List.set_cons_zero, List.set_cons_succ]
            refine wpAnyH_ready (rs := [15]) (by kernel_rfl) (by simp) ?_
            refine AllReadyH.cons (o := ⟨some 121, _, _, _, _, _⟩) rfl (fun KK hKK => ?_) AllReadyH.nil
            go_simp
            refine Calls.mono (HN3.out _ (by repeat (first | with_reducible exact Below.refl _ _ | with_reducible assumption | with_reducible refine Below.setCell ?_ (by first | omega | (simp <;> omega)) _ | with_reducible refine balloc ?_ _ | with_reducible refine Below.drew ?_ | with_reducible refine bstep ?_ (by with_reducible assumption)))) ?_
            rintro e wt8 ⟨rfl, hb⟩
            replace kx0 := cell_later hb kx0
            replace kx1 := cell_later hb kx1
            replace ky0 := cell_later hb ky0
            replace ky1 := cell_later hb ky1
            replace kz0 := cell_later hb kz0
            replace kz1 := cell_later hb kz1
            replace kv0 := cell_later hb kv0
            replace kv1 := cell_later hb kv1
            replace zx : w.heap.size < wt8.heap.size := World.block_lt_of_cell? _ _ kx0
            have zx_wt8 := zx
            replace zy : w.heap.size + 1 < wt8.heap.size := World.block_lt_of_cell? _ _ ky0
            have zy_wt8 := zy
            replace zz : w.heap.size + 1 + 1 < wt8.heap.size := World.block_lt_of_cell? _ _ kz0
            have zz_wt8 := zz
            replace zv : w5.heap.size < wt8.heap.size := World.block_lt_of_cell? _ _ kv0
            have zv_wt8 := zv
            replace hb0 : Below w.heap.size w wt8 := (by repeat (first | with_reducible exact Below.refl _ _ | with_reducible assumption | with_reducible refine Below.setCell ?_ (by first | omega | (simp <;> omega)) _ | with_reducible refine balloc ?_ _ | with_reducible refine Below.drew ?_ | with_reducible refine bstep ?_ (by with_reducible assumption)))
            have hs_wt8 : wt7.heap.size ≤ wt8.heap.size := hb.size
            clear hb
            (try go_wp2_with fail)
            refine hKK.out _ _ (by first | (go_keep; done) | ((repeat' apply And.intro) <;> go_simp)) (fun hHeld => ?_)
            clear hKK KK
            try simp only [Act.put, List.setIfInBounds_toArray, List.set_cons_zero, List.set_cons_succ]
            refine wpAnyH_take (i := 16) (oi := ⟨some 105, _, _, _, _, _⟩) (v := ?_) rfl (by kernel_rfl) (by kernel_rfl) (by kernel_rfl) (fun _ _ _ h => h) (Or.inl ⟨by rfl, ?_⟩) (by assumption) ?_
            rotate_left
            · intro w hSw; (try dsimp only at hSw); go_simp; try with_reducible rfl
            try simp only [Act.put, List.setIfInBounds_toArray, List.set_cons_zero, List.set_cons_succ]
            refine wpAnyH_take (i := 17) (oi := ⟨some 122, _, _, _, _, _⟩) (v := ?_) rfl (by kernel_rfl) (by kernel_rfl) (by kernel_rfl) (fun _ _ _ h => h) (Or.inl ⟨by rfl, ?_⟩) (by assumption) ?_
            rotate_left
            · intro w hSw; (try dsimp only at hSw); go_simp; try with_reducible rfl
            try simp only [Act.put, List.setIfInBounds_toArray, List.set_cons_zero, List.set_cons_succ]
            refine wpAnyH_take (i := 18) (oi := ⟨some 123, _, _, _, _, _⟩) (v := ?_) rfl (by kernel_rfl) (by kernel_rfl) (by kernel_rfl) (fun _ _ _ h => h) (Or.inl ⟨by rfl, ?_⟩) (by assumption) ?_
            rotate_left
            · intro w hSw; (try dsimp only at hSw); go_simp; try with_reducible rfl
            try simp only [Act.put, List.setIfInBounds_toArray, List.set_cons_zero, List.set_cons_succ]
            refine wpAnyH_take (i := 19) (oi := ⟨some 16, _, _, _, _, _⟩) (v := ?_) rfl (by kernel_rfl) (by kernel_rfl) (by kernel_rfl) (fun _ _ _ h => h) (Or.inl ⟨by rfl, ?_⟩) (by assumption) ?_
            rotate_left
            · intro w hSw; (try dsimp only at hSw); go_simp; try with_reducible rfl
            try simp only [Act.put, List.setIfInBounds_toArray, List.set_cons_zero, List.set_cons_succ]
            refine wpAnyH_take (i := 20) (oi := ⟨some 17, _, _, _, _, _⟩) (v := ?_) rfl (by kernel_rfl) (by kernel_rfl) (by kernel_rfl) (fun _ _ _ h => h) (Or.inl ⟨by rfl, ?_⟩) (by assumption) ?_
            rotate_left
            · intro w hSw; (try dsimp only at hSw); go_simp; try with_reducible rfl
            try simp only [Act.put, List.setIfInBounds_toArray, List.set_cons_zero, List.set_cons_succ]
            refine wpAnyH_done (by kernel_rfl) ?_ _
            (try dsimp only [Exit.then, Met])
            cases u3
            · skip
              go_wp2_with fail
              refine Calls.mono (HU3.out _) ?_
              rintro e w9 ⟨rfl, hb⟩
              replace kx0 := cell_later hb kx0
              replace kx1 := cell_later hb kx1
              replace ky0 := cell_later hb ky0
              replace ky1 := cell_later hb ky1
              replace kz0 := cell_later hb kz0
              replace kz1 := cell_later hb kz1
              replace kv0 := cell_later hb kv0
              replace kv1 := cell_later hb kv1
              replace zx : w.heap.size < w9.heap.size := World.block_lt_of_cell? _ _ kx0
              have zx_w9 := zx
              replace zy : w.heap.size + 1 < w9.heap.size := World.block_lt_of_cell? _ _ ky0
              have zy_w9 := zy
              replace zz : w.heap.size + 1 + 1 < w9.heap.size := World.block_lt_of_cell? _ _ kz0
              have zz_w9 := zz
              replace zv : w5.heap.size < w9.heap.size := World.block_lt_of_cell? _ _ kv0
              have zv_w9 := zv
              replace hb0 : Below w.heap.size w w9 := (by repeat (first | with_reducible exact Below.refl _ _ | with_reducible assumption | with_reducible refine Below.setCell ?_ (by first | omega | (simp <;> omega)) _ | with_reducible refine balloc ?_ _ | with_reducible refine Below.drew ?_ | with_reducible refine bstep ?_ (by with_reducible assumption)))
              have hs_w9 : wt8.heap.size ≤ w9.heap.size := hb.size
              clear hb
              go_wp2
              all_goals first | (exfalso; omega) | (go_ret; refine ret_bool ?_ (by repeat (first | with_reducible exact Below.refl _ _ | with_reducible assumption | with_reducible refine Below.setCell ?_ (by first | omega | (simp <;> omega)) _ | with_reducible refine balloc ?_ _ | with_reducible refine Below.drew ?_ | with_reducible refine bstep ?_ (by with_reducible assumption))); first | (simp; done) | (simp <;> omega) | (simp [*]; done))
            · skip
              obtain ⟨⟨o1, o2⟩, o3, o4⟩ := HN5.out (by first | rfl | trivial)
              have N4 := HN4.out (by first | rfl | trivial)
              have HN6 := Lib.hid N4
              clear N4
              go_wp2_with fail
              refine Calls.mono (HU3.out _) ?_
              rintro e w9 ⟨rfl, hb⟩
              replace kx0 := cell_later hb kx0
              replace kx1 := cell_later hb kx1
              replace ky0 := cell_later hb ky0
              replace ky1 := cell_later hb ky1
              replace kz0 := cell_later hb kz0
              replace kz1 := cell_later hb kz1
              replace kv0 := cell_later hb kv0
              replace kv1 := cell_later hb kv1
              replace zx : w.heap.size < w9.heap.size := World.block_lt_of_cell? _ _ kx0
              have zx_w9 := zx
              replace zy : w.heap.size + 1 < w9.heap.size := World.block_lt_of_cell? _ _ ky0
              have zy_w9 := zy
              replace zz : w.heap.size + 1 + 1 < w9.heap.size := World.block_lt_of_cell? _ _ kz0
              have zz_w9 := zz
              replace zv : w5.heap.size < w9.heap.size := World.block_lt_of_cell? _ _ kv0
              have zv_w9 := zv
              replace hb0 : Below w.heap.size w w9 := (by repeat (first | with_reducible exact Below.refl _ _ | with_reducible assumption | with_reducible refine Below.setCell ?_ (by first | omega | (simp <;> omega)) _ | with_reducible refine balloc ?_ _ | with_reducible refine Below.drew ?_ | with_reducible refine bstep ?_ (by with_reducible assumption)))
              have hs_w9 : wt8.heap.size ≤ w9.heap.size := hb.size
              clear hb
              go_wp2_with fail
              refine wp_region_held_drew (S := fun w' => w'.cell? ⟨w.heap.size, 0, none⟩ = some (.int .i64 x1) ∧ w'.cell? ⟨w.heap.size, 1, none⟩ = some (.int .i64 x2) ∧ w'.cell? ⟨w.heap.size + 1, 0, none⟩ = some (.int .i64 y1) ∧ w'.cell? ⟨w.heap.size + 1, 1, none⟩ = some (.int .i64 y2) ∧ w'.cell? ⟨w.heap.size + 1 + 1, 0, none⟩ = some (.int .i64 z1) ∧ w'.cell? ⟨w.heap.size + 1 + 1, 1, none⟩ = some (.int .i64 z2)) (by kernel_rfl) (by first | (go_keep; done) | ((repeat' apply And.intro) <;> go_simp)) (fun hHeld => ?_)
              refine wpAnyH_take (i := 0) (oi := ⟨some 143, _, _, _, _, _⟩) (v := ?_) rfl (by kernel_rfl) (by kernel_rfl) (by kernel_rfl) (fun _ _ _ h => h) (Or.inl ⟨by rfl, ?_⟩) (by assumption) ?_
              rotate_left
              · intro w hSw; (try dsimp only at hSw); go_simp; try with_reducible rfl
              try simp only [Act.put, List.setIfInBounds_toArray, List.set_cons_zero, List.set_cons_succ]
              refine wpAnyH_take (i := 1) (oi := ⟨some 144, _, _, _, _, _⟩) (v := ?_) rfl (by kernel_rfl) (by kernel_rfl) (by kernel_rfl) (fun _ _ _ h => h) (Or.inl ⟨by rfl, ?_⟩) (by assumption) ?_
              rotate_left
              · intro w hSw; (try dsimp only at hSw); go_simp; try with_reducible rfl
              try simp only [Act.put, List.setIfInBounds_toArray, List.set_cons_zero, List.set_cons_succ]
              refine wpAnyH_take (i := 2) (oi := ⟨some 145, _, _, _, _, _⟩) (v := ?_) rfl (by kernel_rfl) (by kernel_rfl) (by kernel_rfl) (fun _ _ _ h => h) (Or.inl ⟨by rfl, ?_⟩) (by assumption) ?_
              rotate_left
              · intro w hSw; (try dsimp only at hSw); go_simp; try with_reducible rfl
              try simp only [Act.put, List.setIfInBounds_toArray, List.set_cons_zero, List.set_cons_succ]
              refine wpAnyH_take (i := 3) (oi := ⟨some 146, _, _, _, _, _⟩) (v := ?_) rfl (by kernel_rfl) (by kernel_rfl) (by kernel_rfl) (fun _ _ _ h => h) (Or.inl ⟨by rfl, ?_⟩) (by assumption) ?_
              rotate_left
              · intro w hSw; (try dsimp only at hSw); go_simp; try with_reducible rfl
              try simp only [Act.put, List.setIfInBounds_toArray, List.set_cons_zero, List.set_cons_succ]
              refine wpAnyH_take (i := 4) (oi := ⟨some 147, _, _, _, _, _⟩) (v := ?_) rfl (by kernel_rfl) (by kernel_rfl) (by kernel_rfl) (fun _ _ _ h => h) (Or.inl ⟨by rfl, ?_⟩) (by assumption) ?_
              rotate_left
              · intro w hSw; (try dsimp only at hSw); go_simp; try with_reducible rfl
              try simp only [Act.put, List.setIfInBounds_toArray, List.set_cons_zero, List.set_cons_succ]
              refine wpAnyH_take (i := 5) (oi := ⟨some 148, _, _, _, _, _⟩) (v := ?_) rfl (by kernel_rfl) (by kernel_rfl) (by kernel_rfl) (fun _ _ _ h => h) (Or.inl ⟨by rfl, ?_⟩) (by assumption) ?_
              rotate_left
              · intro w hSw; (try dsimp only at hSw); go_simp; try with_reducible rfl
              try simp only [Act.put, List.setIfInBounds_toArray, List.set_cons_zero, List.set_cons_succ]
              refine wpAnyH_take (i := 6) (oi := ⟨some 149, _, _, _, _, _⟩) (v := ?_) rfl (by kernel_rfl) (by kernel_rfl) (by kernel_rfl) (fun _ _ _ h => h) (Or.inl ⟨by rfl, ?_⟩) (by assumption) ?_
              rotate_left
              · intro w hSw; (try dsimp only at hSw); go_simp; try with_reducible rfl
              try simp only [Act.put, List.setIfInBounds_toArray, List.set_cons_zero, List.set_cons_succ]
              refine wpAnyH_take (i := 7) (oi := ⟨some 150, _, _, _, _, _⟩) (v := ?_) rfl (by kernel_rfl) (by kernel_rfl) (by kernel_rfl) (fun _ _ _ h => h) (Or.inl ⟨by rfl, ?_⟩) (by assumption) ?_
              rotate_left
              · intro w hSw; (try dsimp only at hSw); go_simp; try with_reducible rfl
              try simp only [Act.put, List.setIfInBounds_toArray, List.set_cons_zero, List.set_cons_succ]
              refine wpAnyH_take (i := 8) (oi := ⟨some 151, _, _, _, _, _⟩) (v := ?_) rfl (by kernel_rfl) (by kernel_rfl) (by kernel_rfl) (fun _ _ _ h => h) (Or.inl ⟨by rfl, ?_⟩) (by assumption) ?_
              rotate_left
              · intro w hSw; (try dsimp only at hSw); go_simp; try with_reducible rfl
              try simp only [Act.put, List.setIfInBounds_toArray, List.set_cons_zero, List.set_cons_succ]
              refine wpAnyH_take (i := 9) (oi := ⟨some 152, _, _, _, _, _⟩) (v := ?_) rfl (by kernel_rfl) (by kernel_rfl) (by kernel_rfl) (fun _ _ _ h => h) (Or.inl ⟨by rfl, ?_⟩) (by assumption) ?_
              rotate_left
              · intro w hSw; (try dsimp only at hSw); go_simp; try with_reducible rfl
              try simp only [Act.put, List.setIfInBounds_toArray, List.set_cons_zero, List.set_cons_succ]
              refine wpAnyH_take (i := 10) (oi := ⟨some 153, _, _, _, _, _⟩) (v := ?_) rfl (by kernel_rfl) (by kernel_rfl) (by kernel_rfl) (fun _ _ _ h => h) (Or.inl ⟨by rfl, ?_⟩) (by assumption) ?_
              rotate_left
              · intro w hSw; (try dsimp only at hSw); go_simp; try with_reducible rfl
              try simp only [Act.put, List.setIfInBounds_toArray, List.set_cons_zero, List.set_cons_succ]
              refine wpAnyH_take (i := 12) (oi := ⟨some 155, _, _, _, _, _⟩) (v := ?_) rfl (by kernel_rfl) (by kernel_rfl) (by kernel_rfl) (fun _ _ _ h => h) (Or.inl ⟨by rfl, ?_⟩) (by assumption) ?_
              rotate_left
              · intro w hSw; (try dsimp only at hSw); go_simp; try with_reducible rfl
              try simp only [Act.put, List.setIfInBounds_toArray, List.set_cons_zero, List.set_cons_succ]
              refine wpAnyH_take (i := 13) (oi := ⟨some 156, _, _, _, _, _⟩) (v := ?_) rfl (by kernel_rfl) (by kernel_rfl) (by kernel_rfl) (fun _ _ _ h => h) (Or.inl ⟨by rfl, ?_⟩) (by assumption) ?_
              rotate_left
              · intro w hSw; (try dsimp only at hSw); go_simp; try with_reducible rfl
              try simp only [Act.put, List.setIfInBounds_toArray, List.set_cons_zero, List.set_cons_succ]
              refine wpAnyH_take (i := 14) (oi := ⟨some 157, _, _, _, _, _⟩) (v := ?_) rfl (by kernel_rfl) (by kernel_rfl) (by kernel_rfl) (fun _ _ _ h => h) (Or.inl ⟨by rfl, ?_⟩) (by assumption) ?_
              rotate_left
              · intro w hSw; (try dsimp only at hSw); go_simp; try with_reducible rfl
              try simp only [Act.put, List.setIfInBounds_toArray, List.set_cons_zero, List.set_cons_succ]
              refine wpAnyH_take (i := 15) (oi := ⟨some 158, _, _, _, _, _⟩) (v := ?_) rfl (by kernel_rfl) (by kernel_rfl) (by kernel_rfl) (fun _ _ _ h => h) (Or.inl ⟨by rfl, ?_⟩) (by assumption) ?_
              rotate_left
              · intro w hSw; (try dsimp only at hSw); go_simp; try with_reducible rfl
              try simp only [Act.put, List.setIfInBounds_toArray, List.set_cons_zero, List.set_cons_succ]
              refine wpAnyH_take (i := 16) (oi := ⟨some 159, _, _, _, _, _⟩) (v := ?_) rfl (by kernel_rfl) (by kernel_rfl) (by kernel_rfl) (fun _ _ _ h => h) (Or.inl ⟨by rfl, ?_⟩) (by assumption) ?_
              rotate_left
              · intro w hSw; (try dsimp only at hSw); go_simp; try with_reducible rfl
              try simp only [Act.put, List.setIfInBounds_toArray, List.set_cons_zero, List.set_cons_succ]
              refine wpAnyH_take (i := 17) (oi := ⟨some 160, _, _, _, _, _⟩) (v := ?_) rfl (by kernel_rfl) (by kernel_rfl) (by kernel_rfl) (fun _ _ _ h => h) (Or.inl ⟨by rfl, ?_⟩) (by assumption) ?_
              rotate_left
              · intro w hSw; (try dsimp only at hSw); go_simp; try with_reducible rfl
              try simp only [Act.put, List.setIfInBounds_toArray, List.set_cons_zero, List.set_cons_succ]
              refine wpAnyH_take (i := 18) (oi := ⟨some 161, _, _, _, _, _⟩) (v := ?_) rfl (by kernel_rfl) (by kernel_rfl) (by kernel_rfl) (fun _ _ _ h => h) (Or.inl ⟨by rfl, ?_⟩) (by assumption) ?_
              rotate_left
              · intro w hSw; (try dsimp only at hSw); go_simp; try with_reducible rfl
              try simp only [Act.put, List.setIfInBounds_toArray, List.set_cons_zero, List.set_cons_succ]
              refine wpAnyH_take (i := 19) (oi := ⟨some 162, _, _, _, _, _⟩) (v := ?_) rfl (by kernel_rfl) (by kernel_rfl) (by kernel_rfl) (fun _ _ _ h => h) (Or.inl ⟨by rfl, ?_⟩) (by assumption) ?_
              rotate_left
              · intro w hSw; (try dsimp only at hSw); go_simp; try with_reducible rfl
              try simp only [Act.put, List.setIfInBounds_toArray, List.set_cons_zero, List.set_cons_succ]
              refine wpAnyH_take (i := 20) (oi := ⟨some 163, _, _, _, _, _⟩) (v := ?_) rfl (by kernel_rfl) (by kernel_rfl) (by kernel_rfl) (fun _ _ _ h => h) (Or.inl ⟨by rfl, ?_⟩) (by assumption) ?_
              rotate_left
              · intro w hSw; (try dsimp only at hSw); go_simp; try with_reducible rfl
              try simp only [Act.put, List.setIfInBounds_toArray, List.set_cons_zero, List.set_cons_succ]
              refine wpAnyH_take (i := 21) (oi := ⟨some 164, _, _, _, _, _⟩) (v := ?_) rfl (by kernel_rfl) (by kernel_rfl) (by kernel_rfl) (fun _ _ _ h => h) (Or.inl ⟨by rfl, ?_⟩) (by assumption) ?_
              rotate_left
              · intro w hSw; (try dsimp only at hSw); go_simp; try with_reducible rfl
              try simp only [Act.put, List.setIfInBounds_toArray, List.set_cons_zero, List.set_cons_succ]
              refine wpAnyH_ready (rs := [11]) (by kernel_rfl) (by simp) ?_
              refine AllReadyH.cons (o := ⟨some 154, _, _, _, _, _⟩) rfl (fun KK hKK => ?_) AllReadyH.nil
              go_simp
              refine Calls.mono (at_c (x1 + z1) (x2 + z2) _) ?_
              rintro e wt10 ⟨rfl, hb⟩
              replace kx0 := cell_later hb kx0
              replace kx1 := cell_later hb kx1
              replace ky0 := cell_later hb ky0
              replace ky1 := cell_later hb ky1
              replace kz0 := cell_later hb kz0
              replace kz1 := cell_later hb kz1
              replace kv0 := cell_later hb kv0
              replace kv1 := cell_later hb kv1
              replace zx : w.heap.size < wt10.heap.size := World.block_lt_of_cell? _ _ kx0
              have zx_wt10 := zx
              replace zy : w.heap.size + 1 < wt10.heap.size := World.block_lt_of_cell? _ _ ky0
              have zy_wt10 := zy
              replace zz : w.heap.size + 1 + 1 < wt10.heap.size := World.block_lt_of_cell? _ _ kz0
              have zz_wt10 := zz
              replace zv : w5.heap.size < wt10.heap.size := World.block_lt_of_cell? _ _ kv0
              have zv_wt10 := zv
              replace hb0 : Below w.heap.size w wt10 := (by repeat (first | with_reducible exact Below.refl _ _ | with_reducible assumption | with_reducible refine Below.setCell ?_ (by first | omega | (simp <;> omega)) _ | with_reducible refine balloc ?_ _ | with_reducible refine Below.drew ?_ | with_reducible refine bstep ?_ (by with_reducible assumption)))
              have hs_wt10 : w9.heap.size ≤ wt10.heap.size := hb.size
              clear hb
              (try go_wp2_with fail)
              refine hKK.out _ _ (by first | (go_keep; done) | ((repeat' apply And.intro) <;> go_simp)) (fun hHeld => ?_)
              clear hKK KK
              try simp only [Act.put, List.setIfInBounds_toArray, List.set_cons_zero, List.set_cons_succ]
              refine wpAnyH_ready (rs := [22]) (by kernel_rfl) (by simp) ?_
              refine AllReadyH.cons (o := ⟨some 165, _, _, _, _, _⟩) rfl (fun KK hKK => ?_) AllReadyH.nil
              go_simp
              refine Calls.mono (at_c (y1 + z1) (y2 + z2) _) ?_
              rintro e wt11 ⟨rfl, hb⟩
              replace kx0 := cell_later hb kx0
              replace kx1 := cell_later hb kx1
              replace ky0 := cell_later hb ky0
              replace ky1 := cell_later hb ky1
              replace kz0 := cell_later hb kz0
              replace kz1 := cell_later hb kz1
              replace kv0 := cell_later hb kv0
              replace kv1 := cell_later hb kv1
              replace zx : w.heap.size < wt11.heap.size := World.block_lt_of_cell? _ _ kx0
              have zx_wt11 := zx
              replace zy : w.heap.size + 1 < wt11.heap.size := World.block_lt_of_cell? _ _ ky0
              have zy_wt11 := zy
              replace zz : w.heap.size + 1 + 1 < wt11.heap.size := World.block_lt_of_cell? _ _ kz0
              have zz_wt11 := zz
              replace zv : w5.heap.size < wt11.heap.size := World.block_lt_of_cell? _ _ kv0
              have zv_wt11 := zv
              replace hb0 : Below w.heap.size w wt11 := (by repeat (first | with_reducible exact Below.refl _ _ | with_reducible assumption | with_reducible refine Below.setCell ?_ (by first | omega | (simp <;> omega)) _ | with_reducible refine balloc ?_ _ | with_reducible refine Below.drew ?_ | with_reducible refine bstep ?_ (by with_reducible assumption)))
              have hs_wt11 : wt10.heap.size ≤ wt11.heap.size := hb.size
              clear hb
              (try go_wp2_with fail)
              refine hKK.out _ _ (by first | (go_keep; done) | ((repeat' apply And.intro) <;> go_simp)) (fun hHeld => ?_)
              clear hKK KK
              try simp only [Act.put, List.setIfInBounds_toArray, List.set_cons_zero, List.set_cons_succ]
              refine wpAnyH_ready (rs := [23]) (by kernel_rfl) (by simp) ?_
              refine AllReadyH.cons (o := ⟨some 166, _, _, _, _, _⟩) rfl (fun KK hKK => ?_) AllReadyH.nil
              go_simp
              refine Calls.mono (HN6.out _ (by repeat (first | with_reducible exact Below.refl _ _ | with_reducible assumption | with_reducible refine Below.setCell ?_ (by first | omega | (simp <;> omega)) _ | with_reducible refine balloc ?_ _ | with_reducible refine Below.drew ?_ | with_reducible refine bstep ?_ (by with_reducible assumption)))) ?_
              rintro e wt12 ⟨rfl, hb⟩
              replace kx0 := cell_later hb kx0
              replace kx1 := cell_later hb kx1
              replace ky0 := cell_later hb ky0
              replace ky1 := cell_later hb ky1
              replace kz0 := cell_later hb kz0
              replace kz1 := cell_later hb kz1
              replace kv0 := cell_later hb kv0
              replace kv1 := cell_later hb kv1
              replace zx : w.heap.size < wt12.heap.size := World.block_lt_of_cell? _ _ kx0
              have zx_wt12 := zx
              replace zy : w.heap.size + 1 < wt12.heap.size := World.block_lt_of_cell? _ _ ky0
              have zy_wt12 := zy
              replace zz : w.heap.size + 1 + 1 < wt12.heap.size := World.block_lt_of_cell? _ _ kz0
              have zz_wt12 := zz
              replace zv : w5.heap.size < wt12.heap.size := World.block_lt_of_cell? _ _ kv0
              have zv_wt12 := zv
              replace hb0 : Below w.heap.size w wt12 := (by repeat (first | with_reducible exact Below.refl _ _ | with_reducible assumption | with_reducible refine Below.setCell ?_ (by first | omega | (simp <;> omega)) _ | with_reducible refine balloc ?_ _ | with_reducible refine Below.drew ?_ | with_reducible refine bstep ?_ (by with_reducible assumption)))
              have hs_wt12 : wt11.heap.size ≤ wt12.heap.size := hb.size
              clear hb
              (try go_wp2_with fail)
              refine hKK.out _ _ (by first | (go_keep; done) | ((repeat' apply And.intro) <;> go_simp)) (fun hHeld => ?_)
              clear hKK KK
              try simp only [Act.put, List.setIfInBounds_toArray, List.set_cons_zero, List.set_cons_succ]
              refine wpAnyH_take (i := 24) (oi := ⟨some 142, _, _, _, _, _⟩) (v := ?_) rfl (by kernel_rfl) (by kernel_rfl) (by kernel_rfl) (fun _ _ _ h => h) (Or.inl ⟨by rfl, ?_⟩) (by assumption) ?_
              rotate_left
              · intro w hSw; (try dsimp only at hSw); go_simp; try with_reducible rfl
              try simp only [Act.put, List.setIfInBounds_toArray, List.set_cons_zero, List.set_cons_succ]
              refine wpAnyH_take (i := 25) (oi := ⟨some 167, _, _, _, _, _⟩) (v := ?_) rfl (by kernel_rfl) (by kernel_rfl) (by kernel_rfl) (fun _ _ _ h => h) (Or.inl ⟨by rfl, ?_⟩) (by assumption) ?_
              rotate_left
              · intro w hSw; (try dsimp only at hSw); go_simp; try with_reducible rfl
              try simp only [Act.put, List.setIfInBounds_toArray, List.set_cons_zero, List.set_cons_succ]
              refine wpAnyH_take (i := 26) (oi := ⟨some 168, _, _, _, _, _⟩) (v := ?_) rfl (by kernel_rfl) (by kernel_rfl) (by kernel_rfl) (fun _ _ _ h => h) (Or.inl ⟨by rfl, ?_⟩) (by assumption) ?_
              rotate_left
              · intro w hSw; (try dsimp only at hSw); go_simp; try with_reducible rfl
              try simp only [Act.put, List.setIfInBounds_toArray, List.set_cons_zero, List.set_cons_succ]
              refine wpAnyH_take (i := 27) (oi := ⟨some 18, _, _, _, _, _⟩) (v := ?_) rfl (by kernel_rfl) (by kernel_rfl) (by kernel_rfl) (fun _ _ _ h => h) (Or.inl ⟨by rfl, ?_⟩) (by assumption) ?_
              rotate_left
              · intro w hSw; (try dsimp only at hSw); go_simp; try with_reducible rfl
              try simp only [Act.put, List.setIfInBounds_toArray, List.set_cons_zero, List.set_cons_succ]
              refine wpAnyH_take (i := 28) (oi := ⟨some 19, _, _, _, _, _⟩) (v := ?_) rfl (by kernel_rfl) (by kernel_rfl) (by kernel_rfl) (fun _ _ _ h => h) (Or.inl ⟨by rfl, ?_⟩) (by assumption) ?_
              rotate_left
              · intro w hSw; (try dsimp only at hSw); go_simp; try with_reducible rfl
              try simp only [Act.put, List.setIfInBounds_toArray, List.set_cons_zero, List.set_cons_succ]
              refine wpAnyH_done (by kernel_rfl) ?_ _
              (try dsimp only [Exit.then, Met])
              go_wp2
              all_goals first | (exfalso; omega) | (go_ret; refine ret_bool ?_ (by repeat (first | with_reducible exact Below.refl _ _ | with_reducible assumption | with_reducible refine Below.setCell ?_ (by first | omega | (simp <;> omega)) _ | with_reducible refine balloc ?_ _ | with_reducible refine Below.drew ?_ | with_reducible refine bstep ?_ (by with_reducible assumption))); first | (simp; done) | (simp <;> omega) | (simp [*]; done))
          · skip
            rcases hfar with rfl | rfl
            · skip
              go_wp2_with fail
              refine wp_region_held_drew (S := fun w' => w'.cell? ⟨w.heap.size, 0, none⟩ = some (.int .i64 x1) ∧ w'.cell? ⟨w.heap.size, 1, none⟩ = some (.int .i64 x2) ∧ w'.cell? ⟨w5.heap.size, 0, none⟩ = some (.int .i64 v1) ∧ w'.cell? ⟨w5.heap.size, 1, none⟩ = some (.int .i64 v2)) (by kernel_rfl) (by first | (go_keep; done) | ((repeat' apply And.intro) <;> go_simp)) (fun hHeld => ?_)
              refine wpAnyH_take (i := 0) (oi := ⟨some 106, _, _, _, _, _⟩) (v := ?_) rfl (by kernel_rfl) (by kernel_rfl) (by kernel_rfl) (fun _ _ _ h => h) (Or.inl ⟨by rfl, ?_⟩) (by assumption) ?_
              rotate_left
              · intro w hSw; (try dsimp only at hSw); go_simp; try with_reducible rfl
              try simp only [Act.put, List.setIfInBounds_toArray, List.set_cons_zero, List.set_cons_succ]
              refine wpAnyH_take (i := 1) (oi := ⟨some 107, _, _, _, _, _⟩) (v := ?_) rfl (by kernel_rfl) (by kernel_rfl) (by kernel_rfl) (fun _ _ _ h => h) (Or.inl ⟨by rfl, ?_⟩) (by assumption) ?_
              rotate_left
              · intro w hSw; (try dsimp only at hSw); go_simp; try with_reducible rfl
              try simp only [Act.put, List.setIfInBounds_toArray, List.set_cons_zero, List.set_cons_succ]
              refine wpAnyH_take (i := 2) (oi := ⟨some 108, _, _, _, _, _⟩) (v := ?_) rfl (by kernel_rfl) (by kernel_rfl) (by kernel_rfl) (fun _ _ _ h => h) (Or.inl ⟨by rfl, ?_⟩) (by assumption) ?_
              rotate_left
              · intro w hSw; (try dsimp only at hSw); go_simp; try with_reducible rfl
              try simp only [Act.put, List.setIfInBounds_toArray, List.set_cons_zero, List.set_cons_succ]
              refine wpAnyH_take (i := 3) (oi := ⟨some 109, _, _, _, _, _⟩) (v := ?_) rfl (by kernel_rfl) (by kernel_rfl) (by kernel_rfl) (fun _ _ _ h => h) (Or.inl ⟨by rfl, ?_⟩) (by assumption) ?_
              rotate_left
              · intro w hSw; (try dsimp only at hSw); go_simp; try with_reducible rfl
              try simp only [Act.put, List.setIfInBounds_toArray, List.set_cons_zero, List.set_cons_succ]
              refine wpAnyH_take (i := 4) (oi := ⟨some 110, _, _, _, _, _⟩) (v := ?_) rfl (by kernel_rfl) (by kernel_rfl) (by kernel_rfl) (fun _ _ _ h => h) (Or.inl ⟨by rfl, ?_⟩) (by assumption) ?_
              rotate_left
              · intro w hSw; (try dsimp only at hSw); go_simp; try with_reducible rfl
              try simp only [Act.put, List.setIfInBounds_toArray, List.set_cons_zero, List.set_cons_succ]
              refine wpAnyH_take (i := 5) (oi := ⟨some 111, _, _, _, _, _⟩) (v := ?_) rfl (by kernel_rfl) (by kernel_rfl) (by kernel_rfl) (fun _ _ _ h => h) (Or.inl ⟨by rfl, ?_⟩) (by assumption) ?_
              rotate_left
              · intro w hSw; (try dsimp only at hSw); go_simp; try with_reducible rfl
              try simp only [Act.put, List.setIfInBounds_toArray, List.set_cons_zero, List.set_cons_succ]
              refine wpAnyH_take (i := 6) (oi := ⟨some 112, _, _, _, _, _⟩) (v := ?_) rfl (by kernel_rfl) (by kernel_rfl) (by kernel_rfl) (fun _ _ _ h => h) (Or.inl ⟨by rfl, ?_⟩) (by assumption) ?_
              rotate_left
              · intro w hSw; (try dsimp only at hSw); go_simp; try with_reducible rfl
              try simp only [Act.put, List.setIfInBounds_toArray, List.set_cons_zero, List.set_cons_succ]
              refine wpAnyH_take (i := 7) (oi := ⟨some 113, _, _, _, _, _⟩) (v := ?_) rfl (by kernel_rfl) (by kernel_rfl) (by kernel_rfl) (fun _ _ _ h => h) (Or.inl ⟨by rfl, ?_⟩) (by assumption) ?_
              rotate_left
              · intro w hSw; (try dsimp only at hSw); go_simp; try with_reducible rfl
              try simp only [Act.put, List.setIfInBounds_toArray, List.set_cons_zero, List.set_cons_succ]
              refine wpAnyH_take (i := 8) (oi := ⟨some 114, _, _, _, _, _⟩) (v := ?_) rfl (by kernel_rfl) (by kernel_rfl) (by kernel_rfl) (fun _ _ _ h => h) (Or.inl ⟨by rfl, ?_⟩) (by assumption) ?_
              rotate_left
              · intro w hSw; (try dsimp only at hSw); go_simp; try with_reducible rfl
              try simp only [Act.put, List.setIfInBounds_toArray, List.set_cons_zero, List.set_cons_succ]
              refine wpAnyH_take (i := 9) (oi := ⟨some 115, _, _, _, _, _⟩) (v := ?_) rfl (by kernel_rfl) (by kernel_rfl) (by kernel_rfl) (fun _ _ _ h => h) (Or.inl ⟨by rfl, ?_⟩) (by assumption) ?_
              rotate_left
              · intro w hSw; (try dsimp only at hSw); go_simp; try with_reducible rfl
              try simp only [Act.put, List.setIfInBounds_toArray, List.set_cons_zero, List.set_cons_succ]
              refine wpAnyH_take (i := 10) (oi := ⟨some 116, _, _, _, _, _⟩) (v := ?_) rfl (by kernel_rfl) (by kernel_rfl) (by kernel_rfl) (fun _ _ _ h => h) (Or.inl ⟨by rfl, ?_⟩) (by assumption) ?_
              rotate_left
              · intro w hSw; (try dsimp only at hSw); go_simp; try with_reducible rfl
              try simp only [Act.put, List.setIfInBounds_toArray, List.set_cons_zero, List.set_cons_succ]
              refine wpAnyH_take (i := 11) (oi := ⟨some 117, _, _, _, _, _⟩) (v := ?_) rfl (by kernel_rfl) (by kernel_rfl) (by kernel_rfl) (fun _ _ _ h => h) (Or.inl ⟨by rfl, ?_⟩) (by assumption) ?_
              rotate_left
              · intro w hSw; (try dsimp only at hSw); go_simp; try with_reducible rfl
              try simp only [Act.put, List.setIfInBounds_toArray, List.set_cons_zero, List.set_cons_succ]
              refine wpAnyH_take (i := 12) (oi := ⟨some 118, _, _, _, _, _⟩) (v := ?_) rfl (by kernel_rfl) (by kernel_rfl) (by kernel_rfl) (fun _ _ _ h => h) (Or.inl ⟨by rfl, ?_⟩) (by assumption) ?_
              rotate_left
              · intro w hSw; (try dsimp only at hSw); go_simp; try with_reducible rfl
              try simp only [Act.put, List.setIfInBounds_toArray, List.set_cons_zero, List.set_cons_succ]
              refine wpAnyH_take (i := 13) (oi := ⟨some 119, _, _, _, _, _⟩) (v := ?_) rfl (by kernel_rfl) (by kernel_rfl) (by kernel_rfl) (fun _ _ _ h => h) (Or.inl ⟨by rfl, ?_⟩) (by assumption) ?_
              rotate_left
              · intro w hSw; (try dsimp only at hSw); go_simp; try with_reducible rfl
              try simp only [Act.put, List.setIfInBounds_toArray, List.set_cons_zero, List.set_cons_succ]
              refine wpAnyH_ready (rs := [14]) (by kernel_rfl) (by simp) ?_
              refine AllReadyH.cons (o := ⟨some 120, _, _, _, _, _⟩) rfl (fun KK hKK => ?_) AllReadyH.nil
              go_simp
              refine Calls.mono (at_c (x1 + 2 * v1) (x2 + 2 * v2) _) ?_
              rintro e wt7 ⟨rfl, hb⟩
              replace kx0 := cell_later hb kx0
              replace kx1 := cell_later hb kx1
              replace ky0 := cell_later hb ky0
              replace ky1 := cell_later hb ky1
              replace kz0 := cell_later hb kz0
              replace kz1 := cell_later hb kz1
              replace kv0 := cell_later hb kv0
              replace kv1 := cell_later hb kv1
              replace zx : w.heap.size < wt7.heap.size := World.block_lt_of_cell? _ _ kx0
              have zx_wt7 := zx
              replace zy : w.heap.size + 1 < wt7.heap.size := World.block_lt_of_cell? _ _ ky0
              have zy_wt7 := zy
              replace zz : w.heap.size + 1 + 1 < wt7.heap.size := World.block_lt_of_cell? _ _ kz0
              have zz_wt7 := zz
              replace zv : w5.heap.size < wt7.heap.size := World.block_lt_of_cell? _ _ kv0
              have zv_wt7 := zv
              replace hb0 : Below w.heap.size w wt7 := (by repeat (first | with_reducible exact Below.refl _ _ | with_reducible assumption | with_reducible refine Below.setCell ?_ (by first | omega | (simp <;> omega)) _ | with_reducible refine balloc ?_ _ | with_reducible refine Below.drew ?_ | with_reducible refine bstep ?_ (by with_reducible assumption)))
              have hs_wt7 : w6.heap.size ≤ wt7.heap.size := hb.size
              clear hb
              (try go_wp2_with fail)
              refine hKK.out _ _ (by first | (go_keep; done) | ((repeat' apply And.intro) <;> go_simp)) (fun hHeld => ?_)
              clear hKK KK
              try simp only [Act.put, List.setIfInBounds_toArray, List.set_cons_zero, List.set_cons_succ]
              refine wpAnyH_ready (rs := [15]) (by kernel_rfl) (by simp) ?_
              refine AllReadyH.cons (o := ⟨some 121, _, _, _, _, _⟩) rfl (fun KK hKK => ?_) AllReadyH.nil
              go_simp
              refine Calls.mono (HN3.out _ (by repeat (first | with_reducible exact Below.refl _ _ | with_reducible assumption | with_reducible refine Below.setCell ?_ (by first | omega | (simp <;> omega)) _ | with_reducible refine balloc ?_ _ | with_reducible refine Below.drew ?_ | with_reducible refine bstep ?_ (by with_reducible assumption)))) ?_
              rintro e wt8 ⟨rfl, hb⟩
              replace kx0 := cell_later hb kx0
              replace kx1 := cell_later hb kx1
              replace ky0 := cell_later hb ky0
              replace ky1 := cell_later hb ky1
              replace kz0 := cell_later hb kz0
              replace kz1 := cell_later hb kz1
              replace kv0 := cell_later hb kv0
              replace kv1 := cell_later hb kv1
              replace zx : w.heap.size < wt8.heap.size := World.block_lt_of_cell? _ _ kx0
              have zx_wt8 := zx
              replace zy : w.heap.size + 1 < wt8.heap.size := World.block_lt_of_cell? _ _ ky0
              have zy_wt8 := zy
              replace zz : w.heap.size + 1 + 1 < wt8.heap.size := World.block_lt_of_cell? _ _ kz0
              have zz_wt8 := zz
              replace zv : w5.heap.size < wt8.heap.size := World.block_lt_of_cell? _ _ kv0
              have zv_wt8 := zv
              replace hb0 : Below w.heap.size w wt8 := (by repeat (first | with_reducible exact Below.refl _ _ | with_reducible assumption | with_reducible refine Below.setCell ?_ (by first | omega | (simp <;> omega)) _ | with_reducible refine balloc ?_ _ | with_reducible refine Below.drew ?_ | with_reducible refine bstep ?_ (by with_reducible assumption)))
              have hs_wt8 : wt7.heap.size ≤ wt8.heap.size := hb.size
              clear hb
              (try go_wp2_with fail)
              refine hKK.out _ _ (by first | (go_keep; done) | ((repeat' apply And.intro) <;> go_simp)) (fun hHeld => ?_)
              clear hKK KK
              try simp only [Act.put, List.setIfInBounds_toArray, List.set_cons_zero, List.set_cons_succ]
              refine wpAnyH_take (i := 16) (oi := ⟨some 105, _, _, _, _, _⟩) (v := ?_) rfl (by kernel_rfl) (by kernel_rfl) (by kernel_rfl) (fun _ _ _ h => h) (Or.inl ⟨by rfl, ?_⟩) (by assumption) ?_
              rotate_left
              · intro w hSw; (try dsimp only at hSw); go_simp; try with_reducible rfl
              try simp only [Act.put, List.setIfInBounds_toArray, List.set_cons_zero, List.set_cons_succ]
              refine wpAnyH_take (i := 17) (oi := ⟨some 122, _, _, _, _, _⟩) (v := ?_) rfl (by kernel_rfl) (by kernel_rfl) (by kernel_rfl) (fun _ _ _ h => h) (Or.inl ⟨by rfl, ?_⟩) (by assumption) ?_
              rotate_left
              · intro w hSw; (try dsimp only at hSw); go_simp; try with_reducible rfl
              try simp only [Act.put, List.setIfInBounds_toArray, List.set_cons_zero, List.set_cons_succ]
              refine wpAnyH_take (i := 18) (oi := ⟨some 123, _, _, _, _, _⟩) (v := ?_) rfl (by kernel_rfl) (by kernel_rfl) (by kernel_rfl) (fun _ _ _ h => h) (Or.inl ⟨by rfl, ?_⟩) (by assumption) ?_
              rotate_left
              · intro w hSw; (try dsimp only at hSw); go_simp; try with_reducible rfl
              try simp only [Act.put, List.setIfInBounds_toArray, List.set_cons_zero, List.set_cons_succ]
              refine wpAnyH_take (i := 19) (oi := ⟨some 16, _, _, _, _, _⟩) (v := ?_) rfl (by kernel_rfl) (by kernel_rfl) (by kernel_rfl) (fun _ _ _ h => h) (Or.inl ⟨by rfl, ?_⟩) (by assumption) ?_
              rotate_left
              · intro w hSw; (try dsimp only at hSw); go_simp; try with_reducible rfl
              try simp only [Act.put, List.setIfInBounds_toArray, List.set_cons_zero, List.set_cons_succ]
              refine wpAnyH_take (i := 20) (oi := ⟨some 17, _, _, _, _, _⟩) (v := ?_) rfl (by kernel_rfl) (by kernel_rfl) (by kernel_rfl) (fun _ _ _ h => h) (Or.inl ⟨by rfl, ?_⟩) (by assumption) ?_
              rotate_left
              · intro w hSw; (try dsimp only at hSw); go_simp; try with_reducible rfl
              try simp only [Act.put, List.setIfInBounds_toArray, List.set_cons_zero, List.set_cons_succ]
              refine wpAnyH_done (by kernel_rfl) ?_ _
              (try dsimp only [Exit.then, Met])
              cases u3
              · skip
                go_wp2_with fail
                refine Calls.mono (HU3.out _) ?_
                rintro e w9 ⟨rfl, hb⟩
                replace kx0 := cell_later hb kx0
                replace kx1 := cell_later hb kx1
                replace ky0 := cell_later hb ky0
                replace ky1 := cell_later hb ky1
                replace kz0 := cell_later hb kz0
                replace kz1 := cell_later hb kz1
                replace kv0 := cell_later hb kv0
                replace kv1 := cell_later hb kv1
                replace zx : w.heap.size < w9.heap.size := World.block_lt_of_cell? _ _ kx0
                have zx_w9 := zx
                replace zy : w.heap.size + 1 < w9.heap.size := World.block_lt_of_cell? _ _ ky0
                have zy_w9 := zy
                replace zz : w.heap.size + 1 + 1 < w9.heap.size := World.block_lt_of_cell? _ _ kz0
                have zz_w9 := zz
                replace zv : w5.heap.size < w9.heap.size := World.block_lt_of_cell? _ _ kv0
                have zv_w9 := zv
                replace hb0 : Below w.heap.size w w9 := (by repeat (first | with_reducible exact Below.refl _ _ | with_reducible assumption | with_reducible refine Below.setCell ?_ (by first | omega | (simp <;> omega)) _ | with_reducible refine balloc ?_ _ | with_reducible refine Below.drew ?_ | with_reducible refine bstep ?_ (by with_reducible assumption)))
                have hs_w9 : wt8.heap.size ≤ w9.heap.size := hb.size
                clear hb
                go_wp2
                all_goals first | (exfalso; omega) | (go_ret; refine ret_bool ?_ (by repeat (first | with_reducible exact Below.refl _ _ | with_reducible assumption | with_reducible refine Below.setCell ?_ (by first | omega | (simp <;> omega)) _ | with_reducible refine balloc ?_ _ | with_reducible refine Below.drew ?_ | with_reducible refine bstep ?_ (by with_reducible assumption))); first | (simp; done) | (simp <;> omega) | (simp [*]; done))
              · skip
                obtain ⟨⟨o1, o2⟩, o3, o4⟩ := HN5.out (by first | rfl | trivial)
                have N4 := HN4.out (by first | rfl | trivial)
                have HN6 := Lib.hid N4
                clear N4
                go_wp2_with fail
                refine Calls.mono (HU3.out _) ?_
                rintro e w9 ⟨rfl, hb⟩
                replace kx0 := cell_later hb kx0
                replace kx1 := cell_later hb kx1
                replace ky0 := cell_later hb ky0
                replace ky1 := cell_later hb ky1
                replace kz0 := cell_later hb kz0
                replace kz1 := cell_later hb kz1
                replace kv0 := cell_later hb kv0
                replace kv1 := cell_later hb kv1
                replace zx : w.heap.size < w9.heap.size := World.block_lt_of_cell? _ _ kx0
                have zx_w9 := zx
                replace zy : w.heap.size + 1 < w9.heap.size := World.block_lt_of_cell? _ _ ky0
                have zy_w9 := zy
                replace zz : w.heap.size + 1 + 1 < w9.heap.size := World.block_lt_of_cell? _ _ kz0
                have zz_w9 := zz
                replace zv : w5.heap.size < w9.heap.size := World.block_lt_of_cell? _ _ kv0
                have zv_w9 := zv
                replace hb0 : Below w.heap.size w w9 := (by repeat (first | with_reducible exact Below.refl _ _ | with_reducible assumption | with_reducible refine Below.setCell ?_ (by first | omega | (simp <;> omega)) _ | with_reducible refine balloc ?_ _ | with_reducible refine Below.drew ?_ | with_reducible refine bstep ?_ (by with_reducible assumption)))
                have hs_w9 : wt8.heap.size ≤ w9.heap.size := hb.size
                clear hb
                go_wp2_with fail
                refine wp_region_held_drew (S := fun w' => w'.cell? ⟨w.heap.size, 0, none⟩ = some (.int .i64 x1) ∧ w'.cell? ⟨w.heap.size, 1, none⟩ = some (.int .i64 x2) ∧ w'.cell? ⟨w.heap.size + 1, 0, none⟩ = some (.int .i64 y1) ∧ w'.cell? ⟨w.heap.size + 1, 1, none⟩ = some (.int .i64 y2) ∧ w'.cell? ⟨w.heap.size + 1 + 1, 0, none⟩ = some (.int .i64 z1) ∧ w'.cell? ⟨w.heap.size + 1 + 1, 1, none⟩ = some (.int .i64 z2)) (by kernel_rfl) (by first | (go_keep; done) | ((repeat' apply And.intro) <;> go_simp)) (fun hHeld => ?_)
                refine wpAnyH_take (i := 0) (oi := ⟨some 143, _, _, _, _, _⟩) (v := ?_) rfl (by kernel_rfl) (by kernel_rfl) (by kernel_rfl) (fun _ _ _ h => h) (Or.inl ⟨by rfl, ?_⟩) (by assumption) ?_
                rotate_left
                · intro w hSw; (try dsimp only at hSw); go_simp; try with_reducible rfl
                try simp only [Act.put, List.setIfInBounds_toArray, List.set_cons_zero, List.set_cons_succ]
                refine wpAnyH_take (i := 1) (oi := ⟨some 144, _, _, _, _, _⟩) (v := ?_) rfl (by kernel_rfl) (by kernel_rfl) (by kernel_rfl) (fun _ _ _ h => h) (Or.inl ⟨by rfl, ?_⟩) (by assumption) ?_
                rotate_left
                · intro w hSw; (try dsimp only at hSw); go_simp; try with_reducible rfl
                try simp only [Act.put, List.setIfInBounds_toArray, List.set_cons_zero, List.set_cons_succ]
                refine wpAnyH_take (i := 2) (oi := ⟨some 145, _, _, _, _, _⟩) (v := ?_) rfl (by kernel_rfl) (by kernel_rfl) (by kernel_rfl) (fun _ _ _ h => h) (Or.inl ⟨by rfl, ?_⟩) (by assumption) ?_
                rotate_left
                · intro w hSw; (try dsimp only at hSw); go_simp; try with_reducible rfl
                try simp only [Act.put, List.setIfInBounds_toArray, List.set_cons_zero, List.set_cons_succ]
                refine wpAnyH_take (i := 3) (oi := ⟨some 146, _, _, _, _, _⟩) (v := ?_) rfl (by kernel_rfl) (by kernel_rfl) (by kernel_rfl) (fun _ _ _ h => h) (Or.inl ⟨by rfl, ?_⟩) (by assumption) ?_
                rotate_left
                · intro w hSw; (try dsimp only at hSw); go_simp; try with_reducible rfl
                try simp only [Act.put, List.setIfInBounds_toArray, List.set_cons_zero, List.set_cons_succ]
                refine wpAnyH_take (i := 4) (oi := ⟨some 147, _, _, _, _, _⟩) (v := ?_) rfl (by kernel_rfl) (by kernel_rfl) (by kernel_rfl) (fun _ _ _ h => h) (Or.inl ⟨by rfl, ?_⟩) (by assumption) ?_
                rotate_left
                · intro w hSw; (try dsimp only at hSw); go_simp; try with_reducible rfl
                try simp only [Act.put, List.setIfInBounds_toArray, List.set_cons_zero, List.set_cons_succ]
                refine wpAnyH_take (i := 5) (oi := ⟨some 148, _, _, _, _, _⟩) (v := ?_) rfl (by kernel_rfl) (by kernel_rfl) (by kernel_rfl) (fun _ _ _ h => h) (Or.inl ⟨by rfl, ?_⟩) (by assumption) ?_
                rotate_left
                · intro w hSw; (try dsimp only at hSw); go_simp; try with_reducible rfl
                try simp only [Act.put, List.setIfInBounds_toArray, List.set_cons_zero, List.set_cons_succ]
                refine wpAnyH_take (i := 6) (oi := ⟨some 149, _, _, _, _, _⟩) (v := ?_) rfl (by kernel_rfl) (by kernel_rfl) (by kernel_rfl) (fun _ _ _ h => h) (Or.inl ⟨by rfl, ?_⟩) (by assumption) ?_
                rotate_left
                · intro w hSw; (try dsimp only at hSw); go_simp; try with_reducible rfl
                try simp only [Act.put, List.setIfInBounds_toArray, List.set_cons_zero, List.set_cons_succ]
                refine wpAnyH_take (i := 7) (oi := ⟨some 150, _, _, _, _, _⟩) (v := ?_) rfl (by kernel_rfl) (by kernel_rfl) (by kernel_rfl) (fun _ _ _ h => h) (Or.inl ⟨by rfl, ?_⟩) (by assumption) ?_
                rotate_left
                · intro w hSw; (try dsimp only at hSw); go_simp; try with_reducible rfl
                try simp only [Act.put, List.setIfInBounds_toArray, List.set_cons_zero, List.set_cons_succ]
                refine wpAnyH_take (i := 8) (oi := ⟨some 151, _, _, _, _, _⟩) (v := ?_) rfl (by kernel_rfl) (by kernel_rfl) (by kernel_rfl) (fun _ _ _ h => h) (Or.inl ⟨by rfl, ?_⟩) (by assumption) ?_
                rotate_left
                · intro w hSw; (try dsimp only at hSw); go_simp; try with_reducible rfl
                try simp only [Act.put, List.setIfInBounds_toArray, List.set_cons_zero, List.set_cons_succ]
                refine wpAnyH_take (i := 9) (oi := ⟨some 152, _, _, _, _, _⟩) (v := ?_) rfl (by kernel_rfl) (by kernel_rfl) (by kernel_rfl) (fun _ _ _ h => h) (Or.inl ⟨by rfl, ?_⟩) (by assumption) ?_
                rotate_left
                · intro w hSw; (try dsimp only at hSw); go_simp; try with_reducible rfl
                try simp only [Act.put, List.setIfInBounds_toArray, List.set_cons_zero, List.set_cons_succ]
                refine wpAnyH_take (i := 10) (oi := ⟨some 153, _, _, _, _, _⟩) (v := ?_) rfl (by kernel_rfl) (by kernel_rfl) (by kernel_rfl) (fun _ _ _ h => h) (Or.inl ⟨by rfl, ?_⟩) (by assumption) ?_
                rotate_left
                · intro w hSw; (try dsimp only at hSw); go_simp; try with_reducible rfl
                try simp only [Act.put, List.setIfInBounds_toArray, List.set_cons_zero, List.set_cons_succ]
                refine wpAnyH_take (i := 12) (oi := ⟨some 155, _, _, _, _, _⟩) (v := ?_) rfl (by kernel_rfl) (by kernel_rfl) (by kernel_rfl) (fun _ _ _ h => h) (Or.inl ⟨by rfl, ?_⟩) (by assumption) ?_
                rotate_left
                · intro w hSw; (try dsimp only at hSw); go_simp; try with_reducible rfl
                try simp only [Act.put, List.setIfInBounds_toArray, List.set_cons_zero, List.set_cons_succ]
                refine wpAnyH_take (i := 13) (oi := ⟨some 156, _, _, _, _, _⟩) (v := ?_) rfl (by kernel_rfl) (by kernel_rfl) (by kernel_rfl) (fun _ _ _ h => h) (Or.inl ⟨by rfl, ?_⟩) (by assumption) ?_
                rotate_left
                · intro w hSw; (try dsimp only at hSw); go_simp; try with_reducible rfl
                try simp only [Act.put, List.setIfInBounds_toArray, List.set_cons_zero, List.set_cons_succ]
                refine wpAnyH_take (i := 14) (oi := ⟨some 157, _, _, _, _, _⟩) (v := ?_) rfl (by kernel_rfl) (by kernel_rfl) (by kernel_rfl) (fun _ _ _ h => h) (Or.inl ⟨by rfl, ?_⟩) (by assumption) ?_
                rotate_left
                · intro w hSw; (try dsimp only at hSw); go_simp; try with_reducible rfl
                try simp only [Act.put, List.setIfInBounds_toArray, List.set_cons_zero, List.set_cons_succ]
                refine wpAnyH_take (i := 15) (oi := ⟨some 158, _, _, _, _, _⟩) (v := ?_) rfl (by kernel_rfl) (by kernel_rfl) (by kernel_rfl) (fun _ _ _ h => h) (Or.inl ⟨by rfl, ?_⟩) (by assumption) ?_
                rotate_left
                · intro w hSw; (try dsimp only at hSw); go_simp; try with_reducible rfl
                try simp only [Act.put, List.setIfInBounds_toArray, List.set_cons_zero, List.set_cons_succ]
                refine wpAnyH_take (i := 16) (oi := ⟨some 159, _, _, _, _, _⟩) (v := ?_) rfl (by kernel_rfl) (by kernel_rfl) (by kernel_rfl) (fun _ _ _ h => h) (Or.inl ⟨by rfl, ?_⟩) (by assumption) ?_
                rotate_left
                · intro w hSw; (try dsimp only at hSw); go_simp; try with_reducible rfl
                try simp only [Act.put, List.setIfInBounds_toArray, List.set_cons_zero, List.set_cons_succ]
                refine wpAnyH_take (i := 17) (oi := ⟨some 160, _, _, _, _, _⟩) (v := ?_) rfl (by kernel_rfl) (by kernel_rfl) (by kernel_rfl) (fun _ _ _ h => h) (Or.inl ⟨by rfl, ?_⟩) (by assumption) ?_
                rotate_left
                · intro w hSw; (try dsimp only at hSw); go_simp; try with_reducible rfl
                try simp only [Act.put, List.setIfInBounds_toArray, List.set_cons_zero, List.set_cons_succ]
                refine wpAnyH_take (i := 18) (oi := ⟨some 161, _, _, _, _, _⟩) (v := ?_) rfl (by kernel_rfl) (by kernel_rfl) (by kernel_rfl) (fun _ _ _ h => h) (Or.inl ⟨by rfl, ?_⟩) (by assumption) ?_
                rotate_left
                · intro w hSw; (try dsimp only at hSw); go_simp; try with_reducible rfl
                try simp only [Act.put, List.setIfInBounds_toArray, List.set_cons_zero, List.set_cons_succ]
                refine wpAnyH_take (i := 19) (oi := ⟨some 162, _, _, _, _, _⟩) (v := ?_) rfl (by kernel_rfl) (by kernel_rfl) (by kernel_rfl) (fun _ _ _ h => h) (Or.inl ⟨by rfl, ?_⟩) (by assumption) ?_
                rotate_left
                · intro w hSw; (try dsimp only at hSw); go_simp; try with_reducible rfl
                try simp only [Act.put, List.setIfInBounds_toArray, List.set_cons_zero, List.set_cons_succ]
                refine wpAnyH_take (i := 20) (oi := ⟨some 163, _, _, _, _, _⟩) (v := ?_) rfl (by kernel_rfl) (by kernel_rfl) (by kernel_rfl) (fun _ _ _ h => h) (Or.inl ⟨by rfl, ?_⟩) (by assumption) ?_
                rotate_left
                · intro w hSw; (try dsimp only at hSw); go_simp; try with_reducible rfl
                try simp only [Act.put, List.setIfInBounds_toArray, List.set_cons_zero, List.set_cons_succ]
                refine wpAnyH_take (i := 21) (oi := ⟨some 164, _, _, _, _, _⟩) (v := ?_) rfl (by kernel_rfl) (by kernel_rfl) (by kernel_rfl) (fun _ _ _ h => h) (Or.inl ⟨by rfl, ?_⟩) (by assumption) ?_
                rotate_left
                · intro w hSw; (try dsimp only at hSw); go_simp; try with_reducible rfl
                try simp only [Act.put, List.setIfInBounds_toArray, List.set_cons_zero, List.set_cons_succ]
                refine wpAnyH_ready (rs := [11]) (by kernel_rfl) (by simp) ?_
                refine AllReadyH.cons (o := ⟨some 154, _, _, _, _, _⟩) rfl (fun KK hKK => ?_) AllReadyH.nil
                go_simp
                refine Calls.mono (at_c (x1 + z1) (x2 + z2) _) ?_
                rintro e wt10 ⟨rfl, hb⟩
                replace kx0 := cell_later hb kx0
                replace kx1 := cell_later hb kx1
                replace ky0 := cell_later hb ky0
                replace ky1 := cell_later hb ky1
                replace kz0 := cell_later hb kz0
                replace kz1 := cell_later hb kz1
                replace kv0 := cell_later hb kv0
                replace kv1 := cell_later hb kv1
                replace zx : w.heap.size < wt10.heap.size := World.block_lt_of_cell? _ _ kx0
                have zx_wt10 := zx
                replace zy : w.heap.size + 1 < wt10.heap.size := World.block_lt_of_cell? _ _ ky0
                have zy_wt10 := zy
                replace zz : w.heap.size + 1 + 1 < wt10.heap.size := World.block_lt_of_cell? _ _ kz0
                have zz_wt10 := zz
                replace zv : w5.heap.size < wt10.heap.size := World.block_lt_of_cell? _ _ kv0
                have zv_wt10 := zv
                replace hb0 : Below w.heap.size w wt10 := (by repeat (first | with_reducible exact Below.refl _ _ | with_reducible assumption | with_reducible refine Below.setCell ?_ (by first | omega | (simp <;> omega)) _ | with_reducible refine balloc ?_ _ | with_reducible refine Below.drew ?_ | with_reducible refine bstep ?_ (by with_reducible assumption)))
                have hs_wt10 : w9.heap.size ≤ wt10.heap.size := hb.size
                clear hb
                (try go_wp2_with fail)
                refine hKK.out _ _ (by first | (go_keep; done) | ((repeat' apply And.intro) <;> go_simp)) (fun hHeld => ?_)
                clear hKK KK
                try simp only [Act.put, List.setIfInBounds_toArray, List.set_cons_zero, List.set_cons_succ]
                refine wpAnyH_ready (rs := [22]) (by kernel_rfl) (by simp) ?_
                refine AllReadyH.cons (o := ⟨some 165, _, _, _, _, _⟩) rfl (fun KK hKK => ?_) AllReadyH.nil
                go_simp
                refine Calls.mono (at_c (y1 + z1) (y2 + z2) _) ?_
                rintro e wt11 ⟨rfl, hb⟩
                replace kx0 := cell_later hb kx0
                replace kx1 := cell_later hb kx1
                replace ky0 := cell_later hb ky0
                replace ky1 := cell_later hb ky1
                replace kz0 := cell_later hb kz0
                replace kz1 := cell_later hb kz1
                replace kv0 := cell_later hb kv0
                replace kv1 := cell_later hb kv1
                replace zx : w.heap.size < wt11.heap.size := World.block_lt_of_cell? _ _ kx0
                have zx_wt11 := zx
                replace zy : w.heap.size + 1 < wt11.heap.size := World.block_lt_of_cell? _ _ ky0
                have zy_wt11 := zy
                replace zz : w.heap.size + 1 + 1 < wt11.heap.size := World.block_lt_of_cell? _ _ kz0
                have zz_wt11 := zz
                replace zv : w5.heap.size < wt11.heap.size := World.block_lt_of_cell? _ _ kv0
                have zv_wt11 := zv
                replace hb0 : Below w.heap.size w wt11 := (by repeat (first | with_reducible exact Below.refl _ _ | with_reducible assumption | with_reducible refine Below.setCell ?_ (by first | omega | (simp <;> omega)) _ | with_reducible refine balloc ?_ _ | with_reducible refine Below.drew ?_ | with_reducible refine bstep ?_ (by with_reducible assumption)))
                have hs_wt11 : wt10.heap.size ≤ wt11.heap.size := hb.size
                clear hb
                (try go_wp2_with fail)
                refine hKK.out _ _ (by first | (go_keep; done) | ((repeat' apply And.intro) <;> go_simp)) (fun hHeld => ?_)
                clear hKK KK
                try simp only [Act.put, List.setIfInBounds_toArray, List.set_cons_zero, List.set_cons_succ]
                refine wpAnyH_ready (rs := [23]) (by kernel_rfl) (by simp) ?_
                refine AllReadyH.cons (o := ⟨some 166, _, _, _, _, _⟩) rfl (fun KK hKK => ?_) AllReadyH.nil
                go_simp
                refine Calls.mono (HN6.out _ (by repeat (first | with_reducible exact Below.refl _ _ | with_reducible assumption | with_reducible refine Below.setCell ?_ (by first | omega | (simp <;> omega)) _ | with_reducible refine balloc ?_ _ | with_reducible refine Below.drew ?_ | with_reducible refine bstep ?_ (by with_reducible assumption)))) ?_
                rintro e wt12 ⟨rfl, hb⟩
                replace kx0 := cell_later hb kx0
                replace kx1 := cell_later hb kx1
                replace ky0 := cell_later hb ky0
                replace ky1 := cell_later hb ky1
                replace kz0 := cell_later hb kz0
                replace kz1 := cell_later hb kz1
                replace kv0 := cell_later hb kv0
                replace kv1 := cell_later hb kv1
                replace zx : w.heap.size < wt12.heap.size := World.block_lt_of_cell? _ _ kx0
                have zx_wt12 := zx
                replace zy : w.heap.size + 1 < wt12.heap.size := World.block_lt_of_cell? _ _ ky0
                have zy_wt12 := zy
                replace zz : w.heap.size + 1 + 1 < wt12.heap.size := World.block_lt_of_cell? _ _ kz0
                have zz_wt12 := zz
                replace zv : w5.heap.size < wt12.heap.size := World.block_lt_of_cell? _ _ kv0
                have zv_wt12 := zv
                replace hb0 : Below w.heap.size w wt12 := (by repeat (first | with_reducible exact Below.refl _ _ | with_reducible assumption | with_reducible refine Below.setCell ?_ (by first | omega | (simp <;> omega)) _ | with_reducible refine balloc ?_ _ | with_reducible refine Below.drew ?_ | with_reducible refine bstep ?_ (by with_reducible assumption)))
                have hs_wt12 : wt11.heap.size ≤ wt12.heap.size := hb.size
                clear hb
                (try go_wp2_with fail)
                refine hKK.out _ _ (by first | (go_keep; done) | ((repeat' apply And.intro) <;> go_simp)) (fun hHeld => ?_)
                clear hKK KK
                try simp only [Act.put, List.setIfInBounds_toArray, List.set_cons_zero, List.set_cons_succ]
                refine wpAnyH_take (i := 24) (oi := ⟨some 142, _, _, _, _, _⟩) (v := ?_) rfl (by kernel_rfl) (by kernel_rfl) (by kernel_rfl) (fun _ _ _ h => h) (Or.inl ⟨by rfl, ?_⟩) (by assumption) ?_
                rotate_left
                · intro w hSw; (try dsimp only at hSw); go_simp; try with_reducible rfl
                try simp only [Act.put, List.setIfInBounds_toArray, List.set_cons_zero, List.set_cons_succ]
                refine wpAnyH_take (i := 25) (oi := ⟨some 167, _, _, _, _, _⟩) (v := ?_) rfl (by kernel_rfl) (by kernel_rfl) (by kernel_rfl) (fun _ _ _ h => h) (Or.inl ⟨by rfl, ?_⟩) (by assumption) ?_
                rotate_left
                · intro w hSw; (try dsimp only at hSw); go_simp; try with_reducible rfl
                try simp only [Act.put, List.setIfInBounds_toArray, List.set_cons_zero, List.set_cons_succ]
                refine wpAnyH_take (i := 26) (oi := ⟨some 168, _, _, _, _, _⟩) (v := ?_) rfl (by kernel_rfl) (by kernel_rfl) (by kernel_rfl) (fun _ _ _ h => h) (Or.inl ⟨by rfl, ?_⟩) (by assumption) ?_
                rotate_left
                · intro w hSw; (try dsimp only at hSw); go_simp; try with_reducible rfl
                try simp only [Act.put, List.setIfInBounds_toArray, List.set_cons_zero, List.set_cons_succ]
                refine wpAnyH_take (i := 27) (oi := ⟨some 18, _, _, _, _, _⟩) (v := ?_) rfl (by kernel_rfl) (by kernel_rfl) (by kernel_rfl) (fun _ _ _ h => h) (Or.inl ⟨by rfl, ?_⟩) (by assumption) ?_
                rotate_left
                · intro w hSw; (try dsimp only at hSw); go_simp; try with_reducible rfl
                try simp only [Act.put, List.setIfInBounds_toArray, List.set_cons_zero, List.set_cons_succ]
                refine wpAnyH_take (i := 28) (oi := ⟨some 19, _, _, _, _, _⟩) (v := ?_) rfl (by kernel_rfl) (by kernel_rfl) (by kernel_rfl) (fun _ _ _ h => h) (Or.inl ⟨by rfl, ?_⟩) (by assumption) ?_
                rotate_left
                · intro w hSw; (try dsimp only at hSw); go_simp; try with_reducible rfl
                try simp only [Act.put, List.setIfInBounds_toArray, List.set_cons_zero, List.set_cons_succ]
                refine wpAnyH_done (by kernel_rfl) ?_ _
                (try dsimp only [Exit.then, Met])
                go_wp2
                all_goals first | (exfalso; omega) | (go_ret; refine ret_bool ?_ (by repeat (first | with_reducible exact Below.refl _ _ | with_reducible assumption | with_reducible refine Below.setCell ?_ (by first | omega | (simp <;> omega)) _ | with_reducible refine balloc ?_ _ | with_reducible refine Below.drew ?_ | with_reducible refine bstep ?_ (by with_reducible assumption))); first | (simp; done) | (simp <;> omega) | (simp [*]; done))
            · skip
              go_wp2_with fail
              refine wp_region_held_drew (S := fun w' => w'.cell? ⟨w.heap.size, 0, none⟩ = some (.int .i64 x1) ∧ w'.cell? ⟨w.heap.size, 1, none⟩ = some (.int .i64 x2) ∧ w'.cell? ⟨w5.heap.size, 0, none⟩ = some (.int .i64 v1) ∧ w'.cell? ⟨w5.heap.size, 1, none⟩ = some (.int .i64 v2)) (by kernel_rfl) (by first | (go_keep; done) | ((repeat' apply And.intro) <;> go_simp)) (fun hHeld => ?_)
              refine wpAnyH_take (i := 0) (oi := ⟨some 106, _, _, _, _, _⟩) (v := ?_) rfl (by kernel_rfl) (by kernel_rfl) (by kernel_rfl) (fun _ _ _ h => h) (Or.inl ⟨by rfl, ?_⟩) (by assumption) ?_
              rotate_left
              · intro w hSw; (try dsimp only at hSw); go_simp; try with_reducible rfl
              try simp only [Act.put, List.setIfInBounds_toArray, List.set_cons_zero, List.set_cons_succ]
              refine wpAnyH_take (i := 1) (oi := ⟨some 107, _, _, _, _, _⟩) (v := ?_) rfl (by kernel_rfl) (by kernel_rfl) (by kernel_rfl) (fun _ _ _ h => h) (Or.inl ⟨by rfl, ?_⟩) (by assumption) ?_
              rotate_left
              · intro w hSw; (try dsimp only at hSw); go_simp; try with_reducible rfl
              try simp only [Act.put, List.setIfInBounds_toArray, List.set_cons_zero, List.set_cons_succ]
              refine wpAnyH_take (i := 2) (oi := ⟨some 108, _, _, _, _, _⟩) (v := ?_) rfl (by kernel_rfl) (by kernel_rfl) (by kernel_rfl) (fun _ _ _ h => h) (Or.inl ⟨by rfl, ?_⟩) (by assumption) ?_
              rotate_left
              · intro w hSw; (try dsimp only at hSw); go_simp; try with_reducible rfl
              try simp only [Act.put, List.setIfInBounds_toArray, List.set_cons_zero, List.set_cons_succ]
              refine wpAnyH_take (i := 3) (oi := ⟨some 109, _, _, _, _, _⟩) (v := ?_) rfl (by kernel_rfl) (by kernel_rfl) (by kernel_rfl) (fun _ _ _ h => h) (Or.inl ⟨by rfl, ?_⟩) (by assumption) ?_
              rotate_left
              · intro w hSw; (try dsimp only at hSw); go_simp; try with_reducible rfl
              try simp only [Act.put, List.setIfInBounds_toArray, List.set_cons_zero, List.set_cons_succ]
              refine wpAnyH_take (i := 4) (oi := ⟨some 110, _, _, _, _, _⟩) (v := ?_) rfl (by kernel_rfl) (by kernel_rfl) (by kernel_rfl) (fun _ _ _ h => h) (Or.inl ⟨by rfl, ?_⟩) (by assumption) ?_
              rotate_left
              · intro w hSw; (try dsimp only at hSw); go_simp; try with_reducible rfl
              try simp only [Act.put, List.setIfInBounds_toArray, List.set_cons_zero, List.set_cons_succ]
              refine wpAnyH_take (i := 5) (oi := ⟨some 111, _, _, _, _, _⟩) (v := ?_) rfl (by kernel_rfl) (by kernel_rfl) (by kernel_rfl) (fun _ _ _ h => h) (Or.inl ⟨by rfl, ?_⟩) (by assumption) ?_
              rotate_left
              · intro w hSw; (try dsimp only at hSw); go_simp; try with_reducible rfl
              try simp only [Act.put, List.setIfInBounds_toArray, List.set_cons_zero, List.set_cons_succ]
              refine wpAnyH_take (i := 6) (oi := ⟨some 112, _, _, _, _, _⟩) (v := ?_) rfl (by kernel_rfl) (by kernel_rfl) (by kernel_rfl) (fun _ _ _ h => h) (Or.inl ⟨by rfl, ?_⟩) (by assumption) ?_
              rotate_left
              · intro w hSw; (try dsimp only at hSw); go_simp; try with_reducible rfl
              try simp only [Act.put, List.setIfInBounds_toArray, List.set_cons_zero, List.set_cons_succ]
              refine wpAnyH_take (i := 7) (oi := ⟨some 113, _, _, _, _, _⟩) (v := ?_) rfl (by kernel_rfl) (by kernel_rfl) (by kernel_rfl) (fun _ _ _ h => h) (Or.inl ⟨by rfl, ?_⟩) (by assumption) ?_
              rotate_left
              · intro w hSw; (try dsimp only at hSw); go_simp; try with_reducible rfl
              try simp only [Act.put, List.setIfInBounds_toArray, List.set_cons_zero, List.set_cons_succ]
              refine wpAnyH_take (i := 8) (oi := ⟨some 114, _, _, _, _, _⟩) (v := ?_) rfl (by kernel_rfl) (by kernel_rfl) (by kernel_rfl) (fun _ _ _ h => h) (Or.inl ⟨by rfl, ?_⟩) (by assumption) ?_
              rotate_left
              · intro w hSw; (try dsimp only at hSw); go_simp; try with_reducible rfl
              try simp only [Act.put, List.setIfInBounds_toArray, List.set_cons_zero, List.set_cons_succ]
              refine wpAnyH_take (i := 9) (oi := ⟨some 115, _, _, _, _, _⟩) (v := ?_) rfl (by kernel_rfl) (by kernel_rfl) (by kernel_rfl) (fun _ _ _ h => h) (Or.inl ⟨by rfl, ?_⟩) (by assumption) ?_
              rotate_left
              · intro w hSw; (try dsimp only at hSw); go_simp; try with_reducible rfl
              try simp only [Act.put, List.setIfInBounds_toArray, List.set_cons_zero, List.set_cons_succ]
              refine wpAnyH_take (i := 10) (oi := ⟨some 116, _, _, _, _, _⟩) (v := ?_) rfl (by kernel_rfl) (by kernel_rfl) (by kernel_rfl) (fun _ _ _ h => h) (Or.inl ⟨by rfl, ?_⟩) (by assumption) ?_
              rotate_left
              · intro w hSw; (try dsimp only at hSw); go_simp; try with_reducible rfl
              try simp only [Act.put, List.setIfInBounds_toArray, List.set_cons_zero, List.set_cons_succ]
              refine wpAnyH_take (i := 11) (oi := ⟨some 117, _, _, _, _, _⟩) (v := ?_) rfl (by kernel_rfl) (by kernel_rfl) (by kernel_rfl) (fun _ _ _ h => h) (Or.inl ⟨by rfl, ?_⟩) (by assumption) ?_
              rotate_left
              · intro w hSw; (try dsimp only at hSw); go_simp; try with_reducible rfl
              try simp only [Act.put, List.setIfInBounds_toArray, List.set_cons_zero, List.set_cons_succ]
              refine wpAnyH_take (i := 12) (oi := ⟨some 118, _, _, _, _, _⟩) (v := ?_) rfl (by kernel_rfl) (by kernel_rfl) (by kernel_rfl) (fun _ _ _ h => h) (Or.inl ⟨by rfl, ?_⟩) (by assumption) ?_
              rotate_left
              · intro w hSw; (try dsimp only at hSw); go_simp; try with_reducible rfl
              try simp only [Act.put, List.setIfInBounds_toArray, List.set_cons_zero, List.set_cons_succ]
              refine wpAnyH_take (i := 13) (oi := ⟨some 119, _, _, _, _, _⟩) (v := ?_) rfl (by kernel_rfl) (by kernel_rfl) (by kernel_rfl) (fun _ _ _ h => h) (Or.inl ⟨by rfl, ?_⟩) (by assumption) ?_
              rotate_left
              · intro w hSw; (try dsimp only at hSw); go_simp; try with_reducible rfl
              try simp only [Act.put, List.setIfInBounds_toArray, List.set_cons_zero, List.set_cons_succ]
              refine wpAnyH_ready (rs := [14]) (by kernel_rfl) (by simp) ?_
              refine AllReadyH.cons (o := ⟨some 120, _, _, _, _, _⟩) rfl (fun KK hKK => ?_) AllReadyH.nil
              go_simp
              refine Calls.mono (at_c (x1 + 2 * v1) (x2 + 2 * v2) _) ?_
              rintro e wt7 ⟨rfl, hb⟩
              replace kx0 := cell_later hb kx0
              replace kx1 := cell_later hb kx1
              replace ky0 := cell_later hb ky0
              replace ky1 := cell_later hb ky1
              replace kz0 := cell_later hb kz0
              replace kz1 := cell_later hb kz1
              replace kv0 := cell_later hb kv0
              replace kv1 := cell_later hb kv1
              replace zx : w.heap.size < wt7.heap.size := World.block_lt_of_cell? _ _ kx0
              have zx_wt7 := zx
              replace zy : w.heap.size + 1 < wt7.heap.size := World.block_lt_of_cell? _ _ ky0
              have zy_wt7 := zy
              replace zz : w.heap.size + 1 + 1 < wt7.heap.size := World.block_lt_of_cell? _ _ kz0
              have zz_wt7 := zz
              replace zv : w5.heap.size < wt7.heap.size := World.block_lt_of_cell? _ _ kv0
              have zv_wt7 := zv
              replace hb0 : Below w.heap.size w wt7 := (by repeat (first | with_reducible exact Below.refl _ _ | with_reducible assumption | with_reducible refine Below.setCell ?_ (by first | omega | (simp <;> omega)) _ | with_reducible refine balloc ?_ _ | with_reducible refine Below.drew ?_ | with_reducible refine bstep ?_ (by with_reducible assumption)))
              have hs_wt7 : w6.heap.size ≤ wt7.heap.size := hb.size
              clear hb
              (try go_wp2_with fail)
              refine hKK.out _ _ (by first | (go_keep; done) | ((repeat' apply And.intro) <;> go_simp)) (fun hHeld => ?_)
              clear hKK KK
              try simp only [Act.put, List.setIfInBounds_toArray, List.set_cons_zero, List.set_cons_succ]
              refine wpAnyH_ready (rs := [15]) (by kernel_rfl) (by simp) ?_
              refine AllReadyH.cons (o := ⟨some 121, _, _, _, _, _⟩) rfl (fun KK hKK => ?_) AllReadyH.nil
              go_simp
              refine Calls.mono (HN3.out _ (by repeat (first | with_reducible exact Below.refl _ _ | with_reducible assumption | with_reducible refine Below.setCell ?_ (by first | omega | (simp <;> omega)) _ | with_reducible refine balloc ?_ _ | with_reducible refine Below.drew ?_ | with_reducible refine bstep ?_ (by with_reducible assumption)))) ?_
              rintro e wt8 ⟨rfl, hb⟩
              replace kx0 := cell_later hb kx0
              replace kx1 := cell_later hb kx1
              replace ky0 := cell_later hb ky0
              replace ky1 := cell_later hb ky1
              replace kz0 := cell_later hb kz0
              replace kz1 := cell_later hb kz1
              replace kv0 := cell_later hb kv0
              replace kv1 := cell_later hb kv1
              replace zx : w.heap.size < wt8.heap.size := World.block_lt_of_cell? _ _ kx0
              have zx_wt8 := zx
              replace zy : w.heap.size + 1 < wt8.heap.size := World.block_lt_of_cell? _ _ ky0
              have zy_wt8 := zy
              replace zz : w.heap.size + 1 + 1 < wt8.heap.size := World.block_lt_of_cell? _ _ kz0
              have zz_wt8 := zz
              replace zv : w5.heap.size < wt8.heap.size := World.block_lt_of_cell? _ _ kv0
              have zv_wt8 := zv
              replace hb0 : Below w.heap.size w wt8 := (by repeat (first | with_reducible exact Below.refl _ _ | with_reducible assumption | with_reducible refine Below.setCell ?_ (by first | omega | (simp <;> omega)) _ | with_reducible refine balloc ?_ _ | with_reducible refine Below.drew ?_ | with_reducible refine bstep ?_ (by with_reducible assumption)))
              have hs_wt8 : wt7.heap.size ≤ wt8.heap.size := hb.size
              clear hb
              (try go_wp2_with fail)
              refine hKK.out _ _ (by first | (go_keep; done) | ((repeat' apply And.intro) <;> go_simp)) (fun hHeld => ?_)
              clear hKK KK
              try simp only [Act.put, List.setIfInBounds_toArray, List.set_cons_zero, List.set_cons_succ]
              refine wpAnyH_take (i := 16) (oi := ⟨some 105, _, _, _, _, _⟩) (v := ?_) rfl (by kernel_rfl) (by kernel_rfl) (by kernel_rfl) (fun _ _ _ h => h) (Or.inl ⟨by rfl, ?_⟩) (by assumption) ?_
              rotate_left
              · intro w hSw; (try dsimp only at hSw); go_simp; try with_reducible rfl
              try simp only [Act.put, List.setIfInBounds_toArray, List.set_cons_zero, List.set_cons_succ]
              refine wpAnyH_take (i := 17) (oi := ⟨some 122, _, _, _, _, _⟩) (v := ?_) rfl (by kernel_rfl) (by kernel_rfl) (by kernel_rfl) (fun _ _ _ h => h) (Or.inl ⟨by rfl, ?_⟩) (by assumption) ?_
              rotate_left
              · intro w hSw; (try dsimp only at hSw); go_simp; try with_reducible rfl
              try simp only [Act.put, List.setIfInBounds_toArray, List.set_cons_zero, List.set_cons_succ]
              refine wpAnyH_take (i := 18) (oi := ⟨some 123, _, _, _, _, _⟩) (v := ?_) rfl (by kernel_rfl) (by kernel_rfl) (by kernel_rfl) (fun _ _ _ h => h) (Or.inl ⟨by rfl, ?_⟩) (by assumption) ?_
              rotate_left
              · intro w hSw; (try dsimp only at hSw); go_simp; try with_reducible rfl
              try simp only [Act.put, List.setIfInBounds_toArray, List.set_cons_zero, List.set_cons_succ]
              refine wpAnyH_take (i := 19) (oi := ⟨some 16, _, _, _, _, _⟩) (v := ?_) rfl (by kernel_rfl) (by kernel_rfl) (by kernel_rfl) (fun _ _ _ h => h) (Or.inl ⟨by rfl, ?_⟩) (by assumption) ?_
              rotate_left
              · intro w hSw; (try dsimp only at hSw); go_simp; try with_reducible rfl
              try simp only [Act.put, List.setIfInBounds_toArray, List.set_cons_zero, List.set_cons_succ]
              refine wpAnyH_take (i := 20) (oi := ⟨some 17, _, _, _, _, _⟩) (v := ?_) rfl (by kernel_rfl) (by kernel_rfl) (by kernel_rfl) (fun _ _ _ h => h) (Or.inl ⟨by rfl, ?_⟩) (by assumption) ?_
              rotate_left
              · intro w hSw; (try dsimp only at hSw); go_simp; try with_reducible rfl
              try simp only [Act.put, List.setIfInBounds_toArray, List.set_cons_zero, List.set_cons_succ]
              refine wpAnyH_done (by kernel_rfl) ?_ _
              (try dsimp only [Exit.then, Met])
              cases u3
              · skip
                go_wp2_with fail
                refine Calls.mono (HU3.out _) ?_
                rintro e w9 ⟨rfl, hb⟩
                replace kx0 := cell_later hb kx0
                replace kx1 := cell_later hb kx1
                replace ky0 := cell_later hb ky0
                replace ky1 := cell_later hb ky1
                replace kz0 := cell_later hb kz0
                replace kz1 := cell_later hb kz1
                replace kv0 := cell_later hb kv0
                replace kv1 := cell_later hb kv1
                replace zx : w.heap.size < w9.heap.size := World.block_lt_of_cell? _ _ kx0
                have zx_w9 := zx
                replace zy : w.heap.size + 1 < w9.heap.size := World.block_lt_of_cell? _ _ ky0
                have zy_w9 := zy
                replace zz : w.heap.size + 1 + 1 < w9.heap.size := World.block_lt_of_cell? _ _ kz0
                have zz_w9 := zz
                replace zv : w5.heap.size < w9.heap.size := World.block_lt_of_cell? _ _ kv0
                have zv_w9 := zv
                replace hb0 : Below w.heap.size w w9 := (by repeat (first | with_reducible exact Below.refl _ _ | with_reducible assumption | with_reducible refine Below.setCell ?_ (by first | omega | (simp <;> omega)) _ | with_reducible refine balloc ?_ _ | with_reducible refine Below.drew ?_ | with_reducible refine bstep ?_ (by with_reducible assumption)))
                have hs_w9 : wt8.heap.size ≤ w9.heap.size := hb.size
                clear hb
                go_wp2
                all_goals first | (exfalso; omega) | (go_ret; refine ret_bool ?_ (by repeat (first | with_reducible exact Below.refl _ _ | with_reducible assumption | with_reducible refine Below.setCell ?_ (by first | omega | (simp <;> omega)) _ | with_reducible refine balloc ?_ _ | with_reducible refine Below.drew ?_ | with_reducible refine bstep ?_ (by with_reducible assumption))); first | (simp; done) | (simp <;> omega) | (simp [*]; done))
              · skip
                obtain ⟨⟨o1, o2⟩, o3, o4⟩ := HN5.out (by first | rfl | trivial)
                have N4 := HN4.out (by first | rfl | trivial)
                have HN6 := Lib.hid N4
                clear N4
                go_wp2_with fail
                refine Calls.mono (HU3.out _) ?_
                rintro e w9 ⟨rfl, hb⟩
                replace kx0 := cell_later hb kx0
                replace kx1 := cell_later hb kx1
                replace ky0 := cell_later hb ky0
                replace ky1 := cell_later hb ky1
                replace kz0 := cell_later hb kz0
                replace kz1 := cell_later hb kz1
                replace kv0 := cell_later hb kv0
                replace kv1 := cell_later hb kv1
                replace zx : w.heap.size < w9.heap.size := World.block_lt_of_cell? _ _ kx0
                have zx_w9 := zx
                replace zy : w.heap.size + 1 < w9.heap.size := World.block_lt_of_cell? _ _ ky0
                have zy_w9 := zy
                replace zz : w.heap.size + 1 + 1 < w9.heap.size := World.block_lt_of_cell? _ _ kz0
                have zz_w9 := zz
                replace zv : w5.heap.size < w9.heap.size := World.block_lt_of_cell? _ _ kv0
                have zv_w9 := zv
                replace hb0 : Below w.heap.size w w9 := (by repeat (first | with_reducible exact Below.refl _ _ | with_reducible assumption | with_reducible refine Below.setCell ?_ (by first | omega | (simp <;> omega)) _ | with_reducible refine balloc ?_ _ | with_reducible refine Below.drew ?_ | with_reducible refine bstep ?_ (by with_reducible assumption)))
                have hs_w9 : wt8.heap.size ≤ w9.heap.size := hb.size
                clear hb
                go_wp2_with fail
                refine wp_region_held_drew (S := fun w' => w'.cell? ⟨w.heap.size, 0, none⟩ = some (.int .i64 x1) ∧ w'.cell? ⟨w.heap.size, 1, none⟩ = some (.int .i64 x2) ∧ w'.cell? ⟨w.heap.size + 1, 0, none⟩ = some (.int .i64 y1) ∧ w'.cell? ⟨w.heap.size + 1, 1, none⟩ = some (.int .i64 y2) ∧ w'.cell? ⟨w.heap.size + 1 + 1, 0, none⟩ = some (.int .i64 z1) ∧ w'.cell? ⟨w.heap.size + 1 + 1, 1, none⟩ = some (.int .i64 z2)) (by kernel_rfl) (by first | (go_keep; done) | ((repeat' apply And.intro) <;> go_simp)) (fun hHeld => ?_)
                refine wpAnyH_take (i := 0) (oi := ⟨some 143, _, _, _, _, _⟩) (v := ?_) rfl (by kernel_rfl) (by kernel_rfl) (by kernel_rfl) (fun _ _ _ h => h) (Or.inl ⟨by rfl, ?_⟩) (by assumption) ?_
                rotate_left
                · intro w hSw; (try dsimp only at hSw); go_simp; try with_reducible rfl
                try simp only [Act.put, List.setIfInBounds_toArray, List.set_cons_zero, List.set_cons_succ]
                refine wpAnyH_take (i := 1) (oi := ⟨some 144, _, _, _, _, _⟩) (v := ?_) rfl (by kernel_rfl) (by kernel_rfl) (by kernel_rfl) (fun _ _ _ h => h) (Or.inl ⟨by rfl, ?_⟩) (by assumption) ?_
                rotate_left
                · intro w hSw; (try dsimp only at hSw); go_simp; try with_reducible rfl
                try simp only [Act.put, List.setIfInBounds_toArray, List.set_cons_zero, List.set_cons_succ]
                refine wpAnyH_take (i := 2) (oi := ⟨some 145, _, _, _, _, _⟩) (v := ?_) rfl (by kernel_rfl) (by kernel_rfl) (by kernel_rfl) (fun _ _ _ h => h) (Or.inl ⟨by rfl, ?_⟩) (by assumption) ?_
                rotate_left
                · intro w hSw; (try dsimp only at hSw); go_simp; try with_reducible rfl
                try simp only [Act.put, List.setIfInBounds_toArray, List.set_cons_zero, List.set_cons_succ]
                refine wpAnyH_take (i := 3) (oi := ⟨some 146, _, _, _, _, _⟩) (v := ?_) rfl (by kernel_rfl) (by kernel_rfl) (by kernel_rfl) (fun _ _ _ h => h) (Or.inl ⟨by rfl, ?_⟩) (by assumption) ?_
                rotate_left
                · intro w hSw; (try dsimp only at hSw); go_simp; try with_reducible rfl
                try simp only [Act.put, List.setIfInBounds_toArray, List.set_cons_zero, List.set_cons_succ]
                refine wpAnyH_take (i := 4) (oi := ⟨some 147, _, _, _, _, _⟩) (v := ?_) rfl (by kernel_rfl) (by kernel_rfl) (by kernel_rfl) (fun _ _ _ h => h) (Or.inl ⟨by rfl, ?_⟩) (by assumption) ?_
                rotate_left
                · intro w hSw; (try dsimp only at hSw); go_simp; try with_reducible rfl
                try simp only [Act.put, List.setIfInBounds_toArray, List.set_cons_zero, List.set_cons_succ]
                refine wpAnyH_take (i := 5) (oi := ⟨some 148, _, _, _, _, _⟩) (v := ?_) rfl (by kernel_rfl) (by kernel_rfl) (by kernel_rfl) (fun _ _ _ h => h) (Or.inl ⟨by rfl, ?_⟩) (by assumption) ?_
                rotate_left
                · intro w hSw; (try dsimp only at hSw); go_simp; try with_reducible rfl
                try simp only [Act.put, List.setIfInBounds_toArray, List.set_cons_zero, List.set_cons_succ]
                refine wpAnyH_take (i := 6) (oi := ⟨some 149, _, _, _, _, _⟩) (v := ?_) rfl (by kernel_rfl) (by kernel_rfl) (by kernel_rfl) (fun _ _ _ h => h) (Or.inl ⟨by rfl, ?_⟩) (by assumption) ?_
                rotate_left
                · intro w hSw; (try dsimp only at hSw); go_simp; try with_reducible rfl
                try simp only [Act.put, List.setIfInBounds_toArray, List.set_cons_zero, List.set_cons_succ]
                refine wpAnyH_take (i := 7) (oi := ⟨some 150, _, _, _, _, _⟩) (v := ?_) rfl (by kernel_rfl) (by kernel_rfl) (by kernel_rfl) (fun _ _ _ h => h) (Or.inl ⟨by rfl, ?_⟩) (by assumption) ?_
                rotate_left
                · intro w hSw; (try dsimp only at hSw); go_simp; try with_reducible rfl
                try simp only [Act.put, List.setIfInBounds_toArray, List.set_cons_zero, List.set_cons_succ]
                refine wpAnyH_take (i := 8) (oi := ⟨some 151, _, _, _, _, _⟩) (v := ?_) rfl (by kernel_rfl) (by kernel_rfl) (by kernel_rfl) (fun _ _ _ h => h) (Or.inl ⟨by rfl, ?_⟩) (by assumption) ?_
                rotate_left
                · intro w hSw; (try dsimp only at hSw); go_simp; try with_reducible rfl
                try simp only [Act.put, List.setIfInBounds_toArray, List.set_cons_zero, List.set_cons_succ]
                refine wpAnyH_take (i := 9) (oi := ⟨some 152, _, _, _, _, _⟩) (v := ?_) rfl (by kernel_rfl) (by kernel_rfl) (by kernel_rfl) (fun _ _ _ h => h) (Or.inl ⟨by rfl, ?_⟩) (by assumption) ?_
                rotate_left
                · intro w hSw; (try dsimp only at hSw); go_simp; try with_reducible rfl
                try simp only [Act.put, List.setIfInBounds_toArray, List.set_cons_zero, List.set_cons_succ]
                refine wpAnyH_take (i := 10) (oi := ⟨some 153, _, _, _, _, _⟩) (v := ?_) rfl (by kernel_rfl) (by kernel_rfl) (by kernel_rfl) (fun _ _ _ h => h) (Or.inl ⟨by rfl, ?_⟩) (by assumption) ?_
                rotate_left
                · intro w hSw; (try dsimp only at hSw); go_simp; try with_reducible rfl
                try simp only [Act.put, List.setIfInBounds_toArray, List.set_cons_zero, List.set_cons_succ]
                refine wpAnyH_take (i := 12) (oi := ⟨some 155, _, _, _, _, _⟩) (v := ?_) rfl (by kernel_rfl) (by kernel_rfl) (by kernel_rfl) (fun _ _ _ h => h) (Or.inl ⟨by rfl, ?_⟩) (by assumption) ?_
                rotate_left
                · intro w hSw; (try dsimp only at hSw); go_simp; try with_reducible rfl
                try simp only [Act.put, List.setIfInBounds_toArray, List.set_cons_zero, List.set_cons_succ]
                refine wpAnyH_take (i := 13) (oi := ⟨some 156, _, _, _, _, _⟩) (v := ?_) rfl (by kernel_rfl) (by kernel_rfl) (by kernel_rfl) (fun _ _ _ h => h) (Or.inl ⟨by rfl, ?_⟩) (by assumption) ?_
                rotate_left
                · intro w hSw; (try dsimp only at hSw); go_simp; try with_reducible rfl
                try simp only [Act.put, List.setIfInBounds_toArray, List.set_cons_zero, List.set_cons_succ]
                refine wpAnyH_take (i := 14) (oi := ⟨some 157, _, _, _, _, _⟩) (v := ?_) rfl (by kernel_rfl) (by kernel_rfl) (by kernel_rfl) (fun _ _ _ h => h) (Or.inl ⟨by rfl, ?_⟩) (by assumption) ?_
                rotate_left
                · intro w hSw; (try dsimp only at hSw); go_simp; try with_reducible rfl
                try simp only [Act.put, List.setIfInBounds_toArray, List.set_cons_zero, List.set_cons_succ]
                refine wpAnyH_take (i := 15) (oi := ⟨some 158, _, _, _, _, _⟩) (v := ?_) rfl (by kernel_rfl) (by kernel_rfl) (by kernel_rfl) (fun _ _ _ h => h) (Or.inl ⟨by rfl, ?_⟩) (by assumption) ?_
                rotate_left
                · intro w hSw; (try dsimp only at hSw); go_simp; try with_reducible rfl
                try simp only [Act.put, List.setIfInBounds_toArray, List.set_cons_zero, List.set_cons_succ]
                refine wpAnyH_take (i := 16) (oi := ⟨some 159, _, _, _, _, _⟩) (v := ?_) rfl (by kernel_rfl) (by kernel_rfl) (by kernel_rfl) (fun _ _ _ h => h) (Or.inl ⟨by rfl, ?_⟩) (by assumption) ?_
                rotate_left
                · intro w hSw; (try dsimp only at hSw); go_simp; try with_reducible rfl
                try simp only [Act.put, List.setIfInBounds_toArray, List.set_cons_zero, List.set_cons_succ]
                refine wpAnyH_take (i := 17) (oi := ⟨some 160, _, _, _, _, _⟩) (v := ?_) rfl (by kernel_rfl) (by kernel_rfl) (by kernel_rfl) (fun _ _ _ h => h) (Or.inl ⟨by rfl, ?_⟩) (by assumption) ?_
                rotate_left
                · intro w hSw; (try dsimp only at hSw); go_simp; try with_reducible rfl
                try simp only [Act.put, List.setIfInBounds_toArray, List.set_cons_zero, List.set_cons_succ]
                refine wpAnyH_take (i := 18) (oi := ⟨some 161, _, _, _, _, _⟩) (v := ?_) rfl (by kernel_rfl) (by kernel_rfl) (by kernel_rfl) (fun _ _ _ h => h) (Or.inl ⟨by rfl, ?_⟩) (by assumption) ?_
                rotate_left
                · intro w hSw; (try dsimp only at hSw); go_simp; try with_reducible rfl
                try simp only [Act.put, List.setIfInBounds_toArray, List.set_cons_zero, List.set_cons_succ]
                refine wpAnyH_take (i := 19) (oi := ⟨some 162, _, _, _, _, _⟩) (v := ?_) rfl (by kernel_rfl) (by kernel_rfl) (by kernel_rfl) (fun _ _ _ h => h) (Or.inl ⟨by rfl, ?_⟩) (by assumption) ?_
                rotate_left
                · intro w hSw; (try dsimp only at hSw); go_simp; try with_reducible rfl
                try simp only [Act.put, List.setIfInBounds_toArray, List.set_cons_zero, List.set_cons_succ]
                refine wpAnyH_take (i := 20) (oi := ⟨some 163, _, _, _, _, _⟩) (v := ?_) rfl (by kernel_rfl) (by kernel_rfl) (by kernel_rfl) (fun _ _ _ h => h) (Or.inl ⟨by rfl, ?_⟩) (by assumption) ?_
                rotate_left
                · intro w hSw; (try dsimp only at hSw); go_simp; try with_reducible rfl
                try simp only [Act.put, List.setIfInBounds_toArray, List.set_cons_zero, List.set_cons_succ]
                refine wpAnyH_take (i := 21) (oi := ⟨some 164, _, _, _, _, _⟩) (v := ?_) rfl (by kernel_rfl) (by kernel_rfl) (by kernel_rfl) (fun _ _ _ h => h) (Or.inl ⟨by rfl, ?_⟩) (by assumption) ?_
                rotate_left
                · intro w hSw; (try dsimp only at hSw); go_simp; try with_reducible rfl
                try simp only [Act.put, List.setIfInBounds_toArray, List.set_cons_zero, List.set_cons_succ]
                refine wpAnyH_ready (rs := [11]) (by kernel_rfl) (by simp) ?_
                refine AllReadyH.cons (o := ⟨some 154, _, _, _, _, _⟩) rfl (fun KK hKK => ?_) AllReadyH.nil
                go_simp
                refine Calls.mono (at_c (x1 + z1) (x2 + z2) _) ?_
                rintro e wt10 ⟨rfl, hb⟩
                replace kx0 := cell_later hb kx0
                replace kx1 := cell_later hb kx1
                replace ky0 := cell_later hb ky0
                replace ky1 := cell_later hb ky1
                replace kz0 := cell_later hb kz0
                replace kz1 := cell_later hb kz1
                replace kv0 := cell_later hb kv0
                replace kv1 := cell_later hb kv1
                replace zx : w.heap.size < wt10.heap.size := World.block_lt_of_cell? _ _ kx0
                have zx_wt10 := zx
                replace zy : w.heap.size + 1 < wt10.heap.size := World.block_lt_of_cell? _ _ ky0
                have zy_wt10 := zy
                replace zz : w.heap.size + 1 + 1 < wt10.heap.size := World.block_lt_of_cell? _ _ kz0
                have zz_wt10 := zz
                replace zv : w5.heap.size < wt10.heap.size := World.block_lt_of_cell? _ _ kv0
                have zv_wt10 := zv
                replace hb0 : Below w.heap.size w wt10 := (by repeat (first | with_reducible exact Below.refl _ _ | with_reducible assumption | with_reducible refine Below.setCell ?_ (by first | omega | (simp <;> omega)) _ | with_reducible refine balloc ?_ _ | with_reducible refine Below.drew ?_ | with_reducible refine bstep ?_ (by with_reducible assumption)))
                have hs_wt10 : w9.heap.size ≤ wt10.heap.size := hb.size
                clear hb
                (try go_wp2_with fail)
                refine hKK.out _ _ (by first | (go_keep; done) | ((repeat' apply And.intro) <;> go_simp)) (fun hHeld => ?_)
                clear hKK KK
                try simp only [Act.put, List.setIfInBounds_toArray, List.set_cons_zero, List.set_cons_succ]
                refine wpAnyH_ready (rs := [22]) (by kernel_rfl) (by simp) ?_
                refine AllReadyH.cons (o := ⟨some 165, _, _, _, _, _⟩) rfl (fun KK hKK => ?_) AllReadyH.nil
                go_simp
                refine Calls.mono (at_c (y1 + z1) (y2 + z2) _) ?_
                rintro e wt11 ⟨rfl, hb⟩
                replace kx0 := cell_later hb kx0
                replace kx1 := cell_later hb kx1
                replace ky0 := cell_later hb ky0
                replace ky1 := cell_later hb ky1
                replace kz0 := cell_later hb kz0
                replace kz1 := cell_later hb kz1
                replace kv0 := cell_later hb kv0
                replace kv1 := cell_later hb kv1
                replace zx : w.heap.size < wt11.heap.size := World.block_lt_of_cell? _ _ kx0
                have zx_wt11 := zx
                replace zy : w.heap.size + 1 < wt11.heap.size := World.block_lt_of_cell? _ _ ky0
                have zy_wt11 := zy
                replace zz : w.heap.size + 1 + 1 < wt11.heap.size := World.block_lt_of_cell? _ _ kz0
                have zz_wt11 := zz
                replace zv : w5.heap.size < wt11.heap.size := World.block_lt_of_cell? _ _ kv0
                have zv_wt11 := zv
                replace hb0 : Below w.heap.size w wt11 := (by repeat (first | with_reducible exact Below.refl _ _ | with_reducible assumption | with_reducible refine Below.setCell ?_ (by first | omega | (simp <;> omega)) _ | with_reducible refine balloc ?_ _ | with_reducible refine Below.drew ?_ | with_reducible refine bstep ?_ (by with_reducible assumption)))
                have hs_wt11 : wt10.heap.size ≤ wt11.heap.size := hb.size
                clear hb
                (try go_wp2_with fail)
                refine hKK.out _ _ (by first | (go_keep; done) | ((repeat' apply And.intro) <;> go_simp)) (fun hHeld => ?_)
                clear hKK KK
                try simp only [Act.put, List.setIfInBounds_toArray, List.set_cons_zero, List.set_cons_succ]
                refine wpAnyH_ready (rs := [23]) (by kernel_rfl) (by simp) ?_
                refine AllReadyH.cons (o := ⟨some 166, _, _, _, _, _⟩) rfl (fun KK hKK => ?_) AllReadyH.nil
                go_simp
                refine Calls.mono (HN6.out _ (by repeat (first | with_reducible exact Below.refl _ _ | with_reducible assumption | with_reducible refine Below.setCell ?_ (by first | omega | (simp <;> omega)) _ | with_reducible refine balloc ?_ _ | with_reducible refine Below.drew ?_ | with_reducible refine bstep ?_ (by with_reducible assumption)))) ?_
                rintro e wt12 ⟨rfl, hb⟩
                replace kx0 := cell_later hb kx0
                replace kx1 := cell_later hb kx1
                replace ky0 := cell_later hb ky0
                replace ky1 := cell_later hb ky1
                replace kz0 := cell_later hb kz0
                replace kz1 := cell_later hb kz1
                replace kv0 := cell_later hb kv0
                replace kv1 := cell_later hb kv1
                replace zx : w.heap.size < wt12.heap.size := World.block_lt_of_cell? _ _ kx0
                have zx_wt12 := zx
                replace zy : w.heap.size + 1 < wt12.heap.size := World.block_lt_of_cell? _ _ ky0
                have zy_wt12 := zy
                replace zz : w.heap.size + 1 + 1 < wt12.heap.size := World.block_lt_of_cell? _ _ kz0
                have zz_wt12 := zz
                replace zv : w5.heap.size < wt12.heap.size := World.block_lt_of_cell? _ _ kv0
                have zv_wt12 := zv
                replace hb0 : Below w.heap.size w wt12 := (by repeat (first | with_reducible exact Below.refl _ _ | with_reducible assumption | with_reducible refine Below.setCell ?_ (by first | omega | (simp <;> omega)) _ | with_reducible refine balloc ?_ _ | with_reducible refine Below.drew ?_ | with_reducible refine bstep ?_ (by with_reducible assumption)))
                have hs_wt12 : wt11.heap.size ≤ wt12.heap.size := hb.size
                clear hb
                (try go_wp2_with fail)
                refine hKK.out _ _ (by first | (go_keep; done) | ((repeat' apply And.intro) <;> go_simp)) (fun hHeld => ?_)
                clear hKK KK
                try simp only [Act.put, List.setIfInBounds_toArray, List.set_cons_zero, List.set_cons_succ]
                refine wpAnyH_take (i := 24) (oi := ⟨some 142, _, _, _, _, _⟩) (v := ?_) rfl (by kernel_rfl) (by kernel_rfl) (by kernel_rfl) (fun _ _ _ h => h) (Or.inl ⟨by rfl, ?_⟩) (by assumption) ?_
                rotate_left
                · intro w hSw; (try dsimp only at hSw); go_simp; try with_reducible rfl
                try simp only [Act.put, List.setIfInBounds_toArray, List.set_cons_zero, List.set_cons_succ]
                refine wpAnyH_take (i := 25) (oi := ⟨some 167, _, _, _, _, _⟩) (v := ?_) rfl (by kernel_rfl) (by kernel_rfl) (by kernel_rfl) (fun _ _ _ h => h) (Or.inl ⟨by rfl, ?_⟩) (by assumption) ?_
                rotate_left
                · intro w hSw; (try dsimp only at hSw); go_simp; try with_reducible rfl
                try simp only [Act.put, List.setIfInBounds_toArray, List.set_cons_zero, List.set_cons_succ]
                refine wpAnyH_take (i := 26) (oi := ⟨some 168, _, _, _, _, _⟩) (v := ?_) rfl (by kernel_rfl) (by kernel_rfl) (by kernel_rfl) (fun _ _ _ h => h) (Or.inl ⟨by rfl, ?_⟩) (by assumption) ?_
                rotate_left
                · intro w hSw; (try dsimp only at hSw); go_simp; try with_reducible rfl
                try simp only [Act.put, List.setIfInBounds_toArray, List.set_cons_zero, List.set_cons_succ]
                refine wpAnyH_take (i := 27) (oi := ⟨some 18, _, _, _, _, _⟩) (v := ?_) rfl (by kernel_rfl) (by kernel_rfl) (by kernel_rfl) (fun _ _ _ h => h) (Or.inl ⟨by rfl, ?_⟩) (by assumption) ?_
                rotate_left
                · intro w hSw; (try dsimp only at hSw); go_simp; try with_reducible rfl
                try simp only [Act.put, List.setIfInBounds_toArray, List.set_cons_zero, List.set_cons_succ]
                refine wpAnyH_take (i := 28) (oi := ⟨some 19, _, _, _, _, _⟩) (v := ?_) rfl (by kernel_rfl) (by kernel_rfl) (by kernel_rfl) (fun _ _ _ h => h) (Or.inl ⟨by rfl, ?_⟩) (by assumption) ?_
                rotate_left
                · intro w hSw; (try dsimp only at hSw); go_simp; try with_reducible rfl
                try simp only [Act.put, List.setIfInBounds_toArray, List.set_cons_zero, List.set_cons_succ]
                refine wpAnyH_done (by kernel_rfl) ?_ _
                (try dsimp only [Exit.then, Met])
                go_wp2
                all_goals first | (exfalso; omega) | (go_ret; refine ret_bool ?_ (by repeat (first | with_reducible exact Below.refl _ _ | with_reducible assumption | with_reducible refine Below.setCell ?_ (by first | omega | (simp <;> omega)) _ | with_reducible refine balloc ?_ _ | with_reducible refine Below.drew ?_ | with_reducible refine bstep ?_ (by with_reducible assumption))); first | (simp; done) | (simp <;> omega) | (simp [*]; done))
  · have N1 : ∀ W, Below w.heap.size w W → Calls Try.prog 25 #[(.slice pa l.length ca), .agg #[(.int .i64 x1), (.int .i64 x2)], .agg #[(.int .i64 y1), (.int .i64 y2)]] W (Ret W (.tuple #[(.int .i64 0), (.int .i64 1)])) := fun W h => Seen_no _ l x1 x2 y1 y2 W (ha.below h) (by simpa using hval)
    have H1 := Lib.hid N1
    clear N1 ha hval
    go_enter Try.func10, Try.ntmps10
    go_wp2_with fail
    refine Calls.mono (HEAD _) ?_
    rintro e w1 ⟨rfl, hb⟩
    have kx0 : w1.cell? ⟨w.heap.size, 0, none⟩ = some (.int .i64 x1) := cell_later hb (by go_simp)
    have kx1 : w1.cell? ⟨w.heap.size, 1, none⟩ = some (.int .i64 x2) := cell_later hb (by go_simp)
    have ky0 : w1.cell? ⟨w.heap.size + 1, 0, none⟩ = some (.int .i64 y1) := cell_later hb (by go_simp)
    have ky1 : w1.cell? ⟨w.heap.size + 1, 1, none⟩ = some (.int .i64 y2) := cell_later hb (by go_simp)
    have kz0 : w1.cell? ⟨w.heap.size + 1 + 1, 0, none⟩ = some (.int .i64 z1) := cell_later hb (by go_simp)
    have kz1 : w1.cell? ⟨w.heap.size + 1 + 1, 1, none⟩ = some (.int .i64 z2) := cell_later hb (by go_simp)
    have zx : w.heap.size < w1.heap.size := World.block_lt_of_cell? _ _ kx0
    have zx_w1 := zx
    have zy : w.heap.size + 1 < w1.heap.size := World.block_lt_of_cell? _ _ ky0
    have zy_w1 := zy
    have zz : w.heap.size + 1 + 1 < w1.heap.size := World.block_lt_of_cell? _ _ kz0
    have zz_w1 := zz
    have hb0 : Below w.heap.size w w1 := (by repeat (first | with_reducible exact Below.refl _ _ | with_reducible assumption | with_reducible refine Below.setCell ?_ (by first | omega | (simp <;> omega)) _ | with_reducible refine balloc ?_ _ | with_reducible refine Below.drew ?_ | with_reducible refine bstep ?_ (by with_reducible assumption)))
    have hs_w1 := hb.size; (try simp only [World.size_alloc, World.size_setCell] at hs_w1)
    clear hb
    go_wp2_with fail
    refine Calls.mono (H1.out _ (by repeat (first | with_reducible exact Below.refl _ _ | with_reducible assumption | with_reducible refine Below.setCell ?_ (by first | omega | (simp <;> omega)) _ | with_reducible refine balloc ?_ _ | with_reducible refine Below.drew ?_ | with_reducible refine bstep ?_ (by with_reducible assumption)))) ?_
    rintro e w2 ⟨rfl, hb⟩
    replace kx0 := cell_later hb kx0
    replace kx1 := cell_later hb kx1
    replace ky0 := cell_later hb ky0
    replace ky1 := cell_later hb ky1
    replace kz0 := cell_later hb kz0
    replace kz1 := cell_later hb kz1
    replace zx : w.heap.size < w2.heap.size := World.block_lt_of_cell? _ _ kx0
    have zx_w2 := zx
    replace zy : w.heap.size + 1 < w2.heap.size := World.block_lt_of_cell? _ _ ky0
    have zy_w2 := zy
    replace zz : w.heap.size + 1 + 1 < w2.heap.size := World.block_lt_of_cell? _ _ kz0
    have zz_w2 := zz
    replace hb0 : Below w.heap.size w w2 := (by repeat (first | with_reducible exact Below.refl _ _ | with_reducible assumption | with_reducible refine Below.setCell ?_ (by first | omega | (simp <;> omega)) _ | with_reducible refine balloc ?_ _ | with_reducible refine Below.drew ?_ | with_reducible refine bstep ?_ (by with_reducible assumption)))
    have hs_w2 : w1.heap.size ≤ w2.heap.size := hb.size
    clear hb
    go_wp2
    all_goals first | (exfalso; omega) | (go_ret; refine ret_bool ?_ (by repeat (first | with_reducible exact Below.refl _ _ | with_reducible assumption | with_reducible refine Below.setCell ?_ (by first | omega | (simp <;> omega)) _ | with_reducible refine balloc ?_ _ | with_reducible refine Below.drew ?_ | with_reducible refine bstep ?_ (by with_reducible assumption))); first | (simp; done) | (simp <;> omega) | (simp [*]; done))


end Go.Proofs.Ytfhhocihlkgfjaa.Se

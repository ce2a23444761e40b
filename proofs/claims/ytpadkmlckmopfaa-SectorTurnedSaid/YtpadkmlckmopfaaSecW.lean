/- SecW: Seen, arc, at. -/
import Derived.Test.YtpadkmlckmopfaaSecL
import Derived.Test.YtpadkmlckmopfaaSecI
import Derived.Test.YtpadkmlckmopfaaPlaneH
import Derived.Test.YtpadkmlckmopfaaRows
import Derived.WalkKit
import Derived.WalkSpells
import Derived.WalkLawsBesides
import Derived.Lib.Hide
import Derived.Deep.QuietTactic
import Derived.BigQuiet
import Derived.RegionTactic
import Derived.ChangeAlike
import Derived.BigRegion
import Derived.Deep.RegionHeld3
import Derived.Deep.RegionWith
import Derived.Outline
import Derived.IntWalk
import Derived.Deep.DeepCutAuto
namespace Go.Proofs.Ytpadkmlckmopfaa.Se
open Go.RowKit
set_option linter.unusedSimpArgs false
set_option linter.unusedVariables false

theorem at_c (x y : Int) (w : World) : Calls Try.prog 29 #[(.int .i64 x), (.int .i64 y)] w (Ret w (.agg #[(.int .i64 x), (.int .i64 y)])) := by
  go_enter Try.func29, Try.ntmps29
  go_wp2
  refine bodyPost_ret ?_ rfl ⟨rfl, (by repeat (first | with_reducible exact Below.refl _ _ | with_reducible assumption | with_reducible refine Below.setCell ?_ (by first | omega | (simp <;> omega)) _ | with_reducible refine balloc ?_ _ | with_reducible refine Below.drew ?_ | with_reducible refine bstep ?_ (by with_reducible assumption)))⟩
  simp [results, Try.results29, go_sem]
theorem arc_c (c r x1 x2 y1 y2 : Int) (w : World) : Calls Try.prog 27 #[(.int .i64 c), (.int .i64 r), (.agg #[.int .i64 x1, .int .i64 x2]), (.agg #[.int .i64 y1, .int .i64 y2])] w (Ret w (.agg #[(.int .i64 x1), (.int .i64 x2), (.int .i64 y1), (.int .i64 y2), (.int .i64 c), (.int .i64 r)])) := by
  go_enter Try.func27, Try.ntmps27
  go_wp2
  refine bodyPost_ret ?_ rfl ⟨rfl, (by repeat (first | with_reducible exact Below.refl _ _ | with_reducible assumption | with_reducible refine Below.setCell ?_ (by first | omega | (simp <;> omega)) _ | with_reducible refine balloc ?_ _ | with_reducible refine Below.drew ?_ | with_reducible refine bstep ?_ (by with_reducible assumption)))⟩
  simp [results, Try.results27, go_sem]
theorem way_c (a1 a2 p1 p2 : Int) (w : World) (h1 : -2000000 ≤ p1 - a1 ∧ p1 - a1 ≤ 2000000) (h2 : -2000000 ≤ p2 - a2 ∧ p2 - a2 ≤ 2000000) : Calls Try.prog 46 #[(.agg #[.int .i64 a1, .int .i64 a2]), (.agg #[.int .i64 p1, .int .i64 p2])] w (Ret w (.agg #[(.int .i64 ((p1 - a1))), (.int .i64 ((p2 - a2)))])) := by
  obtain ⟨h3, h4⟩ := h1
  obtain ⟨h5, h6⟩ := h2
  go_enter Try.func46, Try.ntmps46
  go_wp2
  refine bodyPost_ret ?_ rfl ⟨rfl, (by repeat (first | with_reducible exact Below.refl _ _ | with_reducible assumption | with_reducible refine Below.setCell ?_ (by first | omega | (simp <;> omega)) _ | with_reducible refine balloc ?_ _ | with_reducible refine Below.drew ?_ | with_reducible refine bstep ?_ (by with_reducible assumption)))⟩
  simp [results, Try.results46, go_sem]

/-- What is seen. -/
def seL (l : List Sec) (a1 a2 p1 p2 : Int) : Int := if nearB p1 p2 a1 a2 a1 a2 (shL l (p1 - a1, p2 - a2)).2 = true then (shL l (p1 - a1, p2 - a2)).1 else 0
theorem sh_bd {l : List Sec} (h : allS l) (v : V) : (0 ≤ (shL l v).1 ∧ (shL l v).1 ≤ 3) ∧ 0 ≤ (shL l v).2 ∧ (shL l v).2 ≤ 3000000 := by
  unfold shL
  split
  · rename_i s hs
    obtain ⟨i, hi, e⟩ := mem_gs (List.mem_of_find?_eq_some hs)
    have := vaS_iff.1 (h i hi)
    rw [e] at this
    omega
  · simp

set_option maxRecDepth 20000 in
set_option maxHeartbeats 6400000 in
theorem Seen_ok (a : Value) (l : List Sec) (x1 x2 p1 p2 : Int) (w : World) (ha : Secs w a l) (va : vaL l = true) (hx : ok x1 x2) (hp : ok p1 p2) (hne : ¬ (p1 = x1 ∧ p2 = x2)) : Calls Try.prog 25 #[a, (.agg #[.int .i64 x1, .int .i64 x2]), (.agg #[.int .i64 p1, .int .i64 p2])] w (Ret w (.tuple #[(.int .i64 (seL l x1 x2 p1 p2)), (.int .i64 0)])) := by
  obtain ⟨pa, ca, rfl⟩ : ∃ p c, a = .slice p l.length c := by obtain ⟨⟨p, c, h, _⟩, _⟩ := ha; exact ⟨p, c, h⟩
  have C1 : ∀ W, Below w.heap.size w W → Calls Try.prog 12 #[(.slice pa l.length ca)] W (Ret W (.bool true)) := fun W h => by have := Valid_c _ l W (ha.below h); rwa [va] at this
  have hal := vaL_all va
  have Vx : ∀ w, Calls Try.prog 45 #[(.agg #[.int .i64 x1, .int .i64 x2])] w (Ret w (.bool true)) := fun w => by have := valid_c x1 x2 w; rwa [show okB x1 x2 = true from okB_of hx] at this
  have Vp : ∀ w, Calls Try.prog 45 #[(.agg #[.int .i64 p1, .int .i64 p2])] w (Ret w (.bool true)) := fun w => by have := valid_c p1 p2 w; rwa [show okB p1 p2 = true from okB_of hp] at this
  have hx' := hx
  have hp' := hp
  unfold ok at hx' hp'
  have hd : okW (p1 - x1, p2 - x2) := ⟨fun h => hne (by have h1 := congrArg Prod.fst h; have h2 := congrArg Prod.snd h; dsimp only at h1 h2; omega), by dsimp only; omega, by dsimp only; omega, by dsimp only; omega, by dsimp only; omega⟩
  have C3 : ∀ W, Below w.heap.size w W → Calls Try.prog 39 #[(.slice pa l.length ca), .agg #[(.int .i64 ((p1 - x1))), (.int .i64 ((p2 - x2)))]] W (Ret W (.agg #[(.int .i64 0), (.int .i64 0), (.int .i64 0), (.int .i64 0), (.int .i64 ((shL l (p1 - x1, p2 - x2)).1)), (.int .i64 ((shL l (p1 - x1, p2 - x2)).2))])) := fun W h => shown_s _ _ (ha.below h) (by omega) hal.2 hd
  have C4 : ∀ w, Calls Try.prog 47 #[(.agg #[.int .i64 p1, .int .i64 p2]), (.agg #[.int .i64 x1, .int .i64 x2]), (.agg #[.int .i64 x1, .int .i64 x2]), (.int .i64 ((shL l (p1 - x1, p2 - x2)).2))] w (Ret w (.tuple #[(.bool (nearB p1 p2 x1 x2 x1 x2 (shL l (p1 - x1, p2 - x2)).2)), (.int .i64 0)])) := fun w => Near_ok _ _ _ _ _ _ _ w hp hx hx (sh_bd hal.2 _).2
  have C5 : ∀ w, Calls Try.prog 46 #[(.agg #[.int .i64 x1, .int .i64 x2]), (.agg #[.int .i64 p1, .int .i64 p2])] w (Ret w (.agg #[(.int .i64 ((p1 - x1))), (.int .i64 ((p2 - x2)))])) := fun w => way_c _ _ _ _ w (by omega) (by omega)
  have HE := Lib.hid (show seL l x1 x2 p1 p2 = if nearB p1 p2 x1 x2 x1 x2 (shL l (p1 - x1, p2 - x2)).2 = true then (shL l (p1 - x1, p2 - x2)).1 else 0 from rfl)
  generalize shL l (p1 - x1, p2 - x2) = q at *
  obtain ⟨q1, q2⟩ := q
  dsimp only at C3 C4
  generalize nearB p1 p2 x1 x2 x1 x2 q2 = nb at *
  generalize seL l x1 x2 p1 p2 = r at *
  generalize p1 - x1 = d1 at *
  generalize p2 - x2 = d2 at *
  have H1 := Lib.hid C1
  have H3 := Lib.hid C3
  clear C1 C3 ha hx' hp' hd
  by_cases e1 : p1 = x1
  · obtain rfl : x1 = p1 := e1.symm
    have e2 : ¬ (p2 = x2) := fun h => hne ⟨rfl, h⟩
    cases nb
    · have HR : 0 = r := by rw [HE.out]; simp
      subst HR
      go_enter Try.func25, Try.ntmps25
      go_wp2_with fail
      refine Calls.mono (H1.out _ (by repeat (first | with_reducible exact Below.refl _ _ | with_reducible assumption | with_reducible refine Below.setCell ?_ (by first | omega | (simp <;> omega)) _ | with_reducible refine balloc ?_ _ | with_reducible refine Below.drew ?_ | with_reducible refine bstep ?_ (by with_reducible assumption)))) ?_
      rintro e w1 ⟨rfl, hb⟩
      have kx0 : w1.cell? ⟨w.heap.size, 0, none⟩ = some (.int .i64 x1) := cell_later hb (by go_simp)
      have kx1 : w1.cell? ⟨w.heap.size, 1, none⟩ = some (.int .i64 x2) := cell_later hb (by go_simp)
      have kp0 : w1.cell? ⟨w.heap.size + 1, 0, none⟩ = some (.int .i64 x1) := cell_later hb (by go_simp)
      have kp1 : w1.cell? ⟨w.heap.size + 1, 1, none⟩ = some (.int .i64 p2) := cell_later hb (by go_simp)
      have zx : w.heap.size < w1.heap.size := World.block_lt_of_cell? _ _ kx0
      have zx_w1 := zx
      have zp : w.heap.size + 1 < w1.heap.size := World.block_lt_of_cell? _ _ kp0
      have zp_w1 := zp
      have hb0 : Below w.heap.size w w1 := (by repeat (first | with_reducible exact Below.refl _ _ | with_reducible assumption | with_reducible refine Below.setCell ?_ (by first | omega | (simp <;> omega)) _ | with_reducible refine balloc ?_ _ | with_reducible refine Below.drew ?_ | with_reducible refine bstep ?_ (by with_reducible assumption)))
      have hs_w1 := hb.size; (try simp only [World.size_alloc, World.size_setCell] at hs_w1)
      clear hb
      go_wp2_with fail
      refine Calls.mono (Vx _) ?_
      rintro e w2 ⟨rfl, hb⟩
      replace kx0 := cell_later hb kx0
      replace kx1 := cell_later hb kx1
      replace kp0 := cell_later hb kp0
      replace kp1 := cell_later hb kp1
      replace zx : w.heap.size < w2.heap.size := World.block_lt_of_cell? _ _ kx0
      have zx_w2 := zx
      replace zp : w.heap.size + 1 < w2.heap.size := World.block_lt_of_cell? _ _ kp0
      have zp_w2 := zp
      replace hb0 : Below w.heap.size w w2 := (by repeat (first | with_reducible exact Below.refl _ _ | with_reducible assumption | with_reducible refine Below.setCell ?_ (by first | omega | (simp <;> omega)) _ | with_reducible refine balloc ?_ _ | with_reducible refine Below.drew ?_ | with_reducible refine bstep ?_ (by with_reducible assumption)))
      have hs_w2 : w1.heap.size ≤ w2.heap.size := hb.size
      clear hb
      go_wp2_with fail
      refine Calls.mono (Vp _) ?_
      rintro e w3 ⟨rfl, hb⟩
      replace kx0 := cell_later hb kx0
      replace kx1 := cell_later hb kx1
      replace kp0 := cell_later hb kp0
      replace kp1 := cell_later hb kp1
      replace zx : w.heap.size < w3.heap.size := World.block_lt_of_cell? _ _ kx0
      have zx_w3 := zx
      replace zp : w.heap.size + 1 < w3.heap.size := World.block_lt_of_cell? _ _ kp0
      have zp_w3 := zp
      replace hb0 : Below w.heap.size w w3 := (by repeat (first | with_reducible exact Below.refl _ _ | with_reducible assumption | with_reducible refine Below.setCell ?_ (by first | omega | (simp <;> omega)) _ | with_reducible refine balloc ?_ _ | with_reducible refine Below.drew ?_ | with_reducible refine bstep ?_ (by with_reducible assumption)))
      have hs_w3 : w2.heap.size ≤ w3.heap.size := hb.size
      clear hb
      go_wp2_with fail
      refine Calls.mono (C5 _) ?_
      rintro e w4 ⟨rfl, hb⟩
      replace kx0 := cell_later hb kx0
      replace kx1 := cell_later hb kx1
      replace kp0 := cell_later hb kp0
      replace kp1 := cell_later hb kp1
      replace zx : w.heap.size < w4.heap.size := World.block_lt_of_cell? _ _ kx0
      have zx_w4 := zx
      replace zp : w.heap.size + 1 < w4.heap.size := World.block_lt_of_cell? _ _ kp0
      have zp_w4 := zp
      replace hb0 : Below w.heap.size w w4 := (by repeat (first | with_reducible exact Below.refl _ _ | with_reducible assumption | with_reducible refine Below.setCell ?_ (by first | omega | (simp <;> omega)) _ | with_reducible refine balloc ?_ _ | with_reducible refine Below.drew ?_ | with_reducible refine bstep ?_ (by with_reducible assumption)))
      have hs_w4 : w3.heap.size ≤ w4.heap.size := hb.size
      clear hb
      go_wp2_with fail
      refine Calls.mono (H3.out _ (by repeat (first | with_reducible exact Below.refl _ _ | with_reducible assumption | with_reducible refine Below.setCell ?_ (by first | omega | (simp <;> omega)) _ | with_reducible refine balloc ?_ _ | with_reducible refine Below.drew ?_ | with_reducible refine bstep ?_ (by with_reducible assumption)))) ?_
      rintro e w5 ⟨rfl, hb⟩
      replace kx0 := cell_later hb kx0
      replace kx1 := cell_later hb kx1
      replace kp0 := cell_later hb kp0
      replace kp1 := cell_later hb kp1
      replace zx : w.heap.size < w5.heap.size := World.block_lt_of_cell? _ _ kx0
      have zx_w5 := zx
      replace zp : w.heap.size + 1 < w5.heap.size := World.block_lt_of_cell? _ _ kp0
      have zp_w5 := zp
      replace hb0 : Below w.heap.size w w5 := (by repeat (first | with_reducible exact Below.refl _ _ | with_reducible assumption | with_reducible refine Below.setCell ?_ (by first | omega | (simp <;> omega)) _ | with_reducible refine balloc ?_ _ | with_reducible refine Below.drew ?_ | with_reducible refine bstep ?_ (by with_reducible assumption)))
      have hs_w5 : w4.heap.size ≤ w5.heap.size := hb.size
      clear hb
      go_wp2_with fail
      refine Calls.mono (C4 _) ?_
      rintro e w6 ⟨rfl, hb⟩
      replace kx0 := cell_later hb (cell_al _ kx0)
      replace kx1 := cell_later hb (cell_al _ kx1)
      replace kp0 := cell_later hb (cell_al _ kp0)
      replace kp1 := cell_later hb (cell_al _ kp1)
      have ks0 : w6.cell? ⟨w5.heap.size, 0, none⟩ = some (.int .i64 0) := cell_later hb (by go_simp)
      have ks1 : w6.cell? ⟨w5.heap.size, 1, none⟩ = some (.int .i64 0) := cell_later hb (by go_simp)
      have ks2 : w6.cell? ⟨w5.heap.size, 2, none⟩ = some (.int .i64 0) := cell_later hb (by go_simp)
      have ks3 : w6.cell? ⟨w5.heap.size, 3, none⟩ = some (.int .i64 0) := cell_later hb (by go_simp)
      have ks4 : w6.cell? ⟨w5.heap.size, 4, none⟩ = some (.int .i64 q1) := cell_later hb (by go_simp)
      have ks5 : w6.cell? ⟨w5.heap.size, 5, none⟩ = some (.int .i64 q2) := cell_later hb (by go_simp)
      replace zx : w.heap.size < w6.heap.size := World.block_lt_of_cell? _ _ kx0
      have zx_w6 := zx
      replace zp : w.heap.size + 1 < w6.heap.size := World.block_lt_of_cell? _ _ kp0
      have zp_w6 := zp
      have zs : w5.heap.size < w6.heap.size := World.block_lt_of_cell? _ _ ks0
      have zs_w6 := zs
      replace hb0 : Below w.heap.size w w6 := (by repeat (first | with_reducible exact Below.refl _ _ | with_reducible assumption | with_reducible refine Below.setCell ?_ (by first | omega | (simp <;> omega)) _ | with_reducible refine balloc ?_ _ | with_reducible refine Below.drew ?_ | with_reducible refine bstep ?_ (by with_reducible assumption)))
      have hs_w6 := hb.size; (try simp only [World.size_alloc, World.size_setCell] at hs_w6)
      clear hb
      go_wp2
      go_ret2
      exact ⟨rfl, (by repeat (first | with_reducible exact Below.refl _ _ | with_reducible assumption | with_reducible refine Below.setCell ?_ (by first | omega | (simp <;> omega)) _ | with_reducible refine balloc ?_ _ | with_reducible refine Below.drew ?_ | with_reducible refine bstep ?_ (by with_reducible assumption)))⟩
    · have HR : q1 = r := by rw [HE.out]; simp
      subst HR
      go_enter Try.func25, Try.ntmps25
      go_wp2_with fail
      refine Calls.mono (H1.out _ (by repeat (first | with_reducible exact Below.refl _ _ | with_reducible assumption | with_reducible refine Below.setCell ?_ (by first | omega | (simp <;> omega)) _ | with_reducible refine balloc ?_ _ | with_reducible refine Below.drew ?_ | with_reducible refine bstep ?_ (by with_reducible assumption)))) ?_
      rintro e w1 ⟨rfl, hb⟩
      have kx0 : w1.cell? ⟨w.heap.size, 0, none⟩ = some (.int .i64 x1) := cell_later hb (by go_simp)
      have kx1 : w1.cell? ⟨w.heap.size, 1, none⟩ = some (.int .i64 x2) := cell_later hb (by go_simp)
      have kp0 : w1.cell? ⟨w.heap.size + 1, 0, none⟩ = some (.int .i64 x1) := cell_later hb (by go_simp)
      have kp1 : w1.cell? ⟨w.heap.size + 1, 1, none⟩ = some (.int .i64 p2) := cell_later hb (by go_simp)
      have zx : w.heap.size < w1.heap.size := World.block_lt_of_cell? _ _ kx0
      have zx_w1 := zx
      have zp : w.heap.size + 1 < w1.heap.size := World.block_lt_of_cell? _ _ kp0
      have zp_w1 := zp
      have hb0 : Below w.heap.size w w1 := (by repeat (first | with_reducible exact Below.refl _ _ | with_reducible assumption | with_reducible refine Below.setCell ?_ (by first | omega | (simp <;> omega)) _ | with_reducible refine balloc ?_ _ | with_reducible refine Below.drew ?_ | with_reducible refine bstep ?_ (by with_reducible assumption)))
      have hs_w1 := hb.size; (try simp only [World.size_alloc, World.size_setCell] at hs_w1)
      clear hb
      go_wp2_with fail
      refine Calls.mono (Vx _) ?_
      rintro e w2 ⟨rfl, hb⟩
      replace kx0 := cell_later hb kx0
      replace kx1 := cell_later hb kx1
      replace kp0 := cell_later hb kp0
      replace kp1 := cell_later hb kp1
      replace zx : w.heap.size < w2.heap.size := World.block_lt_of_cell? _ _ kx0
      have zx_w2 := zx
      replace zp : w.heap.size + 1 < w2.heap.size := World.block_lt_of_cell? _ _ kp0
      have zp_w2 := zp
      replace hb0 : Below w.heap.size w w2 := (by repeat (first | with_reducible exact Below.refl _ _ | with_reducible assumption | with_reducible refine Below.setCell ?_ (by first | omega | (simp <;> omega)) _ | with_reducible refine balloc ?_ _ | with_reducible refine Below.drew ?_ | with_reducible refine bstep ?_ (by with_reducible assumption)))
      have hs_w2 : w1.heap.size ≤ w2.heap.size := hb.size
      clear hb
      go_wp2_with fail
      refine Calls.mono (Vp _) ?_
      rintro e w3 ⟨rfl, hb⟩
      replace kx0 := cell_later hb kx0
      replace kx1 := cell_later hb kx1
      replace kp0 := cell_later hb kp0
      replace kp1 := cell_later hb kp1
      replace zx : w.heap.size < w3.heap.size := World.block_lt_of_cell? _ _ kx0
      have zx_w3 := zx
      replace zp : w.heap.size + 1 < w3.heap.size := World.block_lt_of_cell? _ _ kp0
      have zp_w3 := zp
      replace hb0 : Below w.heap.size w w3 := (by repeat (first | with_reducible exact Below.refl _ _ | with_reducible assumption | with_reducible refine Below.setCell ?_ (by first | omega | (simp <;> omega)) _ | with_reducible refine balloc ?_ _ | with_reducible refine Below.drew ?_ | with_reducible refine bstep ?_ (by with_reducible assumption)))
      have hs_w3 : w2.heap.size ≤ w3.heap.size := hb.size
      clear hb
      go_wp2_with fail
      refine Calls.mono (C5 _) ?_
      rintro e w4 ⟨rfl, hb⟩
      replace kx0 := cell_later hb kx0
      replace kx1 := cell_later hb kx1
      replace kp0 := cell_later hb kp0
      replace kp1 := cell_later hb kp1
      replace zx : w.heap.size < w4.heap.size := World.block_lt_of_cell? _ _ kx0
      have zx_w4 := zx
      replace zp : w.heap.size + 1 < w4.heap.size := World.block_lt_of_cell? _ _ kp0
      have zp_w4 := zp
      replace hb0 : Below w.heap.size w w4 := (by repeat (first | with_reducible exact Below.refl _ _ | with_reducible assumption | with_reducible refine Below.setCell ?_ (by first | omega | (simp <;> omega)) _ | with_reducible refine balloc ?_ _ | with_reducible refine Below.drew ?_ | with_reducible refine bstep ?_ (by with_reducible assumption)))
      have hs_w4 : w3.heap.size ≤ w4.heap.size := hb.size
      clear hb
      go_wp2_with fail
      refine Calls.mono (H3.out _ (by repeat (first | with_reducible exact Below.refl _ _ | with_reducible assumption | with_reducible refine Below.setCell ?_ (by first | omega | (simp <;> omega)) _ | with_reducible refine balloc ?_ _ | with_reducible refine Below.drew ?_ | with_reducible refine bstep ?_ (by with_reducible assumption)))) ?_
      rintro e w5 ⟨rfl, hb⟩
      replace kx0 := cell_later hb kx0
      replace kx1 := cell_later hb kx1
      replace kp0 := cell_later hb kp0
      replace kp1 := cell_later hb kp1
      replace zx : w.heap.size < w5.heap.size := World.block_lt_of_cell? _ _ kx0
      have zx_w5 := zx
      replace zp : w.heap.size + 1 < w5.heap.size := World.block_lt_of_cell? _ _ kp0
      have zp_w5 := zp
      replace hb0 : Below w.heap.size w w5 := (by repeat (first | with_reducible exact Below.refl _ _ | with_reducible assumption | with_reducible refine Below.setCell ?_ (by first | omega | (simp <;> omega)) _ | with_reducible refine balloc ?_ _ | with_reducible refine Below.drew ?_ | with_reducible refine bstep ?_ (by with_reducible assumption)))
      have hs_w5 : w4.heap.size ≤ w5.heap.size := hb.size
      clear hb
      go_wp2_with fail
      refine Calls.mono (C4 _) ?_
      rintro e w6 ⟨rfl, hb⟩
      replace kx0 := cell_later hb (cell_al _ kx0)
      replace kx1 := cell_later hb (cell_al _ kx1)
      replace kp0 := cell_later hb (cell_al _ kp0)
      replace kp1 := cell_later hb (cell_al _ kp1)
      have ks0 : w6.cell? ⟨w5.heap.size, 0, none⟩ = some (.int .i64 0) := cell_later hb (by go_simp)
      have ks1 : w6.cell? ⟨w5.heap.size, 1, none⟩ = some (.int .i64 0) := cell_later hb (by go_simp)
      have ks2 : w6.cell? ⟨w5.heap.size, 2, none⟩ = some (.int .i64 0) := cell_later hb (by go_simp)
      have ks3 : w6.cell? ⟨w5.heap.size, 3, none⟩ = some (.int .i64 0) := cell_later hb (by go_simp)
      have ks4 : w6.cell? ⟨w5.heap.size, 4, none⟩ = some (.int .i64 q1) := cell_later hb (by go_simp)
      have ks5 : w6.cell? ⟨w5.heap.size, 5, none⟩ = some (.int .i64 q2) := cell_later hb (by go_simp)
      replace zx : w.heap.size < w6.heap.size := World.block_lt_of_cell? _ _ kx0
      have zx_w6 := zx
      replace zp : w.heap.size + 1 < w6.heap.size := World.block_lt_of_cell? _ _ kp0
      have zp_w6 := zp
      have zs : w5.heap.size < w6.heap.size := World.block_lt_of_cell? _ _ ks0
      have zs_w6 := zs
      replace hb0 : Below w.heap.size w w6 := (by repeat (first | with_reducible exact Below.refl _ _ | with_reducible assumption | with_reducible refine Below.setCell ?_ (by first | omega | (simp <;> omega)) _ | with_reducible refine balloc ?_ _ | with_reducible refine Below.drew ?_ | with_reducible refine bstep ?_ (by with_reducible assumption)))
      have hs_w6 := hb.size; (try simp only [World.size_alloc, World.size_setCell] at hs_w6)
      clear hb
      go_wp2
      go_ret2
      exact ⟨rfl, (by repeat (first | with_reducible exact Below.refl _ _ | with_reducible assumption | with_reducible refine Below.setCell ?_ (by first | omega | (simp <;> omega)) _ | with_reducible refine balloc ?_ _ | with_reducible refine Below.drew ?_ | with_reducible refine bstep ?_ (by with_reducible assumption)))⟩
  · cases nb
    · have HR : 0 = r := by rw [HE.out]; simp
      subst HR
      go_enter Try.func25, Try.ntmps25
      go_wp2_with fail
      refine Calls.mono (H1.out _ (by repeat (first | with_reducible exact Below.refl _ _ | with_reducible assumption | with_reducible refine Below.setCell ?_ (by first | omega | (simp <;> omega)) _ | with_reducible refine balloc ?_ _ | with_reducible refine Below.drew ?_ | with_reducible refine bstep ?_ (by with_reducible assumption)))) ?_
      rintro e w1 ⟨rfl, hb⟩
      have kx0 : w1.cell? ⟨w.heap.size, 0, none⟩ = some (.int .i64 x1) := cell_later hb (by go_simp)
      have kx1 : w1.cell? ⟨w.heap.size, 1, none⟩ = some (.int .i64 x2) := cell_later hb (by go_simp)
      have kp0 : w1.cell? ⟨w.heap.size + 1, 0, none⟩ = some (.int .i64 p1) := cell_later hb (by go_simp)
      have kp1 : w1.cell? ⟨w.heap.size + 1, 1, none⟩ = some (.int .i64 p2) := cell_later hb (by go_simp)
      have zx : w.heap.size < w1.heap.size := World.block_lt_of_cell? _ _ kx0
      have zx_w1 := zx
      have zp : w.heap.size + 1 < w1.heap.size := World.block_lt_of_cell? _ _ kp0
      have zp_w1 := zp
      have hb0 : Below w.heap.size w w1 := (by repeat (first | with_reducible exact Below.refl _ _ | with_reducible assumption | with_reducible refine Below.setCell ?_ (by first | omega | (simp <;> omega)) _ | with_reducible refine balloc ?_ _ | with_reducible refine Below.drew ?_ | with_reducible refine bstep ?_ (by with_reducible assumption)))
      have hs_w1 := hb.size; (try simp only [World.size_alloc, World.size_setCell] at hs_w1)
      clear hb
      go_wp2_with fail
      refine Calls.mono (Vx _) ?_
      rintro e w2 ⟨rfl, hb⟩
      replace kx0 := cell_later hb kx0
      replace kx1 := cell_later hb kx1
      replace kp0 := cell_later hb kp0
      replace kp1 := cell_later hb kp1
      replace zx : w.heap.size < w2.heap.size := World.block_lt_of_cell? _ _ kx0
      have zx_w2 := zx
      replace zp : w.heap.size + 1 < w2.heap.size := World.block_lt_of_cell? _ _ kp0
      have zp_w2 := zp
      replace hb0 : Below w.heap.size w w2 := (by repeat (first | with_reducible exact Below.refl _ _ | with_reducible assumption | with_reducible refine Below.setCell ?_ (by first | omega | (simp <;> omega)) _ | with_reducible refine balloc ?_ _ | with_reducible refine Below.drew ?_ | with_reducible refine bstep ?_ (by with_reducible assumption)))
      have hs_w2 : w1.heap.size ≤ w2.heap.size := hb.size
      clear hb
      go_wp2_with fail
      refine Calls.mono (Vp _) ?_
      rintro e w3 ⟨rfl, hb⟩
      replace kx0 := cell_later hb kx0
      replace kx1 := cell_later hb kx1
      replace kp0 := cell_later hb kp0
      replace kp1 := cell_later hb kp1
      replace zx : w.heap.size < w3.heap.size := World.block_lt_of_cell? _ _ kx0
      have zx_w3 := zx
      replace zp : w.heap.size + 1 < w3.heap.size := World.block_lt_of_cell? _ _ kp0
      have zp_w3 := zp
      replace hb0 : Below w.heap.size w w3 := (by repeat (first | with_reducible exact Below.refl _ _ | with_reducible assumption | with_reducible refine Below.setCell ?_ (by first | omega | (simp <;> omega)) _ | with_reducible refine balloc ?_ _ | with_reducible refine Below.drew ?_ | with_reducible refine bstep ?_ (by with_reducible assumption)))
      have hs_w3 : w2.heap.size ≤ w3.heap.size := hb.size
      clear hb
      go_wp2_with fail
      refine Calls.mono (C5 _) ?_
      rintro e w4 ⟨rfl, hb⟩
      replace kx0 := cell_later hb kx0
      replace kx1 := cell_later hb kx1
      replace kp0 := cell_later hb kp0
      replace kp1 := cell_later hb kp1
      replace zx : w.heap.size < w4.heap.size := World.block_lt_of_cell? _ _ kx0
      have zx_w4 := zx
      replace zp : w.heap.size + 1 < w4.heap.size := World.block_lt_of_cell? _ _ kp0
      have zp_w4 := zp
      replace hb0 : Below w.heap.size w w4 := (by repeat (first | with_reducible exact Below.refl _ _ | with_reducible assumption | with_reducible refine Below.setCell ?_ (by first | omega | (simp <;> omega)) _ | with_reducible refine balloc ?_ _ | with_reducible refine Below.drew ?_ | with_reducible refine bstep ?_ (by with_reducible assumption)))
      have hs_w4 : w3.heap.size ≤ w4.heap.size := hb.size
      clear hb
      go_wp2_with fail
      refine Calls.mono (H3.out _ (by repeat (first | with_reducible exact Below.refl _ _ | with_reducible assumption | with_reducible refine Below.setCell ?_ (by first | omega | (simp <;> omega)) _ | with_reducible refine balloc ?_ _ | with_reducible refine Below.drew ?_ | with_reducible refine bstep ?_ (by with_reducible assumption)))) ?_
      rintro e w5 ⟨rfl, hb⟩
      replace kx0 := cell_later hb kx0
      replace kx1 := cell_later hb kx1
      replace kp0 := cell_later hb kp0
      replace kp1 := cell_later hb kp1
      replace zx : w.heap.size < w5.heap.size := World.block_lt_of_cell? _ _ kx0
      have zx_w5 := zx
      replace zp : w.heap.size + 1 < w5.heap.size := World.block_lt_of_cell? _ _ kp0
      have zp_w5 := zp
      replace hb0 : Below w.heap.size w w5 := (by repeat (first | with_reducible exact Below.refl _ _ | with_reducible assumption | with_reducible refine Below.setCell ?_ (by first | omega | (simp <;> omega)) _ | with_reducible refine balloc ?_ _ | with_reducible refine Below.drew ?_ | with_reducible refine bstep ?_ (by with_reducible assumption)))
      have hs_w5 : w4.heap.size ≤ w5.heap.size := hb.size
      clear hb
      go_wp2_with fail
      refine Calls.mono (C4 _) ?_
      rintro e w6 ⟨rfl, hb⟩
      replace kx0 := cell_later hb (cell_al _ kx0)
      replace kx1 := cell_later hb (cell_al _ kx1)
      replace kp0 := cell_later hb (cell_al _ kp0)
      replace kp1 := cell_later hb (cell_al _ kp1)
      have ks0 : w6.cell? ⟨w5.heap.size, 0, none⟩ = some (.int .i64 0) := cell_later hb (by go_simp)
      have ks1 : w6.cell? ⟨w5.heap.size, 1, none⟩ = some (.int .i64 0) := cell_later hb (by go_simp)
      have ks2 : w6.cell? ⟨w5.heap.size, 2, none⟩ = some (.int .i64 0) := cell_later hb (by go_simp)
      have ks3 : w6.cell? ⟨w5.heap.size, 3, none⟩ = some (.int .i64 0) := cell_later hb (by go_simp)
      have ks4 : w6.cell? ⟨w5.heap.size, 4, none⟩ = some (.int .i64 q1) := cell_later hb (by go_simp)
      have ks5 : w6.cell? ⟨w5.heap.size, 5, none⟩ = some (.int .i64 q2) := cell_later hb (by go_simp)
      replace zx : w.heap.size < w6.heap.size := World.block_lt_of_cell? _ _ kx0
      have zx_w6 := zx
      replace zp : w.heap.size + 1 < w6.heap.size := World.block_lt_of_cell? _ _ kp0
      have zp_w6 := zp
      have zs : w5.heap.size < w6.heap.size := World.block_lt_of_cell? _ _ ks0
      have zs_w6 := zs
      replace hb0 : Below w.heap.size w w6 := (by repeat (first | with_reducible exact Below.refl _ _ | with_reducible assumption | with_reducible refine Below.setCell ?_ (by first | omega | (simp <;> omega)) _ | with_reducible refine balloc ?_ _ | with_reducible refine Below.drew ?_ | with_reducible refine bstep ?_ (by with_reducible assumption)))
      have hs_w6 := hb.size; (try simp only [World.size_alloc, World.size_setCell] at hs_w6)
      clear hb
      go_wp2
      go_ret2
      exact ⟨rfl, (by repeat (first | with_reducible exact Below.refl _ _ | with_reducible assumption | with_reducible refine Below.setCell ?_ (by first | omega | (simp <;> omega)) _ | with_reducible refine balloc ?_ _ | with_reducible refine Below.drew ?_ | with_reducible refine bstep ?_ (by with_reducible assumption)))⟩
    · have HR : q1 = r := by rw [HE.out]; simp
      subst HR
      go_enter Try.func25, Try.ntmps25
      go_wp2_with fail
      refine Calls.mono (H1.out _ (by repeat (first | with_reducible exact Below.refl _ _ | with_reducible assumption | with_reducible refine Below.setCell ?_ (by first | omega | (simp <;> omega)) _ | with_reducible refine balloc ?_ _ | with_reducible refine Below.drew ?_ | with_reducible refine bstep ?_ (by with_reducible assumption)))) ?_
      rintro e w1 ⟨rfl, hb⟩
      have kx0 : w1.cell? ⟨w.heap.size, 0, none⟩ = some (.int .i64 x1) := cell_later hb (by go_simp)
      have kx1 : w1.cell? ⟨w.heap.size, 1, none⟩ = some (.int .i64 x2) := cell_later hb (by go_simp)
      have kp0 : w1.cell? ⟨w.heap.size + 1, 0, none⟩ = some (.int .i64 p1) := cell_later hb (by go_simp)
      have kp1 : w1.cell? ⟨w.heap.size + 1, 1, none⟩ = some (.int .i64 p2) := cell_later hb (by go_simp)
      have zx : w.heap.size < w1.heap.size := World.block_lt_of_cell? _ _ kx0
      have zx_w1 := zx
      have zp : w.heap.size + 1 < w1.heap.size := World.block_lt_of_cell? _ _ kp0
      have zp_w1 := zp
      have hb0 : Below w.heap.size w w1 := (by repeat (first | with_reducible exact Below.refl _ _ | with_reducible assumption | with_reducible refine Below.setCell ?_ (by first | omega | (simp <;> omega)) _ | with_reducible refine balloc ?_ _ | with_reducible refine Below.drew ?_ | with_reducible refine bstep ?_ (by with_reducible assumption)))
      have hs_w1 := hb.size; (try simp only [World.size_alloc, World.size_setCell] at hs_w1)
      clear hb
      go_wp2_with fail
      refine Calls.mono (Vx _) ?_
      rintro e w2 ⟨rfl, hb⟩
      replace kx0 := cell_later hb kx0
      replace kx1 := cell_later hb kx1
      replace kp0 := cell_later hb kp0
      replace kp1 := cell_later hb kp1
      replace zx : w.heap.size < w2.heap.size := World.block_lt_of_cell? _ _ kx0
      have zx_w2 := zx
      replace zp : w.heap.size + 1 < w2.heap.size := World.block_lt_of_cell? _ _ kp0
      have zp_w2 := zp
      replace hb0 : Below w.heap.size w w2 := (by repeat (first | with_reducible exact Below.refl _ _ | with_reducible assumption | with_reducible refine Below.setCell ?_ (by first | omega | (simp <;> omega)) _ | with_reducible refine balloc ?_ _ | with_reducible refine Below.drew ?_ | with_reducible refine bstep ?_ (by with_reducible assumption)))
      have hs_w2 : w1.heap.size ≤ w2.heap.size := hb.size
      clear hb
      go_wp2_with fail
      refine Calls.mono (Vp _) ?_
      rintro e w3 ⟨rfl, hb⟩
      replace kx0 := cell_later hb kx0
      replace kx1 := cell_later hb kx1
      replace kp0 := cell_later hb kp0
      replace kp1 := cell_later hb kp1
      replace zx : w.heap.size < w3.heap.size := World.block_lt_of_cell? _ _ kx0
      have zx_w3 := zx
      replace zp : w.heap.size + 1 < w3.heap.size := World.block_lt_of_cell? _ _ kp0
      have zp_w3 := zp
      replace hb0 : Below w.heap.size w w3 := (by repeat (first | with_reducible exact Below.refl _ _ | with_reducible assumption | with_reducible refine Below.setCell ?_ (by first | omega | (simp <;> omega)) _ | with_reducible refine balloc ?_ _ | with_reducible refine Below.drew ?_ | with_reducible refine bstep ?_ (by with_reducible assumption)))
      have hs_w3 : w2.heap.size ≤ w3.heap.size := hb.size
      clear hb
      go_wp2_with fail
      refine Calls.mono (C5 _) ?_
      rintro e w4 ⟨rfl, hb⟩
      replace kx0 := cell_later hb kx0
      replace kx1 := cell_later hb kx1
      replace kp0 := cell_later hb kp0
      replace kp1 := cell_later hb kp1
      replace zx : w.heap.size < w4.heap.size := World.block_lt_of_cell? _ _ kx0
      have zx_w4 := zx
      replace zp : w.heap.size + 1 < w4.heap.size := World.block_lt_of_cell? _ _ kp0
      have zp_w4 := zp
      replace hb0 : Below w.heap.size w w4 := (by repeat (first | with_reducible exact Below.refl _ _ | with_reducible assumption | with_reducible refine Below.setCell ?_ (by first | omega | (simp <;> omega)) _ | with_reducible refine balloc ?_ _ | with_reducible refine Below.drew ?_ | with_reducible refine bstep ?_ (by with_reducible assumption)))
      have hs_w4 : w3.heap.size ≤ w4.heap.size := hb.size
      clear hb
      go_wp2_with fail
      refine Calls.mono (H3.out _ (by repeat (first | with_reducible exact Below.refl _ _ | with_reducible assumption | with_reducible refine Below.setCell ?_ (by first | omega | (simp <;> omega)) _ | with_reducible refine balloc ?_ _ | with_reducible refine Below.drew ?_ | with_reducible refine bstep ?_ (by with_reducible assumption)))) ?_
      rintro e w5 ⟨rfl, hb⟩
      replace kx0 := cell_later hb kx0
      replace kx1 := cell_later hb kx1
      replace kp0 := cell_later hb kp0
      replace kp1 := cell_later hb kp1
      replace zx : w.heap.size < w5.heap.size := World.block_lt_of_cell? _ _ kx0
      have zx_w5 := zx
      replace zp : w.heap.size + 1 < w5.heap.size := World.block_lt_of_cell? _ _ kp0
      have zp_w5 := zp
      replace hb0 : Below w.heap.size w w5 := (by repeat (first | with_reducible exact Below.refl _ _ | with_reducible assumption | with_reducible refine Below.setCell ?_ (by first | omega | (simp <;> omega)) _ | with_reducible refine balloc ?_ _ | with_reducible refine Below.drew ?_ | with_reducible refine bstep ?_ (by with_reducible assumption)))
      have hs_w5 : w4.heap.size ≤ w5.heap.size := hb.size
      clear hb
      go_wp2_with fail
      refine Calls.mono (C4 _) ?_
      rintro e w6 ⟨rfl, hb⟩
      replace kx0 := cell_later hb (cell_al _ kx0)
      replace kx1 := cell_later hb (cell_al _ kx1)
      replace kp0 := cell_later hb (cell_al _ kp0)
      replace kp1 := cell_later hb (cell_al _ kp1)
      have ks0 : w6.cell? ⟨w5.heap.size, 0, none⟩ = some (.int .i64 0) := cell_later hb (by go_simp)
      have ks1 : w6.cell? ⟨w5.heap.size, 1, none⟩ = some (.int .i64 0) := cell_later hb (by go_simp)
      have ks2 : w6.cell? ⟨w5.heap.size, 2, none⟩ = some (.int .i64 0) := cell_later hb (by go_simp)
      have ks3 : w6.cell? ⟨w5.heap.size, 3, none⟩ = some (.int .i64 0) := cell_later hb (by go_simp)
      have ks4 : w6.cell? ⟨w5.heap.size, 4, none⟩ = some (.int .i64 q1) := cell_later hb (by go_simp)
      have ks5 : w6.cell? ⟨w5.heap.size, 5, none⟩ = some (.int .i64 q2) := cell_later hb (by go_simp)
      replace zx : w.heap.size < w6.heap.size := World.block_lt_of_cell? _ _ kx0
      have zx_w6 := zx
      replace zp : w.heap.size + 1 < w6.heap.size := World.block_lt_of_cell? _ _ kp0
      have zp_w6 := zp
      have zs : w5.heap.size < w6.heap.size := World.block_lt_of_cell? _ _ ks0
      have zs_w6 := zs
      replace hb0 : Below w.heap.size w w6 := (by repeat (first | with_reducible exact Below.refl _ _ | with_reducible assumption | with_reducible refine Below.setCell ?_ (by first | omega | (simp <;> omega)) _ | with_reducible refine balloc ?_ _ | with_reducible refine Below.drew ?_ | with_reducible refine bstep ?_ (by with_reducible assumption)))
      have hs_w6 := hb.size; (try simp only [World.size_alloc, World.size_setCell] at hs_w6)
      clear hb
      go_wp2
      go_ret2
      exact ⟨rfl, (by repeat (first | with_reducible exact Below.refl _ _ | with_reducible assumption | with_reducible refine Below.setCell ?_ (by first | omega | (simp <;> omega)) _ | with_reducible refine balloc ?_ _ | with_reducible refine Below.drew ?_ | with_reducible refine bstep ?_ (by with_reducible assumption)))⟩

set_option maxRecDepth 20000 in
set_option maxHeartbeats 3200000 in
theorem Seen_same (a : Value) (l : List Sec) (x1 x2 : Int) (w : World) (ha : Secs w a l) (va : vaL l = true) (hx : ok x1 x2) : Calls Try.prog 25 #[a, (.agg #[.int .i64 x1, .int .i64 x2]), (.agg #[.int .i64 x1, .int .i64 x2])] w (Ret w (.tuple #[(.int .i64 0), (.int .i64 4)])) := by
  obtain ⟨pa, ca, rfl⟩ : ∃ p c, a = .slice p l.length c := by obtain ⟨⟨p, c, h, _⟩, _⟩ := ha; exact ⟨p, c, h⟩
  have C1 : ∀ W, Below w.heap.size w W → Calls Try.prog 12 #[(.slice pa l.length ca)] W (Ret W (.bool true)) := fun W h => by have := Valid_c _ l W (ha.below h); rwa [va] at this
  have Vx : ∀ w, Calls Try.prog 45 #[(.agg #[.int .i64 x1, .int .i64 x2])] w (Ret w (.bool true)) := fun w => by have := valid_c x1 x2 w; rwa [show okB x1 x2 = true from okB_of hx] at this
  have H1 := Lib.hid C1
  clear C1 ha
  go_enter Try.func25, Try.ntmps25
  go_wp2_with fail
  refine Calls.mono (H1.out _ (by repeat (first | with_reducible exact Below.refl _ _ | with_reducible assumption | with_reducible refine Below.setCell ?_ (by first | omega | (simp <;> omega)) _ | with_reducible refine balloc ?_ _ | with_reducible refine Below.drew ?_ | with_reducible refine bstep ?_ (by with_reducible assumption)))) ?_
  rintro e w1 ⟨rfl, hb⟩
  have kx0 : w1.cell? ⟨w.heap.size, 0, none⟩ = some (.int .i64 x1) := cell_later hb (by go_simp)
  have kx1 : w1.cell? ⟨w.heap.size, 1, none⟩ = some (.int .i64 x2) := cell_later hb (by go_simp)
  have kp0 : w1.cell? ⟨w.heap.size + 1, 0, none⟩ = some (.int .i64 x1) := cell_later hb (by go_simp)
  have kp1 : w1.cell? ⟨w.heap.size + 1, 1, none⟩ = some (.int .i64 x2) := cell_later hb (by go_simp)
  have zx : w.heap.size < w1.heap.size := World.block_lt_of_cell? _ _ kx0
  have zx_w1 := zx
  have zp : w.heap.size + 1 < w1.heap.size := World.block_lt_of_cell? _ _ kp0
  have zp_w1 := zp
  have hb0 : Below w.heap.size w w1 := (by repeat (first | with_reducible exact Below.refl _ _ | with_reducible assumption | with_reducible refine Below.setCell ?_ (by first | omega | (simp <;> omega)) _ | with_reducible refine balloc ?_ _ | with_reducible refine Below.drew ?_ | with_reducible refine bstep ?_ (by with_reducible assumption)))
  have hs_w1 := hb.size; (try simp only [World.size_alloc, World.size_setCell] at hs_w1)
  clear hb
  go_wp2_with fail
  refine Calls.mono (Vx _) ?_
  rintro e w2 ⟨rfl, hb⟩
  replace kx0 := cell_later hb kx0
  replace kx1 := cell_later hb kx1
  replace kp0 := cell_later hb kp0
  replace kp1 := cell_later hb kp1
  replace zx : w.heap.size < w2.heap.size := World.block_lt_of_cell? _ _ kx0
  have zx_w2 := zx
  replace zp : w.heap.size + 1 < w2.heap.size := World.block_lt_of_cell? _ _ kp0
  have zp_w2 := zp
  replace hb0 : Below w.heap.size w w2 := (by repeat (first | with_reducible exact Below.refl _ _ | with_reducible assumption | with_reducible refine Below.setCell ?_ (by first | omega | (simp <;> omega)) _ | with_reducible refine balloc ?_ _ | with_reducible refine Below.drew ?_ | with_reducible refine bstep ?_ (by with_reducible assumption)))
  have hs_w2 : w1.heap.size ≤ w2.heap.size := hb.size
  clear hb
  go_wp2_with fail
  refine Calls.mono (Vx _) ?_
  rintro e w3 ⟨rfl, hb⟩
  replace kx0 := cell_later hb kx0
  replace kx1 := cell_later hb kx1
  replace kp0 := cell_later hb kp0
  replace kp1 := cell_later hb kp1
  replace zx : w.heap.size < w3.heap.size := World.block_lt_of_cell? _ _ kx0
  have zx_w3 := zx
  replace zp : w.heap.size + 1 < w3.heap.size := World.block_lt_of_cell? _ _ kp0
  have zp_w3 := zp
  replace hb0 : Below w.heap.size w w3 := (by repeat (first | with_reducible exact Below.refl _ _ | with_reducible assumption | with_reducible refine Below.setCell ?_ (by first | omega | (simp <;> omega)) _ | with_reducible refine balloc ?_ _ | with_reducible refine Below.drew ?_ | with_reducible refine bstep ?_ (by with_reducible assumption)))
  have hs_w3 : w2.heap.size ≤ w3.heap.size := hb.size
  clear hb
  go_wp2
  go_ret2
  exact ⟨rfl, (by repeat (first | with_reducible exact Below.refl _ _ | with_reducible assumption | with_reducible refine Below.setCell ?_ (by first | omega | (simp <;> omega)) _ | with_reducible refine balloc ?_ _ | with_reducible refine Below.drew ?_ | with_reducible refine bstep ?_ (by with_reducible assumption)))⟩

set_option maxRecDepth 20000 in
set_option maxHeartbeats 3200000 in
theorem Seen_no (a : Value) (l : List Sec) (x1 x2 p1 p2 : Int) (w : World) (ha : Secs w a l) (h : (vaL l && (okB x1 x2 && okB p1 p2)) = false) : Calls Try.prog 25 #[a, (.agg #[.int .i64 x1, .int .i64 x2]), (.agg #[.int .i64 p1, .int .i64 p2])] w (Ret w (.tuple #[(.int .i64 0), (.int .i64 1)])) := by
  obtain ⟨pa, ca, rfl⟩ : ∃ p c, a = .slice p l.length c := by obtain ⟨⟨p, c, h, _⟩, _⟩ := ha; exact ⟨p, c, h⟩
  cases va : vaL l
  · have C1 : ∀ W, Below w.heap.size w W → Calls Try.prog 12 #[(.slice pa l.length ca)] W (Ret W (.bool false)) := fun W h => by have := Valid_c _ l W (ha.below h); rwa [va] at this
    have H1 := Lib.hid C1
    clear C1 ha
    go_enter Try.func25, Try.ntmps25
    go_wp2_with fail
    refine Calls.mono (H1.out _ (by repeat (first | with_reducible exact Below.refl _ _ | with_reducible assumption | with_reducible refine Below.setCell ?_ (by first | omega | (simp <;> omega)) _ | with_reducible refine balloc ?_ _ | with_reducible refine Below.drew ?_ | with_reducible refine bstep ?_ (by with_reducible assumption)))) ?_
    rintro e w1 ⟨rfl, hb⟩
    have kx0 : w1.cell? ⟨w.heap.size, 0, none⟩ = some (.int .i64 x1) := cell_later hb (by go_simp)
    have kx1 : w1.cell? ⟨w.heap.size, 1, none⟩ = some (.int .i64 x2) := cell_later hb (by go_simp)
    have kp0 : w1.cell? ⟨w.heap.size + 1, 0, none⟩ = some (.int .i64 p1) := cell_later hb (by go_simp)
    have kp1 : w1.cell? ⟨w.heap.size + 1, 1, none⟩ = some (.int .i64 p2) := cell_later hb (by go_simp)
    have zx : w.heap.size < w1.heap.size := World.block_lt_of_cell? _ _ kx0
    have zx_w1 := zx
    have zp : w.heap.size + 1 < w1.heap.size := World.block_lt_of_cell? _ _ kp0
    have zp_w1 := zp
    have hb0 : Below w.heap.size w w1 := (by repeat (first | with_reducible exact Below.refl _ _ | with_reducible assumption | with_reducible refine Below.setCell ?_ (by first | omega | (simp <;> omega)) _ | with_reducible refine balloc ?_ _ | with_reducible refine Below.drew ?_ | with_reducible refine bstep ?_ (by with_reducible assumption)))
    have hs_w1 := hb.size; (try simp only [World.size_alloc, World.size_setCell] at hs_w1)
    clear hb
    go_wp2
    go_ret2
    exact ⟨rfl, (by repeat (first | with_reducible exact Below.refl _ _ | with_reducible assumption | with_reducible refine Below.setCell ?_ (by first | omega | (simp <;> omega)) _ | with_reducible refine balloc ?_ _ | with_reducible refine Below.drew ?_ | with_reducible refine bstep ?_ (by with_reducible assumption)))⟩
  · cases nx : okB x1 x2
    · have C1 : ∀ W, Below w.heap.size w W → Calls Try.prog 12 #[(.slice pa l.length ca)] W (Ret W (.bool true)) := fun W h => by have := Valid_c _ l W (ha.below h); rwa [va] at this
      have Vx : ∀ w, Calls Try.prog 45 #[(.agg #[.int .i64 x1, .int .i64 x2])] w (Ret w (.bool false)) := fun w => by have := valid_c x1 x2 w; rwa [show okB x1 x2 = false from nx] at this
      have H1 := Lib.hid C1
      clear C1 ha
      go_enter Try.func25, Try.ntmps25
      go_wp2_with fail
      refine Calls.mono (H1.out _ (by repeat (first | with_reducible exact Below.refl _ _ | with_reducible assumption | with_reducible refine Below.setCell ?_ (by first | omega | (simp <;> omega)) _ | with_reducible refine balloc ?_ _ | with_reducible refine Below.drew ?_ | with_reducible refine bstep ?_ (by with_reducible assumption)))) ?_
      rintro e w1 ⟨rfl, hb⟩
      have kx0 : w1.cell? ⟨w.heap.size, 0, none⟩ = some (.int .i64 x1) := cell_later hb (by go_simp)
      have kx1 : w1.cell? ⟨w.heap.size, 1, none⟩ = some (.int .i64 x2) := cell_later hb (by go_simp)
      have kp0 : w1.cell? ⟨w.heap.size + 1, 0, none⟩ = some (.int .i64 p1) := cell_later hb (by go_simp)
      have kp1 : w1.cell? ⟨w.heap.size + 1, 1, none⟩ = some (.int .i64 p2) := cell_later hb (by go_simp)
      have zx : w.heap.size < w1.heap.size := World.block_lt_of_cell? _ _ kx0
      have zx_w1 := zx
      have zp : w.heap.size + 1 < w1.heap.size := World.block_lt_of_cell? _ _ kp0
      have zp_w1 := zp
      have hb0 : Below w.heap.size w w1 := (by repeat (first | with_reducible exact Below.refl _ _ | with_reducible assumption | with_reducible refine Below.setCell ?_ (by first | omega | (simp <;> omega)) _ | with_reducible refine balloc ?_ _ | with_reducible refine Below.drew ?_ | with_reducible refine bstep ?_ (by with_reducible assumption)))
      have hs_w1 := hb.size; (try simp only [World.size_alloc, World.size_setCell] at hs_w1)
      clear hb
      go_wp2_with fail
      refine Calls.mono (Vx _) ?_
      rintro e w2 ⟨rfl, hb⟩
      replace kx0 := cell_later hb kx0
      replace kx1 := cell_later hb kx1
      replace kp0 := cell_later hb kp0
      replace kp1 := cell_later hb kp1
      replace zx : w.heap.size < w2.heap.size := World.block_lt_of_cell? _ _ kx0
      have zx_w2 := zx
      replace zp : w.heap.size + 1 < w2.heap.size := World.block_lt_of_cell? _ _ kp0
      have zp_w2 := zp
      replace hb0 : Below w.heap.size w w2 := (by repeat (first | with_reducible exact Below.refl _ _ | with_reducible assumption | with_reducible refine Below.setCell ?_ (by first | omega | (simp <;> omega)) _ | with_reducible refine balloc ?_ _ | with_reducible refine Below.drew ?_ | with_reducible refine bstep ?_ (by with_reducible assumption)))
      have hs_w2 : w1.heap.size ≤ w2.heap.size := hb.size
      clear hb
      go_wp2
      go_ret2
      exact ⟨rfl, (by repeat (first | with_reducible exact Below.refl _ _ | with_reducible assumption | with_reducible refine Below.setCell ?_ (by first | omega | (simp <;> omega)) _ | with_reducible refine balloc ?_ _ | with_reducible refine Below.drew ?_ | with_reducible refine bstep ?_ (by with_reducible assumption)))⟩
    · have hx := okB_iff.1 nx
      have np : okB p1 p2 = false := by rw [va, nx] at h; simpa using h
      have C1 : ∀ W, Below w.heap.size w W → Calls Try.prog 12 #[(.slice pa l.length ca)] W (Ret W (.bool true)) := fun W h => by have := Valid_c _ l W (ha.below h); rwa [va] at this
      have Vx : ∀ w, Calls Try.prog 45 #[(.agg #[.int .i64 x1, .int .i64 x2])] w (Ret w (.bool true)) := fun w => by have := valid_c x1 x2 w; rwa [show okB x1 x2 = true from okB_of hx] at this
      have Vp : ∀ w, Calls Try.prog 45 #[(.agg #[.int .i64 p1, .int .i64 p2])] w (Ret w (.bool false)) := fun w => by have := valid_c p1 p2 w; rwa [show okB p1 p2 = false from np] at this
      have H1 := Lib.hid C1
      clear C1 ha
      go_enter Try.func25, Try.ntmps25
      go_wp2_with fail
      refine Calls.mono (H1.out _ (by repeat (first | with_reducible exact Below.refl _ _ | with_reducible assumption | with_reducible refine Below.setCell ?_ (by first | omega | (simp <;> omega)) _ | with_reducible refine balloc ?_ _ | with_reducible refine Below.drew ?_ | with_reducible refine bstep ?_ (by with_reducible assumption)))) ?_
      rintro e w1 ⟨rfl, hb⟩
      have kx0 : w1.cell? ⟨w.heap.size, 0, none⟩ = some (.int .i64 x1) := cell_later hb (by go_simp)
      have kx1 : w1.cell? ⟨w.heap.size, 1, none⟩ = some (.int .i64 x2) := cell_later hb (by go_simp)
      have kp0 : w1.cell? ⟨w.heap.size + 1, 0, none⟩ = some (.int .i64 p1) := cell_later hb (by go_simp)
      have kp1 : w1.cell? ⟨w.heap.size + 1, 1, none⟩ = some (.int .i64 p2) := cell_later hb (by go_simp)
      have zx : w.heap.size < w1.heap.size := World.block_lt_of_cell? _ _ kx0
      have zx_w1 := zx
      have zp : w.heap.size + 1 < w1.heap.size := World.block_lt_of_cell? _ _ kp0
      have zp_w1 := zp
      have hb0 : Below w.heap.size w w1 := (by repeat (first | with_reducible exact Below.refl _ _ | with_reducible assumption | with_reducible refine Below.setCell ?_ (by first | omega | (simp <;> omega)) _ | with_reducible refine balloc ?_ _ | with_reducible refine Below.drew ?_ | with_reducible refine bstep ?_ (by with_reducible assumption)))
      have hs_w1 := hb.size; (try simp only [World.size_alloc, World.size_setCell] at hs_w1)
      clear hb
      go_wp2_with fail
      refine Calls.mono (Vx _) ?_
      rintro e w2 ⟨rfl, hb⟩
      replace kx0 := cell_later hb kx0
      replace kx1 := cell_later hb kx1
      replace kp0 := cell_later hb kp0
      replace kp1 := cell_later hb kp1
      replace zx : w.heap.size < w2.heap.size := World.block_lt_of_cell? _ _ kx0
      have zx_w2 := zx
      replace zp : w.heap.size + 1 < w2.heap.size := World.block_lt_of_cell? _ _ kp0
      have zp_w2 := zp
      replace hb0 : Below w.heap.size w w2 := (by repeat (first | with_reducible exact Below.refl _ _ | with_reducible assumption | with_reducible refine Below.setCell ?_ (by first | omega | (simp <;> omega)) _ | with_reducible refine balloc ?_ _ | with_reducible refine Below.drew ?_ | with_reducible refine bstep ?_ (by with_reducible assumption)))
      have hs_w2 : w1.heap.size ≤ w2.heap.size := hb.size
      clear hb
      go_wp2_with fail
      refine Calls.mono (Vp _) ?_
      rintro e w3 ⟨rfl, hb⟩
      replace kx0 := cell_later hb kx0
      replace kx1 := cell_later hb kx1
      replace kp0 := cell_later hb kp0
      replace kp1 := cell_later hb kp1
      replace zx : w.heap.size < w3.heap.size := World.block_lt_of_cell? _ _ kx0
      have zx_w3 := zx
      replace zp : w.heap.size + 1 < w3.heap.size := World.block_lt_of_cell? _ _ kp0
      have zp_w3 := zp
      replace hb0 : Below w.heap.size w w3 := (by repeat (first | with_reducible exact Below.refl _ _ | with_reducible assumption | with_reducible refine Below.setCell ?_ (by first | omega | (simp <;> omega)) _ | with_reducible refine balloc ?_ _ | with_reducible refine Below.drew ?_ | with_reducible refine bstep ?_ (by with_reducible assumption)))
      have hs_w3 : w2.heap.size ≤ w3.heap.size := hb.size
      clear hb
      go_wp2
      go_ret2
      exact ⟨rfl, (by repeat (first | with_reducible exact Below.refl _ _ | with_reducible assumption | with_reducible refine Below.setCell ?_ (by first | omega | (simp <;> omega)) _ | with_reducible refine balloc ?_ _ | with_reducible refine Below.drew ?_ | with_reducible refine bstep ?_ (by with_reducible assumption)))⟩


end Go.Proofs.Ytpadkmlckmopfaa.Se

/- L5TurnW: the law Turning. -/
import Derived.Test.YtfhhocihlkgfjaaSecT
import Derived.Test.YtfhhocihlkgfjaaSecW
import Derived.Test.YtfhhocihlkgfjaaRows
import Derived.WalkKit
import Derived.WalkSpells
import Derived.WalkLawsBesides
import Derived.Lib.Hide
import Derived.Deep.QuietTactic
import Derived.BigQuiet
import Derived.RegionTactic
import Derived.ChangeAlike
import Derived.BigRegion
import Derived.Deep.RegionHeld3
import Derived.Deep.RegionWith
import Derived.Outline
import Derived.IntWalk
import Derived.Deep.DeepCutAuto
namespace Go.Proofs.Ytfhhocihlkgfjaa.Se
open Go.RowKit
set_option linter.unusedSimpArgs false
set_option linter.unusedVariables false

theorem cmp_mul_pos {x n : Int} (h : 0 < n) : cmp (n * x) 0 = cmp x 0 := by
  rcases cmp_cases x 0 with ⟨a, e⟩ | ⟨a, e⟩ | ⟨a, e⟩
  · have := Int.mul_neg_of_pos_of_neg h a
    rw [e]; unfold cmp; rw [if_pos this]
  · subst a; simp
  · have := Int.mul_pos h a
    rw [e]; unfold cmp; rw [if_neg (by omega), if_pos this]
theorem half_scale {n : Int} (h : 0 < n) (v : V) : halfV (n * v.1, n * v.2) = halfV v := by
  have a : 0 < n * v.2 ↔ 0 < v.2 := ⟨fun k => by
    rcases Int.lt_or_le 0 v.2 with g | g
    · exact g
    · have := Int.mul_nonpos_of_nonneg_of_nonpos (Int.le_of_lt h) g; omega, fun k => Int.mul_pos h k⟩
  have b : 0 < n * v.1 ↔ 0 < v.1 := ⟨fun k => by
    rcases Int.lt_or_le 0 v.1 with g | g
    · exact g
    · have := Int.mul_nonpos_of_nonneg_of_nonpos (Int.le_of_lt h) g; omega, fun k => Int.mul_pos h k⟩
  have c : n * v.2 = 0 ↔ v.2 = 0 := ⟨fun k => by rcases Int.mul_eq_zero.1 k with g | g <;> omega, fun k => by rw [k]; simp⟩
  unfold halfV
  simp only [a, b, c]
theorem cmV_scale {m n : Int} (hm : 0 < m) (hn : 0 < n) (d e : V) : cmV (m * d.1, m * d.2) (n * e.1, n * e.2) = cmV d e := by
  unfold cmV
  rw [half_scale hm, half_scale hn]
  have : crV (n * e.1, n * e.2) (m * d.1, m * d.2) = (n * m) * crV e d := by simp only [crV]; grind
  rw [this, cmp_mul_pos (Int.mul_pos hn hm)]
theorem has_scale (a b v : V) : hasV (3 * a.1, 3 * a.2) b (2 * v.1, 2 * v.2) = hasV a b v := by
  have h1 := cmV_scale (m := 3) (n := 1) (by omega) (by omega) a b
  have h2 := cmV_scale (m := 3) (n := 2) (by omega) (by omega) a v
  have h3 := cmV_scale (m := 1) (n := 2) (by omega) (by omega) b v
  simp only [Int.one_mul] at h1 h3
  unfold hasV
  rw [h1, h2, h3]
/-- Exactly one of two sectors that turn has a direction. -/
theorem turn_facts {a b : V} (v : V) (ha : a ≠ (0, 0)) (hb : b ≠ (0, 0)) (hv : v ≠ (0, 0)) :
    hasV a b a = true ∧ hasV b a a = hasV a b b ∧ (hasV a b b = false → hasV b a v = !hasV a b v) ∧ (hasV a b b = true → hasV a b v = true ∧ hasV b a v = true) := by
  have e1 := cmV_anti a b
  have e2 := cmV_self a
  have e3 := cmV_self b
  have bd := cmV_bd a b
  have t1 := cmV_trans ha hb hv
  have t2 := cmV_trans hb ha hv
  unfold hasV
  rw [e2, e3, e1]
  rw [e1] at t2
  generalize cmV a b = p at *
  generalize cmV a v = q at *
  generalize cmV b v = r at *
  have key : p < 0 ∨ p = 0 ∨ 0 < p := by omega
  refine ⟨?_, ?_, ?_, ?_⟩
  · split <;> simp <;> omega
  · rcases key with h | h | h
    · have n1 : ¬ (-p < 0) := by omega
      simp only [if_pos h, if_neg n1]
      simp; omega
    · subst h; simp
    · have n1 : ¬ (p < 0) := by omega
      have n2 : -p < 0 := by omega
      simp only [if_pos n2, if_neg n1]
      simp; omega
  · intro h
    rcases key with g | g | g
    · have n1 : ¬ (-p < 0) := by omega
      simp only [if_pos g, if_neg n1]
      cases decide (q ≤ 0) <;> cases decide (r ≤ 0) <;> rfl
    · subst g; simp at h
    · have n1 : ¬ (p < 0) := by omega
      have n2 : -p < 0 := by omega
      simp only [if_pos n2, if_neg n1]
      cases decide (q ≤ 0) <;> cases decide (r ≤ 0) <;> rfl
  · intro h
    rcases key with g | g | g
    · rw [if_pos g] at h; simp at h
    · subst g
      have hqr : q ≤ 0 ↔ r ≤ 0 := ⟨fun k => t2 (by omega) k, fun k => t1 (by omega) k⟩
      by_cases k : q ≤ 0
      · have k2 := hqr.1 k
        simp [k, k2]
      · have k2 : ¬ (r ≤ 0) := fun k2 => k (hqr.2 k2)
        simp [k, k2]
    · have n1 : ¬ (p < 0) := by omega
      rw [if_neg n1] at h; simp at h; omega

def wiB (p : V) (n : Int) : Bool := decide (-n ≤ p.1) && (decide (p.1 ≤ n) && (decide (-n ≤ p.2) && decide (p.2 ≤ n)))
theorem wiB_iff {p : V} {n : Int} : wiB p n = true ↔ (-n ≤ p.1 ∧ p.1 ≤ n) ∧ -n ≤ p.2 ∧ p.2 ≤ n := by simp [wiB]; omega
set_option maxHeartbeats 800000 in
theorem within_c (p1 p2 : Int) (n : Int) (w : World) (hn : 0 ≤ n ∧ n ≤ 1000000) : Calls Try.prog 28 #[(.agg #[.int .i64 p1, .int .i64 p2]), (.int .i64 n)] w (Ret w (.bool (wiB (p1, p2) n))) := by
  obtain ⟨h1, h2⟩ := hn
  go_enter Try.func28, Try.ntmps28
  go_wp2
  all_goals
    go_ret
    refine ret_bool ?_ (by repeat (first | with_reducible exact Below.refl _ _ | with_reducible assumption | with_reducible refine Below.setCell ?_ (by first | omega | (simp <;> omega)) _ | with_reducible refine balloc ?_ _ | with_reducible refine Below.drew ?_ | with_reducible refine bstep ?_ (by with_reducible assumption)))
    rw [wiB_iff]
    simp <;> omega

set_option maxRecDepth 100000 in
set_option maxHeartbeats 12800000 in
theorem turning_walk (a1 a2 b1 b2 v1 v2 : Int) (w : World) (HEAD : ∀ w, Calls Try.prog 11 #[] w (Ret w (.bool true))) : Calls Try.prog 4 #[(.agg #[.int .i64 a1, .int .i64 a2]), (.agg #[.int .i64 b1, .int .i64 b2]), (.agg #[.int .i64 v1, .int .i64 v2])] w (Ret w (.bool true)) := by
  by_cases hval : (okD (a1, a2) && (okD (b1, b2) && okD (v1, v2))) = true
  · simp only [Bool.and_eq_true] at hval
    obtain ⟨ha, hb, hv⟩ := hval
    obtain ⟨f1, f2, f3, f4⟩ := turn_facts (v1, v2) (okD_iff.1 ha).1 (okD_iff.1 hb).1 (okD_iff.1 hv).1
    have N1 : ∀ w, Calls Try.prog 14 #[.agg #[(.int .i64 a1), (.int .i64 a2), (.int .i64 b1), (.int .i64 b2), (.int .i64 1), (.int .i64 1)], .agg #[(.int .i64 v1), (.int .i64 v2)]] w (Ret w (.tuple #[(.bool (hasV (a1, a2) (b1, b2) (v1, v2))), (.int .i64 0)])) := fun w => by have := In_ok a1 a2 b1 b2 1 1 v1 v2 w (by simp [vaS, Sec.fr, Sec.to, ha, hb, btB]) hv; rwa [show hasS ⟨a1, a2, b1, b2, 1, 1⟩ (v1, v2) = hasV (a1, a2) (b1, b2) (v1, v2) from rfl] at this
    have N3 : ∀ w, Calls Try.prog 14 #[.agg #[(.int .i64 a1), (.int .i64 a2), (.int .i64 b1), (.int .i64 b2), (.int .i64 1), (.int .i64 1)], .agg #[(.int .i64 a1), (.int .i64 a2)]] w (Ret w (.tuple #[(.bool true), (.int .i64 0)])) := fun w => by have := In_ok a1 a2 b1 b2 1 1 a1 a2 w (by simp [vaS, Sec.fr, Sec.to, ha, hb, btB]) ha; rwa [show hasS ⟨a1, a2, b1, b2, 1, 1⟩ (a1, a2) = true from f1] at this
    have N4 : ∀ w, Calls Try.prog 14 #[.agg #[(.int .i64 a1), (.int .i64 a2), (.int .i64 b1), (.int .i64 b2), (.int .i64 1), (.int .i64 1)], .agg #[(.int .i64 b1), (.int .i64 b2)]] w (Ret w (.tuple #[(.bool (hasV (a1, a2) (b1, b2) (b1, b2))), (.int .i64 0)])) := fun w => by have := In_ok a1 a2 b1 b2 1 1 b1 b2 w (by simp [vaS, Sec.fr, Sec.to, ha, hb, btB]) hb; rwa [show hasS ⟨a1, a2, b1, b2, 1, 1⟩ (b1, b2) = hasV (a1, a2) (b1, b2) (b1, b2) from rfl] at this
    have N5 : ∀ w, Calls Try.prog 14 #[.agg #[(.int .i64 b1), (.int .i64 b2), (.int .i64 a1), (.int .i64 a2), (.int .i64 1), (.int .i64 1)], .agg #[(.int .i64 a1), (.int .i64 a2)]] w (Ret w (.tuple #[(.bool (hasV (a1, a2) (b1, b2) (b1, b2))), (.int .i64 0)])) := fun w => by have := In_ok b1 b2 a1 a2 1 1 a1 a2 w (by simp [vaS, Sec.fr, Sec.to, ha, hb, btB]) ha; rwa [show hasS ⟨b1, b2, a1, a2, 1, 1⟩ (a1, a2) = hasV (a1, a2) (b1, b2) (b1, b2) from f2] at this
    have N2 : ∀ w, Calls Try.prog 14 #[.agg #[(.int .i64 b1), (.int .i64 b2), (.int .i64 a1), (.int .i64 a2), (.int .i64 1), (.int .i64 1)], .agg #[(.int .i64 v1), (.int .i64 v2)]] w (Ret w (.tuple #[(.bool (hasV (b1, b2) (a1, a2) (v1, v2))), (.int .i64 0)])) := fun w => by have := In_ok b1 b2 a1 a2 1 1 v1 v2 w (by simp [vaS, Sec.fr, Sec.to, ha, hb, btB]) hv; rwa [show hasS ⟨b1, b2, a1, a2, 1, 1⟩ (v1, v2) = hasV (b1, b2) (a1, a2) (v1, v2) from rfl] at this
    have hS := has_scale (a1, a2) (b1, b2) (v1, v2)
    dsimp only at hS
    generalize hasV (b1, b2) (a1, a2) (v1, v2) = y at *
    generalize hasV (a1, a2) (b1, b2) (b1, b2) = t at *
    clear f1 f2
    have N6 : wiB (a1, a2) 1000 = true → wiB (v1, v2) 1000 = true → ∀ w, Calls Try.prog 14 #[.agg #[(.int .i64 ((3 * a1))), (.int .i64 ((3 * a2))), (.int .i64 b1), (.int .i64 b2), (.int .i64 1), (.int .i64 1)], .agg #[(.int .i64 ((2 * v1))), (.int .i64 ((2 * v2)))]] w (Ret w (.tuple #[(.bool (hasV (a1, a2) (b1, b2) (v1, v2))), (.int .i64 0)])) := fun h1 h2 w => by
      have k1 := wiB_iff.1 h1
      have k2 := wiB_iff.1 h2
      dsimp only at k1 k2
      have z1 := (okD_iff.1 ha).1
      have z2 := (okD_iff.1 hv).1
      have n1 : ¬ (a1 = 0 ∧ a2 = 0) := fun h => z1 (Prod.ext h.1 h.2)
      have n2 : ¬ (v1 = 0 ∧ v2 = 0) := fun h => z2 (Prod.ext h.1 h.2)
      have o1 : okD (3 * a1, 3 * a2) = true := okD_iff.2 ⟨fun h => n1 (by have e1 := congrArg Prod.fst h; have e2 := congrArg Prod.snd h; dsimp only at e1 e2; omega), by dsimp only; omega, by dsimp only; omega⟩
      have o2 : okD (2 * v1, 2 * v2) = true := okD_iff.2 ⟨fun h => n2 (by have e1 := congrArg Prod.fst h; have e2 := congrArg Prod.snd h; dsimp only at e1 e2; omega), by dsimp only; omega, by dsimp only; omega⟩
      have := In_ok (3 * a1) (3 * a2) b1 b2 1 1 (2 * v1) (2 * v2) w (by simp [vaS, Sec.fr, Sec.to, o1, hb, btB]) o2
      rwa [show hasS ⟨3 * a1, 3 * a2, b1, b2, 1, 1⟩ (2 * v1, 2 * v2) = hasV (a1, a2) (b1, b2) (v1, v2) from hS] at this
    generalize hasV (a1, a2) (b1, b2) (v1, v2) = x at *
    have U1 := fun w => within_c a1 a2 1000 w (by omega)
    have U2 := fun w => within_c b1 b2 1000 w (by omega)
    have U3 := fun w => within_c v1 v2 1000 w (by omega)
    have B1 : wiB (a1, a2) 1000 = true → (IntKind.i64.wrap (3 * a1) = 3 * a1 ∧ wrap64 (3 * a1) = 3 * a1) ∧ IntKind.i64.wrap (3 * a2) = 3 * a2 ∧ wrap64 (3 * a2) = 3 * a2 := fun h => by have k1 := wiB_iff.1 h; dsimp only at k1; exact ⟨⟨IntWalk.i64_in _ (by omega), IntWalk.wrap64_in _ (by omega)⟩, IntWalk.i64_in _ (by omega), IntWalk.wrap64_in _ (by omega)⟩
    have B2 : wiB (v1, v2) 1000 = true → (IntKind.i64.wrap (2 * v1) = 2 * v1 ∧ wrap64 (2 * v1) = 2 * v1) ∧ IntKind.i64.wrap (2 * v2) = 2 * v2 ∧ wrap64 (2 * v2) = 2 * v2 := fun h => by have k1 := wiB_iff.1 h; dsimp only at k1; exact ⟨⟨IntWalk.i64_in _ (by omega), IntWalk.wrap64_in _ (by omega)⟩, IntWalk.i64_in _ (by omega), IntWalk.wrap64_in _ (by omega)⟩
    generalize wiB (a1, a2) 1000 = u1 at *
    generalize wiB (b1, b2) 1000 = u2 at *
    generalize wiB (v1, v2) 1000 = u3 at *
    have HN1 := Lib.hid N1
    have HN2 := Lib.hid N2
    have HN3 := Lib.hid N3
    have HN4 := Lib.hid N4
    have HN5 := Lib.hid N5
    have HN6 := Lib.hid N6
    have HU1 := Lib.hid U1
    have HU2 := Lib.hid U2
    have HU3 := Lib.hid U3
    have HB1 := Lib.hid B1
    have HB2 := Lib.hid B2
    clear N1 N2 N3 N4 N5 N6 U1 U2 U3 B1 B2 hS ha hb hv
    cases t
    · have hy := f3 rfl
      clear f3 f4
      subst hy
      go_enter Try.func4, Try.ntmps4
      go_wp2_with fail
      refine Calls.mono (HEAD _) ?_
      rintro e w1 ⟨rfl, hb⟩
      have ka0 : w1.cell? ⟨w.heap.size, 0, none⟩ = some (.int .i64 a1) := cell_later hb (by go_simp)
      have ka1 : w1.cell? ⟨w.heap.size, 1, none⟩ = some (.int .i64 a2) := cell_later hb (by go_simp)
      have kb0 : w1.cell? ⟨w.heap.size + 1, 0, none⟩ = some (.int .i64 b1) := cell_later hb (by go_simp)
      have kb1 : w1.cell? ⟨w.heap.size + 1, 1, none⟩ = some (.int .i64 b2) := cell_later hb (by go_simp)
      have kv0 : w1.cell? ⟨w.heap.size + 1 + 1, 0, none⟩ = some (.int .i64 v1) := cell_later hb (by go_simp)
      have kv1 : w1.cell? ⟨w.heap.size + 1 + 1, 1, none⟩ = some (.int .i64 v2) := cell_later hb (by go_simp)
      have za : w.heap.size < w1.heap.size := World.block_lt_of_cell? _ _ ka0
      have za_w1 := za
      have zb : w.heap.size + 1 < w1.heap.size := World.block_lt_of_cell? _ _ kb0
      have zb_w1 := zb
      have zv : w.heap.size + 1 + 1 < w1.heap.size := World.block_lt_of_cell? _ _ kv0
      have zv_w1 := zv
      have hb0 : Below w.heap.size w w1 := (by repeat (first | with_reducible exact Below.refl _ _ | with_reducible assumption | with_reducible refine Below.setCell ?_ (by first | omega | (simp <;> omega)) _ | with_reducible refine balloc ?_ _ | with_reducible refine Below.drew ?_ | with_reducible refine bstep ?_ (by with_reducible assumption)))
      have hs_w1 := hb.size; (try simp only [World.size_alloc, World.size_setCell] at hs_w1)
      clear hb
      go_wp2_with fail
      refine Calls.mono (arc_c 1 1 a1 a2 b1 b2 _) ?_
      rintro e w2 ⟨rfl, hb⟩
      replace ka0 := cell_later hb ka0
      replace ka1 := cell_later hb ka1
      replace kb0 := cell_later hb kb0
      replace kb1 := cell_later hb kb1
      replace kv0 := cell_later hb kv0
      replace kv1 := cell_later hb kv1
      replace za : w.heap.size < w2.heap.size := World.block_lt_of_cell? _ _ ka0
      have za_w2 := za
      replace zb : w.heap.size + 1 < w2.heap.size := World.block_lt_of_cell? _ _ kb0
      have zb_w2 := zb
      replace zv : w.heap.size + 1 + 1 < w2.heap.size := World.block_lt_of_cell? _ _ kv0
      have zv_w2 := zv
      replace hb0 : Below w.heap.size w w2 := (by repeat (first | with_reducible exact Below.refl _ _ | with_reducible assumption | with_reducible refine Below.setCell ?_ (by first | omega | (simp <;> omega)) _ | with_reducible refine balloc ?_ _ | with_reducible refine Below.drew ?_ | with_reducible refine bstep ?_ (by with_reducible assumption)))
      have hs_w2 : w1.heap.size ≤ w2.heap.size := hb.size
      clear hb
      go_wp2_with fail
      refine Calls.mono (arc_c 1 1 b1 b2 a1 a2 _) ?_
      rintro e w3 ⟨rfl, hb⟩
      replace ka0 := cell_later hb (cell_al _ ka0)
      replace ka1 := cell_later hb (cell_al _ ka1)
      replace kb0 := cell_later hb (cell_al _ kb0)
      replace kb1 := cell_later hb (cell_al _ kb1)
      replace kv0 := cell_later hb (cell_al _ kv0)
      replace kv1 := cell_later hb (cell_al _ kv1)
      have ko0 : w3.cell? ⟨w2.heap.size, 0, none⟩ = some (.int .i64 a1) := cell_later hb (by go_simp)
      have ko1 : w3.cell? ⟨w2.heap.size, 1, none⟩ = some (.int .i64 a2) := cell_later hb (by go_simp)
      have ko2 : w3.cell? ⟨w2.heap.size, 2, none⟩ = some (.int .i64 b1) := cell_later hb (by go_simp)
      have ko3 : w3.cell? ⟨w2.heap.size, 3, none⟩ = some (.int .i64 b2) := cell_later hb (by go_simp)
      have ko4 : w3.cell? ⟨w2.heap.size, 4, none⟩ = some (.int .i64 1) := cell_later hb (by go_simp)
      have ko5 : w3.cell? ⟨w2.heap.size, 5, none⟩ = some (.int .i64 1) := cell_later hb (by go_simp)
      replace za : w.heap.size < w3.heap.size := World.block_lt_of_cell? _ _ ka0
      have za_w3 := za
      replace zb : w.heap.size + 1 < w3.heap.size := World.block_lt_of_cell? _ _ kb0
      have zb_w3 := zb
      replace zv : w.heap.size + 1 + 1 < w3.heap.size := World.block_lt_of_cell? _ _ kv0
      have zv_w3 := zv
      have zo : w2.heap.size < w3.heap.size := World.block_lt_of_cell? _ _ ko0
      have zo_w3 := zo
      replace hb0 : Below w.heap.size w w3 := (by repeat (first | with_reducible exact Below.refl _ _ | with_reducible assumption | with_reducible refine Below.setCell ?_ (by first | omega | (simp <;> omega)) _ | with_reducible refine balloc ?_ _ | with_reducible refine Below.drew ?_ | with_reducible refine bstep ?_ (by with_reducible assumption)))
      have hs_w3 := hb.size; (try simp only [World.size_alloc, World.size_setCell] at hs_w3)
      clear hb
      go_wp2_with fail
      refine Calls.mono (HN1.out _) ?_
      rintro e w4 ⟨rfl, hb⟩
      replace ka0 := cell_later hb (cell_al _ ka0)
      replace ka1 := cell_later hb (cell_al _ ka1)
      replace kb0 := cell_later hb (cell_al _ kb0)
      replace kb1 := cell_later hb (cell_al _ kb1)
      replace kv0 := cell_later hb (cell_al _ kv0)
      replace kv1 := cell_later hb (cell_al _ kv1)
      replace ko0 := cell_later hb (cell_al _ ko0)
      replace ko1 := cell_later hb (cell_al _ ko1)
      replace ko2 := cell_later hb (cell_al _ ko2)
      replace ko3 := cell_later hb (cell_al _ ko3)
      replace ko4 := cell_later hb (cell_al _ ko4)
      replace ko5 := cell_later hb (cell_al _ ko5)
      have kt0 : w4.cell? ⟨w3.heap.size, 0, none⟩ = some (.int .i64 b1) := cell_later hb (by go_simp)
      have kt1 : w4.cell? ⟨w3.heap.size, 1, none⟩ = some (.int .i64 b2) := cell_later hb (by go_simp)
      have kt2 : w4.cell? ⟨w3.heap.size, 2, none⟩ = some (.int .i64 a1) := cell_later hb (by go_simp)
      have kt3 : w4.cell? ⟨w3.heap.size, 3, none⟩ = some (.int .i64 a2) := cell_later hb (by go_simp)
      have kt4 : w4.cell? ⟨w3.heap.size, 4, none⟩ = some (.int .i64 1) := cell_later hb (by go_simp)
      have kt5 : w4.cell? ⟨w3.heap.size, 5, none⟩ = some (.int .i64 1) := cell_later hb (by go_simp)
      replace za : w.heap.size < w4.heap.size := World.block_lt_of_cell? _ _ ka0
      have za_w4 := za
      replace zb : w.heap.size + 1 < w4.heap.size := World.block_lt_of_cell? _ _ kb0
      have zb_w4 := zb
      replace zv : w.heap.size + 1 + 1 < w4.heap.size := World.block_lt_of_cell? _ _ kv0
      have zv_w4 := zv
      replace zo : w2.heap.size < w4.heap.size := World.block_lt_of_cell? _ _ ko0
      have zo_w4 := zo
      have zt : w3.heap.size < w4.heap.size := World.block_lt_of_cell? _ _ kt0
      have zt_w4 := zt
      replace hb0 : Below w.heap.size w w4 := (by repeat (first | with_reducible exact Below.refl _ _ | with_reducible assumption | with_reducible refine Below.setCell ?_ (by first | omega | (simp <;> omega)) _ | with_reducible refine balloc ?_ _ | with_reducible refine Below.drew ?_ | with_reducible refine bstep ?_ (by with_reducible assumption)))
      have hs_w4 := hb.size; (try simp only [World.size_alloc, World.size_setCell] at hs_w4)
      clear hb
      go_wp2_with fail
      refine Calls.mono (HN2.out _) ?_
      rintro e w5 ⟨rfl, hb⟩
      replace ka0 := cell_later hb ka0
      replace ka1 := cell_later hb ka1
      replace kb0 := cell_later hb kb0
      replace kb1 := cell_later hb kb1
      replace kv0 := cell_later hb kv0
      replace kv1 := cell_later hb kv1
      replace ko0 := cell_later hb ko0
      replace ko1 := cell_later hb ko1
      replace ko2 := cell_later hb ko2
      replace ko3 := cell_later hb ko3
      replace ko4 := cell_later hb ko4
      replace ko5 := cell_later hb ko5
      replace kt0 := cell_later hb kt0
      replace kt1 := cell_later hb kt1
      replace kt2 := cell_later hb kt2
      replace kt3 := cell_later hb kt3
      replace kt4 := cell_later hb kt4
      replace kt5 := cell_later hb kt5
      replace za : w.heap.size < w5.heap.size := World.block_lt_of_cell? _ _ ka0
      have za_w5 := za
      replace zb : w.heap.size + 1 < w5.heap.size := World.block_lt_of_cell? _ _ kb0
      have zb_w5 := zb
      replace zv : w.heap.size + 1 + 1 < w5.heap.size := World.block_lt_of_cell? _ _ kv0
      have zv_w5 := zv
      replace zo : w2.heap.size < w5.heap.size := World.block_lt_of_cell? _ _ ko0
      have zo_w5 := zo
      replace zt : w3.heap.size < w5.heap.size := World.block_lt_of_cell? _ _ kt0
      have zt_w5 := zt
      replace hb0 : Below w.heap.size w w5 := (by repeat (first | with_reducible exact Below.refl _ _ | with_reducible assumption | with_reducible refine Below.setCell ?_ (by first | omega | (simp <;> omega)) _ | with_reducible refine balloc ?_ _ | with_reducible refine Below.drew ?_ | with_reducible refine bstep ?_ (by with_reducible assumption)))
      have hs_w5 : w4.heap.size ≤ w5.heap.size := hb.size
      clear hb
      go_wp2_with fail
      refine Calls.mono (HN3.out _) ?_
      rintro e w6 ⟨rfl, hb⟩
      replace ka0 := cell_later hb ka0
      replace ka1 := cell_later hb ka1
      replace kb0 := cell_later hb kb0
      replace kb1 := cell_later hb kb1
      replace kv0 := cell_later hb kv0
      replace kv1 := cell_later hb kv1
      replace ko0 := cell_later hb ko0
      replace ko1 := cell_later hb ko1
      replace ko2 := cell_later hb ko2
      replace ko3 := cell_later hb ko3
      replace ko4 := cell_later hb ko4
      replace ko5 := cell_later hb ko5
      replace kt0 := cell_later hb kt0
      replace kt1 := cell_later hb kt1
      replace kt2 := cell_later hb kt2
      replace kt3 := cell_later hb kt3
      replace kt4 := cell_later hb kt4
      replace kt5 := cell_later hb kt5
      replace za : w.heap.size < w6.heap.size := World.block_lt_of_cell? _ _ ka0
      have za_w6 := za
      replace zb : w.heap.size + 1 < w6.heap.size := World.block_lt_of_cell? _ _ kb0
      have zb_w6 := zb
      replace zv : w.heap.size + 1 + 1 < w6.heap.size := World.block_lt_of_cell? _ _ kv0
      have zv_w6 := zv
      replace zo : w2.heap.size < w6.heap.size := World.block_lt_of_cell? _ _ ko0
      have zo_w6 := zo
      replace zt : w3.heap.size < w6.heap.size := World.block_lt_of_cell? _ _ kt0
      have zt_w6 := zt
      replace hb0 : Below w.heap.size w w6 := (by repeat (first | with_reducible exact Below.refl _ _ | with_reducible assumption | with_reducible refine Below.setCell ?_ (by first | omega | (simp <;> omega)) _ | with_reducible refine balloc ?_ _ | with_reducible refine Below.drew ?_ | with_reducible refine bstep ?_ (by with_reducible assumption)))
      have hs_w6 : w5.heap.size ≤ w6.heap.size := hb.size
      clear hb
      go_wp2_with fail
      refine Calls.mono (HN4.out _) ?_
      rintro e w7 ⟨rfl, hb⟩
      replace ka0 := cell_later hb ka0
      replace ka1 := cell_later hb ka1
      replace kb0 := cell_later hb kb0
      replace kb1 := cell_later hb kb1
      replace kv0 := cell_later hb kv0
      replace kv1 := cell_later hb kv1
      replace ko0 := cell_later hb ko0
      replace ko1 := cell_later hb ko1
      replace ko2 := cell_later hb ko2
      replace ko3 := cell_later hb ko3
      replace ko4 := cell_later hb ko4
      replace ko5 := cell_later hb ko5
      replace kt0 := cell_later hb kt0
      replace kt1 := cell_later hb kt1
      replace kt2 := cell_later hb kt2
      replace kt3 := cell_later hb kt3
      replace kt4 := cell_later hb kt4
      replace kt5 := cell_later hb kt5
      replace za : w.heap.size < w7.heap.size := World.block_lt_of_cell? _ _ ka0
      have za_w7 := za
      replace zb : w.heap.size + 1 < w7.heap.size := World.block_lt_of_cell? _ _ kb0
      have zb_w7 := zb
      replace zv : w.heap.size + 1 + 1 < w7.heap.size := World.block_lt_of_cell? _ _ kv0
      have zv_w7 := zv
      replace zo : w2.heap.size < w7.heap.size := World.block_lt_of_cell? _ _ ko0
      have zo_w7 := zo
      replace zt : w3.heap.size < w7.heap.size := World.block_lt_of_cell? _ _ kt0
      have zt_w7 := zt
      replace hb0 : Below w.heap.size w w7 := (by repeat (first | with_reducible exact Below.refl _ _ | with_reducible assumption | with_reducible refine Below.setCell ?_ (by first | omega | (simp <;> omega)) _ | with_reducible refine balloc ?_ _ | with_reducible refine Below.drew ?_ | with_reducible refine bstep ?_ (by with_reducible assumption)))
      have hs_w7 : w6.heap.size ≤ w7.heap.size := hb.size
      clear hb
      go_wp2_with fail
      refine Calls.mono (HN5.out _) ?_
      rintro e w8 ⟨rfl, hb⟩
      replace ka0 := cell_later hb ka0
      replace ka1 := cell_later hb ka1
      replace kb0 := cell_later hb kb0
      replace kb1 := cell_later hb kb1
      replace kv0 := cell_later hb kv0
      replace kv1 := cell_later hb kv1
      replace ko0 := cell_later hb ko0
      replace ko1 := cell_later hb ko1
      replace ko2 := cell_later hb ko2
      replace ko3 := cell_later hb ko3
      replace ko4 := cell_later hb ko4
      replace ko5 := cell_later hb ko5
      replace kt0 := cell_later hb kt0
      replace kt1 := cell_later hb kt1
      replace kt2 := cell_later hb kt2
      replace kt3 := cell_later hb kt3
      replace kt4 := cell_later hb kt4
      replace kt5 := cell_later hb kt5
      replace za : w.heap.size < w8.heap.size := World.block_lt_of_cell? _ _ ka0
      have za_w8 := za
      replace zb : w.heap.size + 1 < w8.heap.size := World.block_lt_of_cell? _ _ kb0
      have zb_w8 := zb
      replace zv : w.heap.size + 1 + 1 < w8.heap.size := World.block_lt_of_cell? _ _ kv0
      have zv_w8 := zv
      replace zo : w2.heap.size < w8.heap.size := World.block_lt_of_cell? _ _ ko0
      have zo_w8 := zo
      replace zt : w3.heap.size < w8.heap.size := World.block_lt_of_cell? _ _ kt0
      have zt_w8 := zt
      replace hb0 : Below w.heap.size w w8 := (by repeat (first | with_reducible exact Below.refl _ _ | with_reducible assumption | with_reducible refine Below.setCell ?_ (by first | omega | (simp <;> omega)) _ | with_reducible refine balloc ?_ _ | with_reducible refine Below.drew ?_ | with_reducible refine bstep ?_ (by with_reducible assumption)))
      have hs_w8 : w7.heap.size ≤ w8.heap.size := hb.size
      clear hb
      cases u1
      · skip
        go_wp2_with fail
        refine Calls.mono (HU1.out _) ?_
        rintro e w9 ⟨rfl, hb⟩
        replace ka0 := cell_later hb ka0
        replace ka1 := cell_later hb ka1
        replace kb0 := cell_later hb kb0
        replace kb1 := cell_later hb kb1
        replace kv0 := cell_later hb kv0
        replace kv1 := cell_later hb kv1
        replace ko0 := cell_later hb ko0
        replace ko1 := cell_later hb ko1
        replace ko2 := cell_later hb ko2
        replace ko3 := cell_later hb ko3
        replace ko4 := cell_later hb ko4
        replace ko5 := cell_later hb ko5
        replace kt0 := cell_later hb kt0
        replace kt1 := cell_later hb kt1
        replace kt2 := cell_later hb kt2
        replace kt3 := cell_later hb kt3
        replace kt4 := cell_later hb kt4
        replace kt5 := cell_later hb kt5
        replace za : w.heap.size < w9.heap.size := World.block_lt_of_cell? _ _ ka0
        have za_w9 := za
        replace zb : w.heap.size + 1 < w9.heap.size := World.block_lt_of_cell? _ _ kb0
        have zb_w9 := zb
        replace zv : w.heap.size + 1 + 1 < w9.heap.size := World.block_lt_of_cell? _ _ kv0
        have zv_w9 := zv
        replace zo : w2.heap.size < w9.heap.size := World.block_lt_of_cell? _ _ ko0
        have zo_w9 := zo
        replace zt : w3.heap.size < w9.heap.size := World.block_lt_of_cell? _ _ kt0
        have zt_w9 := zt
        replace hb0 : Below w.heap.size w w9 := (by repeat (first | with_reducible exact Below.refl _ _ | with_reducible assumption | with_reducible refine Below.setCell ?_ (by first | omega | (simp <;> omega)) _ | with_reducible refine balloc ?_ _ | with_reducible refine Below.drew ?_ | with_reducible refine bstep ?_ (by with_reducible assumption)))
        have hs_w9 : w8.heap.size ≤ w9.heap.size := hb.size
        clear hb
        go_wp2
        all_goals
          go_ret
          exact ret_bool (by simp) (by repeat (first | with_reducible exact Below.refl _ _ | with_reducible assumption | with_reducible refine Below.setCell ?_ (by first | omega | (simp <;> omega)) _ | with_reducible refine balloc ?_ _ | with_reducible refine Below.drew ?_ | with_reducible refine bstep ?_ (by with_reducible assumption)))
      · skip
        go_wp2_with fail
        refine Calls.mono (HU1.out _) ?_
        rintro e w9 ⟨rfl, hb⟩
        replace ka0 := cell_later hb ka0
        replace ka1 := cell_later hb ka1
        replace kb0 := cell_later hb kb0
        replace kb1 := cell_later hb kb1
        replace kv0 := cell_later hb kv0
        replace kv1 := cell_later hb kv1
        replace ko0 := cell_later hb ko0
        replace ko1 := cell_later hb ko1
        replace ko2 := cell_later hb ko2
        replace ko3 := cell_later hb ko3
        replace ko4 := cell_later hb ko4
        replace ko5 := cell_later hb ko5
        replace kt0 := cell_later hb kt0
        replace kt1 := cell_later hb kt1
        replace kt2 := cell_later hb kt2
        replace kt3 := cell_later hb kt3
        replace kt4 := cell_later hb kt4
        replace kt5 := cell_later hb kt5
        replace za : w.heap.size < w9.heap.size := World.block_lt_of_cell? _ _ ka0
        have za_w9 := za
        replace zb : w.heap.size + 1 < w9.heap.size := World.block_lt_of_cell? _ _ kb0
        have zb_w9 := zb
        replace zv : w.heap.size + 1 + 1 < w9.heap.size := World.block_lt_of_cell? _ _ kv0
        have zv_w9 := zv
        replace zo : w2.heap.size < w9.heap.size := World.block_lt_of_cell? _ _ ko0
        have zo_w9 := zo
        replace zt : w3.heap.size < w9.heap.size := World.block_lt_of_cell? _ _ kt0
        have zt_w9 := zt
        replace hb0 : Below w.heap.size w w9 := (by repeat (first | with_reducible exact Below.refl _ _ | with_reducible assumption | with_reducible refine Below.setCell ?_ (by first | omega | (simp <;> omega)) _ | with_reducible refine balloc ?_ _ | with_reducible refine Below.drew ?_ | with_reducible refine bstep ?_ (by with_reducible assumption)))
        have hs_w9 : w8.heap.size ≤ w9.heap.size := hb.size
        clear hb
        cases u2
        · skip
          go_wp2_with fail
          refine Calls.mono (HU2.out _) ?_
          rintro e w10 ⟨rfl, hb⟩
          replace ka0 := cell_later hb ka0
          replace ka1 := cell_later hb ka1
          replace kb0 := cell_later hb kb0
          replace kb1 := cell_later hb kb1
          replace kv0 := cell_later hb kv0
          replace kv1 := cell_later hb kv1
          replace ko0 := cell_later hb ko0
          replace ko1 := cell_later hb ko1
          replace ko2 := cell_later hb ko2
          replace ko3 := cell_later hb ko3
          replace ko4 := cell_later hb ko4
          replace ko5 := cell_later hb ko5
          replace kt0 := cell_later hb kt0
          replace kt1 := cell_later hb kt1
          replace kt2 := cell_later hb kt2
          replace kt3 := cell_later hb kt3
          replace kt4 := cell_later hb kt4
          replace kt5 := cell_later hb kt5
          replace za : w.heap.size < w10.heap.size := World.block_lt_of_cell? _ _ ka0
          have za_w10 := za
          replace zb : w.heap.size + 1 < w10.heap.size := World.block_lt_of_cell? _ _ kb0
          have zb_w10 := zb
          replace zv : w.heap.size + 1 + 1 < w10.heap.size := World.block_lt_of_cell? _ _ kv0
          have zv_w10 := zv
          replace zo : w2.heap.size < w10.heap.size := World.block_lt_of_cell? _ _ ko0
          have zo_w10 := zo
          replace zt : w3.heap.size < w10.heap.size := World.block_lt_of_cell? _ _ kt0
          have zt_w10 := zt
          replace hb0 : Below w.heap.size w w10 := (by repeat (first | with_reducible exact Below.refl _ _ | with_reducible assumption | with_reducible refine Below.setCell ?_ (by first | omega | (simp <;> omega)) _ | with_reducible refine balloc ?_ _ | with_reducible refine Below.drew ?_ | with_reducible refine bstep ?_ (by with_reducible assumption)))
          have hs_w10 : w9.heap.size ≤ w10.heap.size := hb.size
          clear hb
          go_wp2
          all_goals
            go_ret
            exact ret_bool (by simp) (by repeat (first | with_reducible exact Below.refl _ _ | with_reducible assumption | with_reducible refine Below.setCell ?_ (by first | omega | (simp <;> omega)) _ | with_reducible refine balloc ?_ _ | with_reducible refine Below.drew ?_ | with_reducible refine bstep ?_ (by with_reducible assumption)))
        · skip
          go_wp2_with fail
          refine Calls.mono (HU2.out _) ?_
          rintro e w10 ⟨rfl, hb⟩
          replace ka0 := cell_later hb ka0
          replace ka1 := cell_later hb ka1
          replace kb0 := cell_later hb kb0
          replace kb1 := cell_later hb kb1
          replace kv0 := cell_later hb kv0
          replace kv1 := cell_later hb kv1
          replace ko0 := cell_later hb ko0
          replace ko1 := cell_later hb ko1
          replace ko2 := cell_later hb ko2
          replace ko3 := cell_later hb ko3
          replace ko4 := cell_later hb ko4
          replace ko5 := cell_later hb ko5
          replace kt0 := cell_later hb kt0
          replace kt1 := cell_later hb kt1
          replace kt2 := cell_later hb kt2
          replace kt3 := cell_later hb kt3
          replace kt4 := cell_later hb kt4
          replace kt5 := cell_later hb kt5
          replace za : w.heap.size < w10.heap.size := World.block_lt_of_cell? _ _ ka0
          have za_w10 := za
          replace zb : w.heap.size + 1 < w10.heap.size := World.block_lt_of_cell? _ _ kb0
          have zb_w10 := zb
          replace zv : w.heap.size + 1 + 1 < w10.heap.size := World.block_lt_of_cell? _ _ kv0
          have zv_w10 := zv
          replace zo : w2.heap.size < w10.heap.size := World.block_lt_of_cell? _ _ ko0
          have zo_w10 := zo
          replace zt : w3.heap.size < w10.heap.size := World.block_lt_of_cell? _ _ kt0
          have zt_w10 := zt
          replace hb0 : Below w.heap.size w w10 := (by repeat (first | with_reducible exact Below.refl _ _ | with_reducible assumption | with_reducible refine Below.setCell ?_ (by first | omega | (simp <;> omega)) _ | with_reducible refine balloc ?_ _ | with_reducible refine Below.drew ?_ | with_reducible refine bstep ?_ (by with_reducible assumption)))
          have hs_w10 : w9.heap.size ≤ w10.heap.size := hb.size
          clear hb
          cases u3
          · skip
            go_wp2_with fail
            refine Calls.mono (HU3.out _) ?_
            rintro e w11 ⟨rfl, hb⟩
            replace ka0 := cell_later hb ka0
            replace ka1 := cell_later hb ka1
            replace kb0 := cell_later hb kb0
            replace kb1 := cell_later hb kb1
            replace kv0 := cell_later hb kv0
            replace kv1 := cell_later hb kv1
            replace ko0 := cell_later hb ko0
            replace ko1 := cell_later hb ko1
            replace ko2 := cell_later hb ko2
            replace ko3 := cell_later hb ko3
            replace ko4 := cell_later hb ko4
            replace ko5 := cell_later hb ko5
            replace kt0 := cell_later hb kt0
            replace kt1 := cell_later hb kt1
            replace kt2 := cell_later hb kt2
            replace kt3 := cell_later hb kt3
            replace kt4 := cell_later hb kt4
            replace kt5 := cell_later hb kt5
            replace za : w.heap.size < w11.heap.size := World.block_lt_of_cell? _ _ ka0
            have za_w11 := za
            replace zb : w.heap.size + 1 < w11.heap.size := World.block_lt_of_cell? _ _ kb0
            have zb_w11 := zb
            replace zv : w.heap.size + 1 + 1 < w11.heap.size := World.block_lt_of_cell? _ _ kv0
            have zv_w11 := zv
            replace zo : w2.heap.size < w11.heap.size := World.block_lt_of_cell? _ _ ko0
            have zo_w11 := zo
            replace zt : w3.heap.size < w11.heap.size := World.block_lt_of_cell? _ _ kt0
            have zt_w11 := zt
            replace hb0 : Below w.heap.size w w11 := (by repeat (first | with_reducible exact Below.refl _ _ | with_reducible assumption | with_reducible refine Below.setCell ?_ (by first | omega | (simp <;> omega)) _ | with_reducible refine balloc ?_ _ | with_reducible refine Below.drew ?_ | with_reducible refine bstep ?_ (by with_reducible assumption)))
            have hs_w11 : w10.heap.size ≤ w11.heap.size := hb.size
            clear hb
            go_wp2
            all_goals
              go_ret
              exact ret_bool (by simp) (by repeat (first | with_reducible exact Below.refl _ _ | with_reducible assumption | with_reducible refine Below.setCell ?_ (by first | omega | (simp <;> omega)) _ | with_reducible refine balloc ?_ _ | with_reducible refine Below.drew ?_ | with_reducible refine bstep ?_ (by with_reducible assumption)))
          · skip
            obtain ⟨⟨m1, m2⟩, m3, m4⟩ := HB1.out (by first | rfl | trivial)
            obtain ⟨⟨m5, m6⟩, m7, m8⟩ := HB2.out (by first | rfl | trivial)
            have N6 := HN6.out (by first | rfl | trivial) (by first | rfl | trivial)
            have HN7 := Lib.hid N6
            clear N6
            go_wp2_with fail
            refine Calls.mono (HU3.out _) ?_
            rintro e w11 ⟨rfl, hb⟩
            replace ka0 := cell_later hb ka0
            replace ka1 := cell_later hb ka1
            replace kb0 := cell_later hb kb0
            replace kb1 := cell_later hb kb1
            replace kv0 := cell_later hb kv0
            replace kv1 := cell_later hb kv1
            replace ko0 := cell_later hb ko0
            replace ko1 := cell_later hb ko1
            replace ko2 := cell_later hb ko2
            replace ko3 := cell_later hb ko3
            replace ko4 := cell_later hb ko4
            replace ko5 := cell_later hb ko5
            replace kt0 := cell_later hb kt0
            replace kt1 := cell_later hb kt1
            replace kt2 := cell_later hb kt2
            replace kt3 := cell_later hb kt3
            replace kt4 := cell_later hb kt4
            replace kt5 := cell_later hb kt5
            replace za : w.heap.size < w11.heap.size := World.block_lt_of_cell? _ _ ka0
            have za_w11 := za
            replace zb : w.heap.size + 1 < w11.heap.size := World.block_lt_of_cell? _ _ kb0
            have zb_w11 := zb
            replace zv : w.heap.size + 1 + 1 < w11.heap.size := World.block_lt_of_cell? _ _ kv0
            have zv_w11 := zv
            replace zo : w2.heap.size < w11.heap.size := World.block_lt_of_cell? _ _ ko0
            have zo_w11 := zo
            replace zt : w3.heap.size < w11.heap.size := World.block_lt_of_cell? _ _ kt0
            have zt_w11 := zt
            replace hb0 : Below w.heap.size w w11 := (by repeat (first | with_reducible exact Below.refl _ _ | with_reducible assumption | with_reducible refine Below.setCell ?_ (by first | omega | (simp <;> omega)) _ | with_reducible refine balloc ?_ _ | with_reducible refine Below.drew ?_ | with_reducible refine bstep ?_ (by with_reducible assumption)))
            have hs_w11 : w10.heap.size ≤ w11.heap.size := hb.size
            clear hb
            go_wp2_with fail
            refine wp_region_held_drew (S := fun w' => w'.cell? ⟨w.heap.size, 0, none⟩ = some (.int .i64 a1) ∧ w'.cell? ⟨w.heap.size, 1, none⟩ = some (.int .i64 a2) ∧ w'.cell? ⟨w.heap.size + 1, 0, none⟩ = some (.int .i64 b1) ∧ w'.cell? ⟨w.heap.size + 1, 1, none⟩ = some (.int .i64 b2) ∧ w'.cell? ⟨w.heap.size + 1 + 1, 0, none⟩ = some (.int .i64 v1) ∧ w'.cell? ⟨w.heap.size + 1 + 1, 1, none⟩ = some (.int .i64 v2)) (by kernel_rfl) (by first | (go_keep; done) | ((repeat' apply And.intro) <;> go_simp)) (fun hHeld => ?_)
            refine wpAnyH_take (i := 0) (oi := ⟨some 126, _, _, _, _, _⟩) (v := ?_) rfl (by kernel_rfl) (by kernel_rfl) (by kernel_rfl) (fun _ _ _ h => h) (Or.inl ⟨by rfl, ?_⟩) (by assumption) ?_
            rotate_left
            · intro w hSw; (try dsimp only at hSw); go_simp; try with_reducible rfl
            try simp only [Act.put, List.setIfInBounds_toArray, List.set_cons_zero, List.set_cons_succ]
            refine wpAnyH_take (i := 1) (oi := ⟨some 127, _, _, _, _, _⟩) (v := ?_) rfl (by kernel_rfl) (by kernel_rfl) (by kernel_rfl) (fun _ _ _ h => h) (Or.inl ⟨by rfl, ?_⟩) (by assumption) ?_
            rotate_left
            · intro w hSw; (try dsimp only at hSw); go_simp; try with_reducible rfl
            try simp only [Act.put, List.setIfInBounds_toArray, List.set_cons_zero, List.set_cons_succ]
            refine wpAnyH_take (i := 2) (oi := ⟨some 128, _, _, _, _, _⟩) (v := ?_) rfl (by kernel_rfl) (by kernel_rfl) (by kernel_rfl) (fun _ _ _ h => h) (Or.inl ⟨by rfl, ?_⟩) (by assumption) ?_
            rotate_left
            · intro w hSw; (try dsimp only at hSw); go_simp; try with_reducible rfl
            try simp only [Act.put, List.setIfInBounds_toArray, List.set_cons_zero, List.set_cons_succ]
            refine wpAnyH_take (i := 3) (oi := ⟨some 129, _, _, _, _, _⟩) (v := ?_) rfl (by kernel_rfl) (by kernel_rfl) (by kernel_rfl) (fun _ _ _ h => h) (Or.inl ⟨by rfl, ?_⟩) (by assumption) ?_
            rotate_left
            · intro w hSw; (try dsimp only at hSw); go_simp; try with_reducible rfl
            try simp only [Act.put, List.setIfInBounds_toArray, List.set_cons_zero, List.set_cons_succ]
            refine wpAnyH_take (i := 4) (oi := ⟨some 130, _, _, _, _, _⟩) (v := ?_) rfl (by kernel_rfl) (by kernel_rfl) (by kernel_rfl) (fun _ _ _ h => h) (Or.inl ⟨by rfl, ?_⟩) (by assumption) ?_
            rotate_left
            · intro w hSw; (try dsimp only at hSw); go_simp; try with_reducible rfl
            try simp only [Act.put, List.setIfInBounds_toArray, List.set_cons_zero, List.set_cons_succ]
            refine wpAnyH_take (i := 5) (oi := ⟨some 131, _, _, _, _, _⟩) (v := ?_) rfl (by kernel_rfl) (by kernel_rfl) (by kernel_rfl) (fun _ _ _ h => h) (Or.inl ⟨by rfl, ?_⟩) (by assumption) ?_
            rotate_left
            · intro w hSw; (try dsimp only at hSw); go_simp; try with_reducible rfl
            try simp only [Act.put, List.setIfInBounds_toArray, List.set_cons_zero, List.set_cons_succ]
            refine wpAnyH_take (i := 7) (oi := ⟨some 133, _, _, _, _, _⟩) (v := ?_) rfl (by kernel_rfl) (by kernel_rfl) (by kernel_rfl) (fun _ _ _ h => h) (Or.inl ⟨by rfl, ?_⟩) (by assumption) ?_
            rotate_left
            · intro w hSw; (try dsimp only at hSw); go_simp; try with_reducible rfl
            try simp only [Act.put, List.setIfInBounds_toArray, List.set_cons_zero, List.set_cons_succ]
            refine wpAnyH_take (i := 9) (oi := ⟨some 135, _, _, _, _, _⟩) (v := ?_) rfl (by kernel_rfl) (by kernel_rfl) (by kernel_rfl) (fun _ _ _ h => h) (Or.inl ⟨by rfl, ?_⟩) (by assumption) ?_
            rotate_left
            · intro w hSw; (try dsimp only at hSw); go_simp; try with_reducible rfl
            try simp only [Act.put, List.setIfInBounds_toArray, List.set_cons_zero, List.set_cons_succ]
            refine wpAnyH_take (i := 10) (oi := ⟨some 136, _, _, _, _, _⟩) (v := ?_) rfl (by kernel_rfl) (by kernel_rfl) (by kernel_rfl) (fun _ _ _ h => h) (Or.inl ⟨by rfl, ?_⟩) (by assumption) ?_
            rotate_left
            · intro w hSw; (try dsimp only at hSw); go_simp; try with_reducible rfl
            try simp only [Act.put, List.setIfInBounds_toArray, List.set_cons_zero, List.set_cons_succ]
            refine wpAnyH_take (i := 11) (oi := ⟨some 137, _, _, _, _, _⟩) (v := ?_) rfl (by kernel_rfl) (by kernel_rfl) (by kernel_rfl) (fun _ _ _ h => h) (Or.inl ⟨by rfl, ?_⟩) (by assumption) ?_
            rotate_left
            · intro w hSw; (try dsimp only at hSw); go_simp; try with_reducible rfl
            try simp only [Act.put, List.setIfInBounds_toArray, List.set_cons_zero, List.set_cons_succ]
            refine wpAnyH_take (i := 12) (oi := ⟨some 138, _, _, _, _, _⟩) (v := ?_) rfl (by kernel_rfl) (by kernel_rfl) (by kernel_rfl) (fun _ _ _ h => h) (Or.inl ⟨by rfl, ?_⟩) (by assumption) ?_
            rotate_left
            · intro w hSw; (try dsimp only at hSw); go_simp; try with_reducible rfl
            try simp only [Act.put, List.setIfInBounds_toArray, List.set_cons_zero, List.set_cons_succ]
            refine wpAnyH_take (i := 13) (oi := ⟨some 139, _, _, _, _, _⟩) (v := ?_) rfl (by kernel_rfl) (by kernel_rfl) (by kernel_rfl) (fun _ _ _ h => h) (Or.inl ⟨by rfl, ?_⟩) (by assumption) ?_
            rotate_left
            · intro w hSw; (try dsimp only at hSw); go_simp; try with_reducible rfl
            try simp only [Act.put, List.setIfInBounds_toArray, List.set_cons_zero, List.set_cons_succ]
            refine wpAnyH_take (i := 14) (oi := ⟨some 140, _, _, _, _, _⟩) (v := ?_) rfl (by kernel_rfl) (by kernel_rfl) (by kernel_rfl) (fun _ _ _ h => h) (Or.inl ⟨by rfl, ?_⟩) (by assumption) ?_
            rotate_left
            · intro w hSw; (try dsimp only at hSw); go_simp; try with_reducible rfl
            try simp only [Act.put, List.setIfInBounds_toArray, List.set_cons_zero, List.set_cons_succ]
            refine wpAnyH_ready (rs := [6]) (by kernel_rfl) (by simp) ?_
            refine AllReadyH.cons (o := ⟨some 132, _, _, _, _, _⟩) rfl (fun KK hKK => ?_) AllReadyH.nil
            go_simp
            refine Calls.mono (at_c (3 * a1) (3 * a2) _) ?_
            rintro e wt12 ⟨rfl, hb⟩
            replace ka0 := cell_later hb ka0
            replace ka1 := cell_later hb ka1
            replace kb0 := cell_later hb kb0
            replace kb1 := cell_later hb kb1
            replace kv0 := cell_later hb kv0
            replace kv1 := cell_later hb kv1
            replace ko0 := cell_later hb ko0
            replace ko1 := cell_later hb ko1
            replace ko2 := cell_later hb ko2
            replace ko3 := cell_later hb ko3
            replace ko4 := cell_later hb ko4
            replace ko5 := cell_later hb ko5
            replace kt0 := cell_later hb kt0
            replace kt1 := cell_later hb kt1
            replace kt2 := cell_later hb kt2
            replace kt3 := cell_later hb kt3
            replace kt4 := cell_later hb kt4
            replace kt5 := cell_later hb kt5
            replace za : w.heap.size < wt12.heap.size := World.block_lt_of_cell? _ _ ka0
            have za_wt12 := za
            replace zb : w.heap.size + 1 < wt12.heap.size := World.block_lt_of_cell? _ _ kb0
            have zb_wt12 := zb
            replace zv : w.heap.size + 1 + 1 < wt12.heap.size := World.block_lt_of_cell? _ _ kv0
            have zv_wt12 := zv
            replace zo : w2.heap.size < wt12.heap.size := World.block_lt_of_cell? _ _ ko0
            have zo_wt12 := zo
            replace zt : w3.heap.size < wt12.heap.size := World.block_lt_of_cell? _ _ kt0
            have zt_wt12 := zt
            replace hb0 : Below w.heap.size w wt12 := (by repeat (first | with_reducible exact Below.refl _ _ | with_reducible assumption | with_reducible refine Below.setCell ?_ (by first | omega | (simp <;> omega)) _ | with_reducible refine balloc ?_ _ | with_reducible refine Below.drew ?_ | with_reducible refine bstep ?_ (by with_reducible assumption)))
            have hs_wt12 : w11.heap.size ≤ wt12.heap.size := hb.size
            clear hb
            (try go_wp2_with fail)
            refine hKK.out _ _ (by first | (go_keep; done) | ((repeat' apply And.intro) <;> go_simp)) (fun hHeld => ?_)
            clear hKK KK
            try simp only [Act.put, List.setIfInBounds_toArray, List.set_cons_zero, List.set_cons_succ]
            refine wpAnyH_ready (rs := [8]) (by kernel_rfl) (by simp) ?_
            refine AllReadyH.cons (o := ⟨some 134, _, _, _, _, _⟩) rfl (fun KK hKK => ?_) AllReadyH.nil
            go_simp
            refine Calls.mono (arc_c 1 1 (3 * a1) (3 * a2) b1 b2 _) ?_
            rintro e wt13 ⟨rfl, hb⟩
            replace ka0 := cell_later hb ka0
            replace ka1 := cell_later hb ka1
            replace kb0 := cell_later hb kb0
            replace kb1 := cell_later hb kb1
            replace kv0 := cell_later hb kv0
            replace kv1 := cell_later hb kv1
            replace ko0 := cell_later hb ko0
            replace ko1 := cell_later hb ko1
            replace ko2 := cell_later hb ko2
            replace ko3 := cell_later hb ko3
            replace ko4 := cell_later hb ko4
            replace ko5 := cell_later hb ko5
            replace kt0 := cell_later hb kt0
            replace kt1 := cell_later hb kt1
            replace kt2 := cell_later hb kt2
            replace kt3 := cell_later hb kt3
            replace kt4 := cell_later hb kt4
            replace kt5 := cell_later hb kt5
            replace za : w.heap.size < wt13.heap.size := World.block_lt_of_cell? _ _ ka0
            have za_wt13 := za
            replace zb : w.heap.size + 1 < wt13.heap.size := World.block_lt_of_cell? _ _ kb0
            have zb_wt13 := zb
            replace zv : w.heap.size + 1 + 1 < wt13.heap.size := World.block_lt_of_cell? _ _ kv0
            have zv_wt13 := zv
            replace zo : w2.heap.size < wt13.heap.size := World.block_lt_of_cell? _ _ ko0
            have zo_wt13 := zo
            replace zt : w3.heap.size < wt13.heap.size := World.block_lt_of_cell? _ _ kt0
            have zt_wt13 := zt
            replace hb0 : Below w.heap.size w wt13 := (by repeat (first | with_reducible exact Below.refl _ _ | with_reducible assumption | with_reducible refine Below.setCell ?_ (by first | omega | (simp <;> omega)) _ | with_reducible refine balloc ?_ _ | with_reducible refine Below.drew ?_ | with_reducible refine bstep ?_ (by with_reducible assumption)))
            have hs_wt13 : wt12.heap.size ≤ wt13.heap.size := hb.size
            clear hb
            (try go_wp2_with fail)
            refine hKK.out _ _ (by first | (go_keep; done) | ((repeat' apply And.intro) <;> go_simp)) (fun hHeld => ?_)
            clear hKK KK
            try simp only [Act.put, List.setIfInBounds_toArray, List.set_cons_zero, List.set_cons_succ]
            refine wpAnyH_ready (rs := [15]) (by kernel_rfl) (by simp) ?_
            refine AllReadyH.cons (o := ⟨some 141, _, _, _, _, _⟩) rfl (fun KK hKK => ?_) AllReadyH.nil
            go_simp
            refine Calls.mono (at_c (2 * v1) (2 * v2) _) ?_
            rintro e wt14 ⟨rfl, hb⟩
            replace ka0 := cell_later hb ka0
            replace ka1 := cell_later hb ka1
            replace kb0 := cell_later hb kb0
            replace kb1 := cell_later hb kb1
            replace kv0 := cell_later hb kv0
            replace kv1 := cell_later hb kv1
            replace ko0 := cell_later hb ko0
            replace ko1 := cell_later hb ko1
            replace ko2 := cell_later hb ko2
            replace ko3 := cell_later hb ko3
            replace ko4 := cell_later hb ko4
            replace ko5 := cell_later hb ko5
            replace kt0 := cell_later hb kt0
            replace kt1 := cell_later hb kt1
            replace kt2 := cell_later hb kt2
            replace kt3 := cell_later hb kt3
            replace kt4 := cell_later hb kt4
            replace kt5 := cell_later hb kt5
            replace za : w.heap.size < wt14.heap.size := World.block_lt_of_cell? _ _ ka0
            have za_wt14 := za
            replace zb : w.heap.size + 1 < wt14.heap.size := World.block_lt_of_cell? _ _ kb0
            have zb_wt14 := zb
            replace zv : w.heap.size + 1 + 1 < wt14.heap.size := World.block_lt_of_cell? _ _ kv0
            have zv_wt14 := zv
            replace zo : w2.heap.size < wt14.heap.size := World.block_lt_of_cell? _ _ ko0
            have zo_wt14 := zo
            replace zt : w3.heap.size < wt14.heap.size := World.block_lt_of_cell? _ _ kt0
            have zt_wt14 := zt
            replace hb0 : Below w.heap.size w wt14 := (by repeat (first | with_reducible exact Below.refl _ _ | with_reducible assumption | with_reducible refine Below.setCell ?_ (by first | omega | (simp <;> omega)) _ | with_reducible refine balloc ?_ _ | with_reducible refine Below.drew ?_ | with_reducible refine bstep ?_ (by with_reducible assumption)))
            have hs_wt14 : wt13.heap.size ≤ wt14.heap.size := hb.size
            clear hb
            (try go_wp2_with fail)
            refine hKK.out _ _ (by first | (go_keep; done) | ((repeat' apply And.intro) <;> go_simp)) (fun hHeld => ?_)
            clear hKK KK
            try simp only [Act.put, List.setIfInBounds_toArray, List.set_cons_zero, List.set_cons_succ]
            refine wpAnyH_ready (rs := [16]) (by kernel_rfl) (by simp) ?_
            refine AllReadyH.cons (o := ⟨some 142, _, _, _, _, _⟩) rfl (fun KK hKK => ?_) AllReadyH.nil
            go_simp
            refine Calls.mono (HN7.out _) ?_
            rintro e wt15 ⟨rfl, hb⟩
            replace ka0 := cell_later hb ka0
            replace ka1 := cell_later hb ka1
            replace kb0 := cell_later hb kb0
            replace kb1 := cell_later hb kb1
            replace kv0 := cell_later hb kv0
            replace kv1 := cell_later hb kv1
            replace ko0 := cell_later hb ko0
            replace ko1 := cell_later hb ko1
            replace ko2 := cell_later hb ko2
            replace ko3 := cell_later hb ko3
            replace ko4 := cell_later hb ko4
            replace ko5 := cell_later hb ko5
            replace kt0 := cell_later hb kt0
            replace kt1 := cell_later hb kt1
            replace kt2 := cell_later hb kt2
            replace kt3 := cell_later hb kt3
            replace kt4 := cell_later hb kt4
            replace kt5 := cell_later hb kt5
            replace za : w.heap.size < wt15.heap.size := World.block_lt_of_cell? _ _ ka0
            have za_wt15 := za
            replace zb : w.heap.size + 1 < wt15.heap.size := World.block_lt_of_cell? _ _ kb0
            have zb_wt15 := zb
            replace zv : w.heap.size + 1 + 1 < wt15.heap.size := World.block_lt_of_cell? _ _ kv0
            have zv_wt15 := zv
            replace zo : w2.heap.size < wt15.heap.size := World.block_lt_of_cell? _ _ ko0
            have zo_wt15 := zo
            replace zt : w3.heap.size < wt15.heap.size := World.block_lt_of_cell? _ _ kt0
            have zt_wt15 := zt
            replace hb0 : Below w.heap.size w wt15 := (by repeat (first | with_reducible exact Below.refl _ _ | with_reducible assumption | with_reducible refine Below.setCell ?_ (by first | omega | (simp <;> omega)) _ | with_reducible refine balloc ?_ _ | with_reducible refine Below.drew ?_ | with_reducible refine bstep ?_ (by with_reducible assumption)))
            have hs_wt15 : wt14.heap.size ≤ wt15.heap.size := hb.size
            clear hb
            (try go_wp2_with fail)
            refine hKK.out _ _ (by first | (go_keep; done) | ((repeat' apply And.intro) <;> go_simp)) (fun hHeld => ?_)
            clear hKK KK
            try simp only [Act.put, List.setIfInBounds_toArray, List.set_cons_zero, List.set_cons_succ]
            refine wpAnyH_take (i := 17) (oi := ⟨some 125, _, _, _, _, _⟩) (v := ?_) rfl (by kernel_rfl) (by kernel_rfl) (by kernel_rfl) (fun _ _ _ h => h) (Or.inl ⟨by rfl, ?_⟩) (by assumption) ?_
            rotate_left
            · intro w hSw; (try dsimp only at hSw); go_simp; try with_reducible rfl
            try simp only [Act.put, List.setIfInBounds_toArray, List.set_cons_zero, List.set_cons_succ]
            refine wpAnyH_take (i := 18) (oi := ⟨some 143, _, _, _, _, _⟩) (v := ?_) rfl (by kernel_rfl) (by kernel_rfl) (by kernel_rfl) (fun _ _ _ h => h) (Or.inl ⟨by rfl, ?_⟩) (by assumption) ?_
            rotate_left
            · intro w hSw; (try dsimp only at hSw); go_simp; try with_reducible rfl
            try simp only [Act.put, List.setIfInBounds_toArray, List.set_cons_zero, List.set_cons_succ]
            refine wpAnyH_take (i := 19) (oi := ⟨some 144, _, _, _, _, _⟩) (v := ?_) rfl (by kernel_rfl) (by kernel_rfl) (by kernel_rfl) (fun _ _ _ h => h) (Or.inl ⟨by rfl, ?_⟩) (by assumption) ?_
            rotate_left
            · intro w hSw; (try dsimp only at hSw); go_simp; try with_reducible rfl
            try simp only [Act.put, List.setIfInBounds_toArray, List.set_cons_zero, List.set_cons_succ]
            refine wpAnyH_take (i := 20) (oi := ⟨some 20, _, _, _, _, _⟩) (v := ?_) rfl (by kernel_rfl) (by kernel_rfl) (by kernel_rfl) (fun _ _ _ h => h) (Or.inl ⟨by rfl, ?_⟩) (by assumption) ?_
            rotate_left
            · intro w hSw; (try dsimp only at hSw); go_simp; try with_reducible rfl
            try simp only [Act.put, List.setIfInBounds_toArray, List.set_cons_zero, List.set_cons_succ]
            refine wpAnyH_take (i := 21) (oi := ⟨some 21, _, _, _, _, _⟩) (v := ?_) rfl (by kernel_rfl) (by kernel_rfl) (by kernel_rfl) (fun _ _ _ h => h) (Or.inl ⟨by rfl, ?_⟩) (by assumption) ?_
            rotate_left
            · intro w hSw; (try dsimp only at hSw); go_simp; try with_reducible rfl
            try simp only [Act.put, List.setIfInBounds_toArray, List.set_cons_zero, List.set_cons_succ]
            refine wpAnyH_done (by kernel_rfl) ?_ _
            (try dsimp only [Exit.then, Met])
            go_wp2
            all_goals
              go_ret
              exact ret_bool (by simp) (by repeat (first | with_reducible exact Below.refl _ _ | with_reducible assumption | with_reducible refine Below.setCell ?_ (by first | omega | (simp <;> omega)) _ | with_reducible refine balloc ?_ _ | with_reducible refine Below.drew ?_ | with_reducible refine bstep ?_ (by with_reducible assumption)))
    · obtain ⟨hx, hy⟩ := f4 rfl
      clear f3 f4
      subst hx hy
      go_enter Try.func4, Try.ntmps4
      go_wp2_with fail
      refine Calls.mono (HEAD _) ?_
      rintro e w1 ⟨rfl, hb⟩
      have ka0 : w1.cell? ⟨w.heap.size, 0, none⟩ = some (.int .i64 a1) := cell_later hb (by go_simp)
      have ka1 : w1.cell? ⟨w.heap.size, 1, none⟩ = some (.int .i64 a2) := cell_later hb (by go_simp)
      have kb0 : w1.cell? ⟨w.heap.size + 1, 0, none⟩ = some (.int .i64 b1) := cell_later hb (by go_simp)
      have kb1 : w1.cell? ⟨w.heap.size + 1, 1, none⟩ = some (.int .i64 b2) := cell_later hb (by go_simp)
      have kv0 : w1.cell? ⟨w.heap.size + 1 + 1, 0, none⟩ = some (.int .i64 v1) := cell_later hb (by go_simp)
      have kv1 : w1.cell? ⟨w.heap.size + 1 + 1, 1, none⟩ = some (.int .i64 v2) := cell_later hb (by go_simp)
      have za : w.heap.size < w1.heap.size := World.block_lt_of_cell? _ _ ka0
      have za_w1 := za
      have zb : w.heap.size + 1 < w1.heap.size := World.block_lt_of_cell? _ _ kb0
      have zb_w1 := zb
      have zv : w.heap.size + 1 + 1 < w1.heap.size := World.block_lt_of_cell? _ _ kv0
      have zv_w1 := zv
      have hb0 : Below w.heap.size w w1 := (by repeat (first | with_reducible exact Below.refl _ _ | with_reducible assumption | with_reducible refine Below.setCell ?_ (by first | omega | (simp <;> omega)) _ | with_reducible refine balloc ?_ _ | with_reducible refine Below.drew ?_ | with_reducible refine bstep ?_ (by with_reducible assumption)))
      have hs_w1 := hb.size; (try simp only [World.size_alloc, World.size_setCell] at hs_w1)
      clear hb
      go_wp2_with fail
      refine Calls.mono (arc_c 1 1 a1 a2 b1 b2 _) ?_
      rintro e w2 ⟨rfl, hb⟩
      replace ka0 := cell_later hb ka0
      replace ka1 := cell_later hb ka1
      replace kb0 := cell_later hb kb0
      replace kb1 := cell_later hb kb1
      replace kv0 := cell_later hb kv0
      replace kv1 := cell_later hb kv1
      replace za : w.heap.size < w2.heap.size := World.block_lt_of_cell? _ _ ka0
      have za_w2 := za
      replace zb : w.heap.size + 1 < w2.heap.size := World.block_lt_of_cell? _ _ kb0
      have zb_w2 := zb
      replace zv : w.heap.size + 1 + 1 < w2.heap.size := World.block_lt_of_cell? _ _ kv0
      have zv_w2 := zv
      replace hb0 : Below w.heap.size w w2 := (by repeat (first | with_reducible exact Below.refl _ _ | with_reducible assumption | with_reducible refine Below.setCell ?_ (by first | omega | (simp <;> omega)) _ | with_reducible refine balloc ?_ _ | with_reducible refine Below.drew ?_ | with_reducible refine bstep ?_ (by with_reducible assumption)))
      have hs_w2 : w1.heap.size ≤ w2.heap.size := hb.size
      clear hb
      go_wp2_with fail
      refine Calls.mono (arc_c 1 1 b1 b2 a1 a2 _) ?_
      rintro e w3 ⟨rfl, hb⟩
      replace ka0 := cell_later hb (cell_al _ ka0)
      replace ka1 := cell_later hb (cell_al _ ka1)
      replace kb0 := cell_later hb (cell_al _ kb0)
      replace kb1 := cell_later hb (cell_al _ kb1)
      replace kv0 := cell_later hb (cell_al _ kv0)
      replace kv1 := cell_later hb (cell_al _ kv1)
      have ko0 : w3.cell? ⟨w2.heap.size, 0, none⟩ = some (.int .i64 a1) := cell_later hb (by go_simp)
      have ko1 : w3.cell? ⟨w2.heap.size, 1, none⟩ = some (.int .i64 a2) := cell_later hb (by go_simp)
      have ko2 : w3.cell? ⟨w2.heap.size, 2, none⟩ = some (.int .i64 b1) := cell_later hb (by go_simp)
      have ko3 : w3.cell? ⟨w2.heap.size, 3, none⟩ = some (.int .i64 b2) := cell_later hb (by go_simp)
      have ko4 : w3.cell? ⟨w2.heap.size, 4, none⟩ = some (.int .i64 1) := cell_later hb (by go_simp)
      have ko5 : w3.cell? ⟨w2.heap.size, 5, none⟩ = some (.int .i64 1) := cell_later hb (by go_simp)
      replace za : w.heap.size < w3.heap.size := World.block_lt_of_cell? _ _ ka0
      have za_w3 := za
      replace zb : w.heap.size + 1 < w3.heap.size := World.block_lt_of_cell? _ _ kb0
      have zb_w3 := zb
      replace zv : w.heap.size + 1 + 1 < w3.heap.size := World.block_lt_of_cell? _ _ kv0
      have zv_w3 := zv
      have zo : w2.heap.size < w3.heap.size := World.block_lt_of_cell? _ _ ko0
      have zo_w3 := zo
      replace hb0 : Below w.heap.size w w3 := (by repeat (first | with_reducible exact Below.refl _ _ | with_reducible assumption | with_reducible refine Below.setCell ?_ (by first | omega | (simp <;> omega)) _ | with_reducible refine balloc ?_ _ | with_reducible refine Below.drew ?_ | with_reducible refine bstep ?_ (by with_reducible assumption)))
      have hs_w3 := hb.size; (try simp only [World.size_alloc, World.size_setCell] at hs_w3)
      clear hb
      go_wp2_with fail
      refine Calls.mono (HN1.out _) ?_
      rintro e w4 ⟨rfl, hb⟩
      replace ka0 := cell_later hb (cell_al _ ka0)
      replace ka1 := cell_later hb (cell_al _ ka1)
      replace kb0 := cell_later hb (cell_al _ kb0)
      replace kb1 := cell_later hb (cell_al _ kb1)
      replace kv0 := cell_later hb (cell_al _ kv0)
      replace kv1 := cell_later hb (cell_al _ kv1)
      replace ko0 := cell_later hb (cell_al _ ko0)
      replace ko1 := cell_later hb (cell_al _ ko1)
      replace ko2 := cell_later hb (cell_al _ ko2)
      replace ko3 := cell_later hb (cell_al _ ko3)
      replace ko4 := cell_later hb (cell_al _ ko4)
      replace ko5 := cell_later hb (cell_al _ ko5)
      have kt0 : w4.cell? ⟨w3.heap.size, 0, none⟩ = some (.int .i64 b1) := cell_later hb (by go_simp)
      have kt1 : w4.cell? ⟨w3.heap.size, 1, none⟩ = some (.int .i64 b2) := cell_later hb (by go_simp)
      have kt2 : w4.cell? ⟨w3.heap.size, 2, none⟩ = some (.int .i64 a1) := cell_later hb (by go_simp)
      have kt3 : w4.cell? ⟨w3.heap.size, 3, none⟩ = some (.int .i64 a2) := cell_later hb (by go_simp)
      have kt4 : w4.cell? ⟨w3.heap.size, 4, none⟩ = some (.int .i64 1) := cell_later hb (by go_simp)
      have kt5 : w4.cell? ⟨w3.heap.size, 5, none⟩ = some (.int .i64 1) := cell_later hb (by go_simp)
      replace za : w.heap.size < w4.heap.size := World.block_lt_of_cell? _ _ ka0
      have za_w4 := za
      replace zb : w.heap.size + 1 < w4.heap.size := World.block_lt_of_cell? _ _ kb0
      have zb_w4 := zb
      replace zv : w.heap.size + 1 + 1 < w4.heap.size := World.block_lt_of_cell? _ _ kv0
      have zv_w4 := zv
      replace zo : w2.heap.size < w4.heap.size := World.block_lt_of_cell? _ _ ko0
      have zo_w4 := zo
      have zt : w3.heap.size < w4.heap.size := World.block_lt_of_cell? _ _ kt0
      have zt_w4 := zt
      replace hb0 : Below w.heap.size w w4 := (by repeat (first | with_reducible exact Below.refl _ _ | with_reducible assumption | with_reducible refine Below.setCell ?_ (by first | omega | (simp <;> omega)) _ | with_reducible refine balloc ?_ _ | with_reducible refine Below.drew ?_ | with_reducible refine bstep ?_ (by with_reducible assumption)))
      have hs_w4 := hb.size; (try simp only [World.size_alloc, World.size_setCell] at hs_w4)
      clear hb
      go_wp2_with fail
      refine Calls.mono (HN2.out _) ?_
      rintro e w5 ⟨rfl, hb⟩
      replace ka0 := cell_later hb ka0
      replace ka1 := cell_later hb ka1
      replace kb0 := cell_later hb kb0
      replace kb1 := cell_later hb kb1
      replace kv0 := cell_later hb kv0
      replace kv1 := cell_later hb kv1
      replace ko0 := cell_later hb ko0
      replace ko1 := cell_later hb ko1
      replace ko2 := cell_later hb ko2
      replace ko3 := cell_later hb ko3
      replace ko4 := cell_later hb ko4
      replace ko5 := cell_later hb ko5
      replace kt0 := cell_later hb kt0
      replace kt1 := cell_later hb kt1
      replace kt2 := cell_later hb kt2
      replace kt3 := cell_later hb kt3
      replace kt4 := cell_later hb kt4
      replace kt5 := cell_later hb kt5
      replace za : w.heap.size < w5.heap.size := World.block_lt_of_cell? _ _ ka0
      have za_w5 := za
      replace zb : w.heap.size + 1 < w5.heap.size := World.block_lt_of_cell? _ _ kb0
      have zb_w5 := zb
      replace zv : w.heap.size + 1 + 1 < w5.heap.size := World.block_lt_of_cell? _ _ kv0
      have zv_w5 := zv
      replace zo : w2.heap.size < w5.heap.size := World.block_lt_of_cell? _ _ ko0
      have zo_w5 := zo
      replace zt : w3.heap.size < w5.heap.size := World.block_lt_of_cell? _ _ kt0
      have zt_w5 := zt
      replace hb0 : Below w.heap.size w w5 := (by repeat (first | with_reducible exact Below.refl _ _ | with_reducible assumption | with_reducible refine Below.setCell ?_ (by first | omega | (simp <;> omega)) _ | with_reducible refine balloc ?_ _ | with_reducible refine Below.drew ?_ | with_reducible refine bstep ?_ (by with_reducible assumption)))
      have hs_w5 : w4.heap.size ≤ w5.heap.size := hb.size
      clear hb
      go_wp2_with fail
      refine Calls.mono (HN3.out _) ?_
      rintro e w6 ⟨rfl, hb⟩
      replace ka0 := cell_later hb ka0
      replace ka1 := cell_later hb ka1
      replace kb0 := cell_later hb kb0
      replace kb1 := cell_later hb kb1
      replace kv0 := cell_later hb kv0
      replace kv1 := cell_later hb kv1
      replace ko0 := cell_later hb ko0
      replace ko1 := cell_later hb ko1
      replace ko2 := cell_later hb ko2
      replace ko3 := cell_later hb ko3
      replace ko4 := cell_later hb ko4
      replace ko5 := cell_later hb ko5
      replace kt0 := cell_later hb kt0
      replace kt1 := cell_later hb kt1
      replace kt2 := cell_later hb kt2
      replace kt3 := cell_later hb kt3
      replace kt4 := cell_later hb kt4
      replace kt5 := cell_later hb kt5
      replace za : w.heap.size < w6.heap.size := World.block_lt_of_cell? _ _ ka0
      have za_w6 := za
      replace zb : w.heap.size + 1 < w6.heap.size := World.block_lt_of_cell? _ _ kb0
      have zb_w6 := zb
      replace zv : w.heap.size + 1 + 1 < w6.heap.size := World.block_lt_of_cell? _ _ kv0
      have zv_w6 := zv
      replace zo : w2.heap.size < w6.heap.size := World.block_lt_of_cell? _ _ ko0
      have zo_w6 := zo
      replace zt : w3.heap.size < w6.heap.size := World.block_lt_of_cell? _ _ kt0
      have zt_w6 := zt
      replace hb0 : Below w.heap.size w w6 := (by repeat (first | with_reducible exact Below.refl _ _ | with_reducible assumption | with_reducible refine Below.setCell ?_ (by first | omega | (simp <;> omega)) _ | with_reducible refine balloc ?_ _ | with_reducible refine Below.drew ?_ | with_reducible refine bstep ?_ (by with_reducible assumption)))
      have hs_w6 : w5.heap.size ≤ w6.heap.size := hb.size
      clear hb
      go_wp2_with fail
      refine Calls.mono (HN4.out _) ?_
      rintro e w7 ⟨rfl, hb⟩
      replace ka0 := cell_later hb ka0
      replace ka1 := cell_later hb ka1
      replace kb0 := cell_later hb kb0
      replace kb1 := cell_later hb kb1
      replace kv0 := cell_later hb kv0
      replace kv1 := cell_later hb kv1
      replace ko0 := cell_later hb ko0
      replace ko1 := cell_later hb ko1
      replace ko2 := cell_later hb ko2
      replace ko3 := cell_later hb ko3
      replace ko4 := cell_later hb ko4
      replace ko5 := cell_later hb ko5
      replace kt0 := cell_later hb kt0
      replace kt1 := cell_later hb kt1
      replace kt2 := cell_later hb kt2
      replace kt3 := cell_later hb kt3
      replace kt4 := cell_later hb kt4
      replace kt5 := cell_later hb kt5
      replace za : w.heap.size < w7.heap.size := World.block_lt_of_cell? _ _ ka0
      have za_w7 := za
      replace zb : w.heap.size + 1 < w7.heap.size := World.block_lt_of_cell? _ _ kb0
      have zb_w7 := zb
      replace zv : w.heap.size + 1 + 1 < w7.heap.size := World.block_lt_of_cell? _ _ kv0
      have zv_w7 := zv
      replace zo : w2.heap.size < w7.heap.size := World.block_lt_of_cell? _ _ ko0
      have zo_w7 := zo
      replace zt : w3.heap.size < w7.heap.size := World.block_lt_of_cell? _ _ kt0
      have zt_w7 := zt
      replace hb0 : Below w.heap.size w w7 := (by repeat (first | with_reducible exact Below.refl _ _ | with_reducible assumption | with_reducible refine Below.setCell ?_ (by first | omega | (simp <;> omega)) _ | with_reducible refine balloc ?_ _ | with_reducible refine Below.drew ?_ | with_reducible refine bstep ?_ (by with_reducible assumption)))
      have hs_w7 : w6.heap.size ≤ w7.heap.size := hb.size
      clear hb
      go_wp2_with fail
      refine Calls.mono (HN5.out _) ?_
      rintro e w8 ⟨rfl, hb⟩
      replace ka0 := cell_later hb ka0
      replace ka1 := cell_later hb ka1
      replace kb0 := cell_later hb kb0
      replace kb1 := cell_later hb kb1
      replace kv0 := cell_later hb kv0
      replace kv1 := cell_later hb kv1
      replace ko0 := cell_later hb ko0
      replace ko1 := cell_later hb ko1
      replace ko2 := cell_later hb ko2
      replace ko3 := cell_later hb ko3
      replace ko4 := cell_later hb ko4
      replace ko5 := cell_later hb ko5
      replace kt0 := cell_later hb kt0
      replace kt1 := cell_later hb kt1
      replace kt2 := cell_later hb kt2
      replace kt3 := cell_later hb kt3
      replace kt4 := cell_later hb kt4
      replace kt5 := cell_later hb kt5
      replace za : w.heap.size < w8.heap.size := World.block_lt_of_cell? _ _ ka0
      have za_w8 := za
      replace zb : w.heap.size + 1 < w8.heap.size := World.block_lt_of_cell? _ _ kb0
      have zb_w8 := zb
      replace zv : w.heap.size + 1 + 1 < w8.heap.size := World.block_lt_of_cell? _ _ kv0
      have zv_w8 := zv
      replace zo : w2.heap.size < w8.heap.size := World.block_lt_of_cell? _ _ ko0
      have zo_w8 := zo
      replace zt : w3.heap.size < w8.heap.size := World.block_lt_of_cell? _ _ kt0
      have zt_w8 := zt
      replace hb0 : Below w.heap.size w w8 := (by repeat (first | with_reducible exact Below.refl _ _ | with_reducible assumption | with_reducible refine Below.setCell ?_ (by first | omega | (simp <;> omega)) _ | with_reducible refine balloc ?_ _ | with_reducible refine Below.drew ?_ | with_reducible refine bstep ?_ (by with_reducible assumption)))
      have hs_w8 : w7.heap.size ≤ w8.heap.size := hb.size
      clear hb
      cases u1
      · skip
        go_wp2_with fail
        refine Calls.mono (HU1.out _) ?_
        rintro e w9 ⟨rfl, hb⟩
        replace ka0 := cell_later hb ka0
        replace ka1 := cell_later hb ka1
        replace kb0 := cell_later hb kb0
        replace kb1 := cell_later hb kb1
        replace kv0 := cell_later hb kv0
        replace kv1 := cell_later hb kv1
        replace ko0 := cell_later hb ko0
        replace ko1 := cell_later hb ko1
        replace ko2 := cell_later hb ko2
        replace ko3 := cell_later hb ko3
        replace ko4 := cell_later hb ko4
        replace ko5 := cell_later hb ko5
        replace kt0 := cell_later hb kt0
        replace kt1 := cell_later hb kt1
        replace kt2 := cell_later hb kt2
        replace kt3 := cell_later hb kt3
        replace kt4 := cell_later hb kt4
        replace kt5 := cell_later hb kt5
        replace za : w.heap.size < w9.heap.size := World.block_lt_of_cell? _ _ ka0
        have za_w9 := za
        replace zb : w.heap.size + 1 < w9.heap.size := World.block_lt_of_cell? _ _ kb0
        have zb_w9 := zb
        replace zv : w.heap.size + 1 + 1 < w9.heap.size := World.block_lt_of_cell? _ _ kv0
        have zv_w9 := zv
        replace zo : w2.heap.size < w9.heap.size := World.block_lt_of_cell? _ _ ko0
        have zo_w9 := zo
        replace zt : w3.heap.size < w9.heap.size := World.block_lt_of_cell? _ _ kt0
        have zt_w9 := zt
        replace hb0 : Below w.heap.size w w9 := (by repeat (first | with_reducible exact Below.refl _ _ | with_reducible assumption | with_reducible refine Below.setCell ?_ (by first | omega | (simp <;> omega)) _ | with_reducible refine balloc ?_ _ | with_reducible refine Below.drew ?_ | with_reducible refine bstep ?_ (by with_reducible assumption)))
        have hs_w9 : w8.heap.size ≤ w9.heap.size := hb.size
        clear hb
        go_wp2
        all_goals
          go_ret
          exact ret_bool (by simp) (by repeat (first | with_reducible exact Below.refl _ _ | with_reducible assumption | with_reducible refine Below.setCell ?_ (by first | omega | (simp <;> omega)) _ | with_reducible refine balloc ?_ _ | with_reducible refine Below.drew ?_ | with_reducible refine bstep ?_ (by with_reducible assumption)))
      · skip
        go_wp2_with fail
        refine Calls.mono (HU1.out _) ?_
        rintro e w9 ⟨rfl, hb⟩
        replace ka0 := cell_later hb ka0
        replace ka1 := cell_later hb ka1
        replace kb0 := cell_later hb kb0
        replace kb1 := cell_later hb kb1
        replace kv0 := cell_later hb kv0
        replace kv1 := cell_later hb kv1
        replace ko0 := cell_later hb ko0
        replace ko1 := cell_later hb ko1
        replace ko2 := cell_later hb ko2
        replace ko3 := cell_later hb ko3
        replace ko4 := cell_later hb ko4
        replace ko5 := cell_later hb ko5
        replace kt0 := cell_later hb kt0
        replace kt1 := cell_later hb kt1
        replace kt2 := cell_later hb kt2
        replace kt3 := cell_later hb kt3
        replace kt4 := cell_later hb kt4
        replace kt5 := cell_later hb kt5
        replace za : w.heap.size < w9.heap.size := World.block_lt_of_cell? _ _ ka0
        have za_w9 := za
        replace zb : w.heap.size + 1 < w9.heap.size := World.block_lt_of_cell? _ _ kb0
        have zb_w9 := zb
        replace zv : w.heap.size + 1 + 1 < w9.heap.size := World.block_lt_of_cell? _ _ kv0
        have zv_w9 := zv
        replace zo : w2.heap.size < w9.heap.size := World.block_lt_of_cell? _ _ ko0
        have zo_w9 := zo
        replace zt : w3.heap.size < w9.heap.size := World.block_lt_of_cell? _ _ kt0
        have zt_w9 := zt
        replace hb0 : Below w.heap.size w w9 := (by repeat (first | with_reducible exact Below.refl _ _ | with_reducible assumption | with_reducible refine Below.setCell ?_ (by first | omega | (simp <;> omega)) _ | with_reducible refine balloc ?_ _ | with_reducible refine Below.drew ?_ | with_reducible refine bstep ?_ (by with_reducible assumption)))
        have hs_w9 : w8.heap.size ≤ w9.heap.size := hb.size
        clear hb
        cases u2
        · skip
          go_wp2_with fail
          refine Calls.mono (HU2.out _) ?_
          rintro e w10 ⟨rfl, hb⟩
          replace ka0 := cell_later hb ka0
          replace ka1 := cell_later hb ka1
          replace kb0 := cell_later hb kb0
          replace kb1 := cell_later hb kb1
          replace kv0 := cell_later hb kv0
          replace kv1 := cell_later hb kv1
          replace ko0 := cell_later hb ko0
          replace ko1 := cell_later hb ko1
          replace ko2 := cell_later hb ko2
          replace ko3 := cell_later hb ko3
          replace ko4 := cell_later hb ko4
          replace ko5 := cell_later hb ko5
          replace kt0 := cell_later hb kt0
          replace kt1 := cell_later hb kt1
          replace kt2 := cell_later hb kt2
          replace kt3 := cell_later hb kt3
          replace kt4 := cell_later hb kt4
          replace kt5 := cell_later hb kt5
          replace za : w.heap.size < w10.heap.size := World.block_lt_of_cell? _ _ ka0
          have za_w10 := za
          replace zb : w.heap.size + 1 < w10.heap.size := World.block_lt_of_cell? _ _ kb0
          have zb_w10 := zb
          replace zv : w.heap.size + 1 + 1 < w10.heap.size := World.block_lt_of_cell? _ _ kv0
          have zv_w10 := zv
          replace zo : w2.heap.size < w10.heap.size := World.block_lt_of_cell? _ _ ko0
          have zo_w10 := zo
          replace zt : w3.heap.size < w10.heap.size := World.block_lt_of_cell? _ _ kt0
          have zt_w10 := zt
          replace hb0 : Below w.heap.size w w10 := (by repeat (first | with_reducible exact Below.refl _ _ | with_reducible assumption | with_reducible refine Below.setCell ?_ (by first | omega | (simp <;> omega)) _ | with_reducible refine balloc ?_ _ | with_reducible refine Below.drew ?_ | with_reducible refine bstep ?_ (by with_reducible assumption)))
          have hs_w10 : w9.heap.size ≤ w10.heap.size := hb.size
          clear hb
          go_wp2
          all_goals
            go_ret
            exact ret_bool (by simp) (by repeat (first | with_reducible exact Below.refl _ _ | with_reducible assumption | with_reducible refine Below.setCell ?_ (by first | omega | (simp <;> omega)) _ | with_reducible refine balloc ?_ _ | with_reducible refine Below.drew ?_ | with_reducible refine bstep ?_ (by with_reducible assumption)))
        · skip
          go_wp2_with fail
          refine Calls.mono (HU2.out _) ?_
          rintro e w10 ⟨rfl, hb⟩
          replace ka0 := cell_later hb ka0
          replace ka1 := cell_later hb ka1
          replace kb0 := cell_later hb kb0
          replace kb1 := cell_later hb kb1
          replace kv0 := cell_later hb kv0
          replace kv1 := cell_later hb kv1
          replace ko0 := cell_later hb ko0
          replace ko1 := cell_later hb ko1
          replace ko2 := cell_later hb ko2
          replace ko3 := cell_later hb ko3
          replace ko4 := cell_later hb ko4
          replace ko5 := cell_later hb ko5
          replace kt0 := cell_later hb kt0
          replace kt1 := cell_later hb kt1
          replace kt2 := cell_later hb kt2
          replace kt3 := cell_later hb kt3
          replace kt4 := cell_later hb kt4
          replace kt5 := cell_later hb kt5
          replace za : w.heap.size < w10.heap.size := World.block_lt_of_cell? _ _ ka0
          have za_w10 := za
          replace zb : w.heap.size + 1 < w10.heap.size := World.block_lt_of_cell? _ _ kb0
          have zb_w10 := zb
          replace zv : w.heap.size + 1 + 1 < w10.heap.size := World.block_lt_of_cell? _ _ kv0
          have zv_w10 := zv
          replace zo : w2.heap.size < w10.heap.size := World.block_lt_of_cell? _ _ ko0
          have zo_w10 := zo
          replace zt : w3.heap.size < w10.heap.size := World.block_lt_of_cell? _ _ kt0
          have zt_w10 := zt
          replace hb0 : Below w.heap.size w w10 := (by repeat (first | with_reducible exact Below.refl _ _ | with_reducible assumption | with_reducible refine Below.setCell ?_ (by first | omega | (simp <;> omega)) _ | with_reducible refine balloc ?_ _ | with_reducible refine Below.drew ?_ | with_reducible refine bstep ?_ (by with_reducible assumption)))
          have hs_w10 : w9.heap.size ≤ w10.heap.size := hb.size
          clear hb
          cases u3
          · skip
            go_wp2_with fail
            refine Calls.mono (HU3.out _) ?_
            rintro e w11 ⟨rfl, hb⟩
            replace ka0 := cell_later hb ka0
            replace ka1 := cell_later hb ka1
            replace kb0 := cell_later hb kb0
            replace kb1 := cell_later hb kb1
            replace kv0 := cell_later hb kv0
            replace kv1 := cell_later hb kv1
            replace ko0 := cell_later hb ko0
            replace ko1 := cell_later hb ko1
            replace ko2 := cell_later hb ko2
            replace ko3 := cell_later hb ko3
            replace ko4 := cell_later hb ko4
            replace ko5 := cell_later hb ko5
            replace kt0 := cell_later hb kt0
            replace kt1 := cell_later hb kt1
            replace kt2 := cell_later hb kt2
            replace kt3 := cell_later hb kt3
            replace kt4 := cell_later hb kt4
            replace kt5 := cell_later hb kt5
            replace za : w.heap.size < w11.heap.size := World.block_lt_of_cell? _ _ ka0
            have za_w11 := za
            replace zb : w.heap.size + 1 < w11.heap.size := World.block_lt_of_cell? _ _ kb0
            have zb_w11 := zb
            replace zv : w.heap.size + 1 + 1 < w11.heap.size := World.block_lt_of_cell? _ _ kv0
            have zv_w11 := zv
            replace zo : w2.heap.size < w11.heap.size := World.block_lt_of_cell? _ _ ko0
            have zo_w11 := zo
            replace zt : w3.heap.size < w11.heap.size := World.block_lt_of_cell? _ _ kt0
            have zt_w11 := zt
            replace hb0 : Below w.heap.size w w11 := (by repeat (first | with_reducible exact Below.refl _ _ | with_reducible assumption | with_reducible refine Below.setCell ?_ (by first | omega | (simp <;> omega)) _ | with_reducible refine balloc ?_ _ | with_reducible refine Below.drew ?_ | with_reducible refine bstep ?_ (by with_reducible assumption)))
            have hs_w11 : w10.heap.size ≤ w11.heap.size := hb.size
            clear hb
            go_wp2
            all_goals
              go_ret
              exact ret_bool (by simp) (by repeat (first | with_reducible exact Below.refl _ _ | with_reducible assumption | with_reducible refine Below.setCell ?_ (by first | omega | (simp <;> omega)) _ | with_reducible refine balloc ?_ _ | with_reducible refine Below.drew ?_ | with_reducible refine bstep ?_ (by with_reducible assumption)))
          · skip
            obtain ⟨⟨m1, m2⟩, m3, m4⟩ := HB1.out (by first | rfl | trivial)
            obtain ⟨⟨m5, m6⟩, m7, m8⟩ := HB2.out (by first | rfl | trivial)
            have N6 := HN6.out (by first | rfl | trivial) (by first | rfl | trivial)
            have HN7 := Lib.hid N6
            clear N6
            go_wp2_with fail
            refine Calls.mono (HU3.out _) ?_
            rintro e w11 ⟨rfl, hb⟩
            replace ka0 := cell_later hb ka0
            replace ka1 := cell_later hb ka1
            replace kb0 := cell_later hb kb0
            replace kb1 := cell_later hb kb1
            replace kv0 := cell_later hb kv0
            replace kv1 := cell_later hb kv1
            replace ko0 := cell_later hb ko0
            replace ko1 := cell_later hb ko1
            replace ko2 := cell_later hb ko2
            replace ko3 := cell_later hb ko3
            replace ko4 := cell_later hb ko4
            replace ko5 := cell_later hb ko5
            replace kt0 := cell_later hb kt0
            replace kt1 := cell_later hb kt1
            replace kt2 := cell_later hb kt2
            replace kt3 := cell_later hb kt3
            replace kt4 := cell_later hb kt4
            replace kt5 := cell_later hb kt5
            replace za : w.heap.size < w11.heap.size := World.block_lt_of_cell? _ _ ka0
            have za_w11 := za
            replace zb : w.heap.size + 1 < w11.heap.size := World.block_lt_of_cell? _ _ kb0
            have zb_w11 := zb
            replace zv : w.heap.size + 1 + 1 < w11.heap.size := World.block_lt_of_cell? _ _ kv0
            have zv_w11 := zv
            replace zo : w2.heap.size < w11.heap.size := World.block_lt_of_cell? _ _ ko0
            have zo_w11 := zo
            replace zt : w3.heap.size < w11.heap.size := World.block_lt_of_cell? _ _ kt0
            have zt_w11 := zt
            replace hb0 : Below w.heap.size w w11 := (by repeat (first | with_reducible exact Below.refl _ _ | with_reducible assumption | with_reducible refine Below.setCell ?_ (by first | omega | (simp <;> omega)) _ | with_reducible refine balloc ?_ _ | with_reducible refine Below.drew ?_ | with_reducible refine bstep ?_ (by with_reducible assumption)))
            have hs_w11 : w10.heap.size ≤ w11.heap.size := hb.size
            clear hb
            go_wp2_with fail
            refine wp_region_held_drew (S := fun w' => w'.cell? ⟨w.heap.size, 0, none⟩ = some (.int .i64 a1) ∧ w'.cell? ⟨w.heap.size, 1, none⟩ = some (.int .i64 a2) ∧ w'.cell? ⟨w.heap.size + 1, 0, none⟩ = some (.int .i64 b1) ∧ w'.cell? ⟨w.heap.size + 1, 1, none⟩ = some (.int .i64 b2) ∧ w'.cell? ⟨w.heap.size + 1 + 1, 0, none⟩ = some (.int .i64 v1) ∧ w'.cell? ⟨w.heap.size + 1 + 1, 1, none⟩ = some (.int .i64 v2)) (by kernel_rfl) (by first | (go_keep; done) | ((repeat' apply And.intro) <;> go_simp)) (fun hHeld => ?_)
            refine wpAnyH_take (i := 0) (oi := ⟨some 126, _, _, _, _, _⟩) (v := ?_) rfl (by kernel_rfl) (by kernel_rfl) (by kernel_rfl) (fun _ _ _ h => h) (Or.inl ⟨by rfl, ?_⟩) (by assumption) ?_
            rotate_left
            · intro w hSw; (try dsimp only at hSw); go_simp; try with_reducible rfl
            try simp only [Act.put, List.setIfInBounds_toArray, List.set_cons_zero, List.set_cons_succ]
            refine wpAnyH_take (i := 1) (oi := ⟨some 127, _, _, _, _, _⟩) (v := ?_) rfl (by kernel_rfl) (by kernel_rfl) (by kernel_rfl) (fun _ _ _ h => h) (Or.inl ⟨by rfl, ?_⟩) (by assumption) ?_
            rotate_left
            · intro w hSw; (try dsimp only at hSw); go_simp; try with_reducible rfl
            try simp only [Act.put, List.setIfInBounds_toArray, List.set_cons_zero, List.set_cons_succ]
            refine wpAnyH_take (i := 2) (oi := ⟨some 128, _, _, _, _, _⟩) (v := ?_) rfl (by kernel_rfl) (by kernel_rfl) (by kernel_rfl) (fun _ _ _ h => h) (Or.inl ⟨by rfl, ?_⟩) (by assumption) ?_
            rotate_left
            · intro w hSw; (try dsimp only at hSw); go_simp; try with_reducible rfl
            try simp only [Act.put, List.setIfInBounds_toArray, List.set_cons_zero, List.set_cons_succ]
            refine wpAnyH_take (i := 3) (oi := ⟨some 129, _, _, _, _, _⟩) (v := ?_) rfl (by kernel_rfl) (by kernel_rfl) (by kernel_rfl) (fun _ _ _ h => h) (Or.inl ⟨by rfl, ?_⟩) (by assumption) ?_
            rotate_left
            · intro w hSw; (try dsimp only at hSw); go_simp; try with_reducible rfl
            try simp only [Act.put, List.setIfInBounds_toArray, List.set_cons_zero, List.set_cons_succ]
            refine wpAnyH_take (i := 4) (oi := ⟨some 130, _, _, _, _, _⟩) (v := ?_) rfl (by kernel_rfl) (by kernel_rfl) (by kernel_rfl) (fun _ _ _ h => h) (Or.inl ⟨by rfl, ?_⟩) (by assumption) ?_
            rotate_left
            · intro w hSw; (try dsimp only at hSw); go_simp; try with_reducible rfl
            try simp only [Act.put, List.setIfInBounds_toArray, List.set_cons_zero, List.set_cons_succ]
            refine wpAnyH_take (i := 5) (oi := ⟨some 131, _, _, _, _, _⟩) (v := ?_) rfl (by kernel_rfl) (by kernel_rfl) (by kernel_rfl) (fun _ _ _ h => h) (Or.inl ⟨by rfl, ?_⟩) (by assumption) ?_
            rotate_left
            · intro w hSw; (try dsimp only at hSw); go_simp; try with_reducible rfl
            try simp only [Act.put, List.setIfInBounds_toArray, List.set_cons_zero, List.set_cons_succ]
            refine wpAnyH_take (i := 7) (oi := ⟨some 133, _, _, _, _, _⟩) (v := ?_) rfl (by kernel_rfl) (by kernel_rfl) (by kernel_rfl) (fun _ _ _ h => h) (Or.inl ⟨by rfl, ?_⟩) (by assumption) ?_
            rotate_left
            · intro w hSw; (try dsimp only at hSw); go_simp; try with_reducible rfl
            try simp only [Act.put, List.setIfInBounds_toArray, List.set_cons_zero, List.set_cons_succ]
            refine wpAnyH_take (i := 9) (oi := ⟨some 135, _, _, _, _, _⟩) (v := ?_) rfl (by kernel_rfl) (by kernel_rfl) (by kernel_rfl) (fun _ _ _ h => h) (Or.inl ⟨by rfl, ?_⟩) (by assumption) ?_
            rotate_left
            · intro w hSw; (try dsimp only at hSw); go_simp; try with_reducible rfl
            try simp only [Act.put, List.setIfInBounds_toArray, List.set_cons_zero, List.set_cons_succ]
            refine wpAnyH_take (i := 10) (oi := ⟨some 136, _, _, _, _, _⟩) (v := ?_) rfl (by kernel_rfl) (by kernel_rfl) (by kernel_rfl) (fun _ _ _ h => h) (Or.inl ⟨by rfl, ?_⟩) (by assumption) ?_
            rotate_left
            · intro w hSw; (try dsimp only at hSw); go_simp; try with_reducible rfl
            try simp only [Act.put, List.setIfInBounds_toArray, List.set_cons_zero, List.set_cons_succ]
            refine wpAnyH_take (i := 11) (oi := ⟨some 137, _, _, _, _, _⟩) (v := ?_) rfl (by kernel_rfl) (by kernel_rfl) (by kernel_rfl) (fun _ _ _ h => h) (Or.inl ⟨by rfl, ?_⟩) (by assumption) ?_
            rotate_left
            · intro w hSw; (try dsimp only at hSw); go_simp; try with_reducible rfl
            try simp only [Act.put, List.setIfInBounds_toArray, List.set_cons_zero, List.set_cons_succ]
            refine wpAnyH_take (i := 12) (oi := ⟨some 138, _, _, _, _, _⟩) (v := ?_) rfl (by kernel_rfl) (by kernel_rfl) (by kernel_rfl) (fun _ _ _ h => h) (Or.inl ⟨by rfl, ?_⟩) (by assumption) ?_
            rotate_left
            · intro w hSw; (try dsimp only at hSw); go_simp; try with_reducible rfl
            try simp only [Act.put, List.setIfInBounds_toArray, List.set_cons_zero, List.set_cons_succ]
            refine wpAnyH_take (i := 13) (oi := ⟨some 139, _, _, _, _, _⟩) (v := ?_) rfl (by kernel_rfl) (by kernel_rfl) (by kernel_rfl) (fun _ _ _ h => h) (Or.inl ⟨by rfl, ?_⟩) (by assumption) ?_
            rotate_left
            · intro w hSw; (try dsimp only at hSw); go_simp; try with_reducible rfl
            try simp only [Act.put, List.setIfInBounds_toArray, List.set_cons_zero, List.set_cons_succ]
            refine wpAnyH_take (i := 14) (oi := ⟨some 140, _, _, _, _, _⟩) (v := ?_) rfl (by kernel_rfl) (by kernel_rfl) (by kernel_rfl) (fun _ _ _ h => h) (Or.inl ⟨by rfl, ?_⟩) (by assumption) ?_
            rotate_left
            · intro w hSw; (try dsimp only at hSw); go_simp; try with_reducible rfl
            try simp only [Act.put, List.setIfInBounds_toArray, List.set_cons_zero, List.set_cons_succ]
            refine wpAnyH_ready (rs := [6]) (by kernel_rfl) (by simp) ?_
            refine AllReadyH.cons (o := ⟨some 132, _, _, _, _, _⟩) rfl (fun KK hKK => ?_) AllReadyH.nil
            go_simp
            refine Calls.mono (at_c (3 * a1) (3 * a2) _) ?_
            rintro e wt12 ⟨rfl, hb⟩
            replace ka0 := cell_later hb ka0
            replace ka1 := cell_later hb ka1
            replace kb0 := cell_later hb kb0
            replace kb1 := cell_later hb kb1
            replace kv0 := cell_later hb kv0
            replace kv1 := cell_later hb kv1
            replace ko0 := cell_later hb ko0
            replace ko1 := cell_later hb ko1
            replace ko2 := cell_later hb ko2
            replace ko3 := cell_later hb ko3
            replace ko4 := cell_later hb ko4
            replace ko5 := cell_later hb ko5
            replace kt0 := cell_later hb kt0
            replace kt1 := cell_later hb kt1
            replace kt2 := cell_later hb kt2
            replace kt3 := cell_later hb kt3
            replace kt4 := cell_later hb kt4
            replace kt5 := cell_later hb kt5
            replace za : w.heap.size < wt12.heap.size := World.block_lt_of_cell? _ _ ka0
            have za_wt12 := za
            replace zb : w.heap.size + 1 < wt12.heap.size := World.block_lt_of_cell? _ _ kb0
            have zb_wt12 := zb
            replace zv : w.heap.size + 1 + 1 < wt12.heap.size := World.block_lt_of_cell? _ _ kv0
            have zv_wt12 := zv
            replace zo : w2.heap.size < wt12.heap.size := World.block_lt_of_cell? _ _ ko0
            have zo_wt12 := zo
            replace zt : w3.heap.size < wt12.heap.size := World.block_lt_of_cell? _ _ kt0
            have zt_wt12 := zt
            replace hb0 : Below w.heap.size w wt12 := (by repeat (first | with_reducible exact Below.refl _ _ | with_reducible assumption | with_reducible refine Below.setCell ?_ (by first | omega | (simp <;> omega)) _ | with_reducible refine balloc ?_ _ | with_reducible refine Below.drew ?_ | with_reducible refine bstep ?_ (by with_reducible assumption)))
            have hs_wt12 : w11.heap.size ≤ wt12.heap.size := hb.size
            clear hb
            (try go_wp2_with fail)
            refine hKK.out _ _ (by first | (go_keep; done) | ((repeat' apply And.intro) <;> go_simp)) (fun hHeld => ?_)
            clear hKK KK
            try simp only [Act.put, List.setIfInBounds_toArray, List.set_cons_zero, List.set_cons_succ]
            refine wpAnyH_ready (rs := [8]) (by kernel_rfl) (by simp) ?_
            refine AllReadyH.cons (o := ⟨some 134, _, _, _, _, _⟩) rfl (fun KK hKK => ?_) AllReadyH.nil
            go_simp
            refine Calls.mono (arc_c 1 1 (3 * a1) (3 * a2) b1 b2 _) ?_
            rintro e wt13 ⟨rfl, hb⟩
            replace ka0 := cell_later hb ka0
            replace ka1 := cell_later hb ka1
            replace kb0 := cell_later hb kb0
            replace kb1 := cell_later hb kb1
            replace kv0 := cell_later hb kv0
            replace kv1 := cell_later hb kv1
            replace ko0 := cell_later hb ko0
            replace ko1 := cell_later hb ko1
            replace ko2 := cell_later hb ko2
            replace ko3 := cell_later hb ko3
            replace ko4 := cell_later hb ko4
            replace ko5 := cell_later hb ko5
            replace kt0 := cell_later hb kt0
            replace kt1 := cell_later hb kt1
            replace kt2 := cell_later hb kt2
            replace kt3 := cell_later hb kt3
            replace kt4 := cell_later hb kt4
            replace kt5 := cell_later hb kt5
            replace za : w.heap.size < wt13.heap.size := World.block_lt_of_cell? _ _ ka0
            have za_wt13 := za
            replace zb : w.heap.size + 1 < wt13.heap.size := World.block_lt_of_cell? _ _ kb0
            have zb_wt13 := zb
            replace zv : w.heap.size + 1 + 1 < wt13.heap.size := World.block_lt_of_cell? _ _ kv0
            have zv_wt13 := zv
            replace zo : w2.heap.size < wt13.heap.size := World.block_lt_of_cell? _ _ ko0
            have zo_wt13 := zo
            replace zt : w3.heap.size < wt13.heap.size := World.block_lt_of_cell? _ _ kt0
            have zt_wt13 := zt
            replace hb0 : Below w.heap.size w wt13 := (by repeat (first | with_reducible exact Below.refl _ _ | with_reducible assumption | with_reducible refine Below.setCell ?_ (by first | omega | (simp <;> omega)) _ | with_reducible refine balloc ?_ _ | with_reducible refine Below.drew ?_ | with_reducible refine bstep ?_ (by with_reducible assumption)))
            have hs_wt13 : wt12.heap.size ≤ wt13.heap.size := hb.size
            clear hb
            (try go_wp2_with fail)
            refine hKK.out _ _ (by first | (go_keep; done) | ((repeat' apply And.intro) <;> go_simp)) (fun hHeld => ?_)
            clear hKK KK
            try simp only [Act.put, List.setIfInBounds_toArray, List.set_cons_zero, List.set_cons_succ]
            refine wpAnyH_ready (rs := [15]) (by kernel_rfl) (by simp) ?_
            refine AllReadyH.cons (o := ⟨some 141, _, _, _, _, _⟩) rfl (fun KK hKK => ?_) AllReadyH.nil
            go_simp
            refine Calls.mono (at_c (2 * v1) (2 * v2) _) ?_
            rintro e wt14 ⟨rfl, hb⟩
            replace ka0 := cell_later hb ka0
            replace ka1 := cell_later hb ka1
            replace kb0 := cell_later hb kb0
            replace kb1 := cell_later hb kb1
            replace kv0 := cell_later hb kv0
            replace kv1 := cell_later hb kv1
            replace ko0 := cell_later hb ko0
            replace ko1 := cell_later hb ko1
            replace ko2 := cell_later hb ko2
            replace ko3 := cell_later hb ko3
            replace ko4 := cell_later hb ko4
            replace ko5 := cell_later hb ko5
            replace kt0 := cell_later hb kt0
            replace kt1 := cell_later hb kt1
            replace kt2 := cell_later hb kt2
            replace kt3 := cell_later hb kt3
            replace kt4 := cell_later hb kt4
            replace kt5 := cell_later hb kt5
            replace za : w.heap.size < wt14.heap.size := World.block_lt_of_cell? _ _ ka0
            have za_wt14 := za
            replace zb : w.heap.size + 1 < wt14.heap.size := World.block_lt_of_cell? _ _ kb0
            have zb_wt14 := zb
            replace zv : w.heap.size + 1 + 1 < wt14.heap.size := World.block_lt_of_cell? _ _ kv0
            have zv_wt14 := zv
            replace zo : w2.heap.size < wt14.heap.size := World.block_lt_of_cell? _ _ ko0
            have zo_wt14 := zo
            replace zt : w3.heap.size < wt14.heap.size := World.block_lt_of_cell? _ _ kt0
            have zt_wt14 := zt
            replace hb0 : Below w.heap.size w wt14 := (by repeat (first | with_reducible exact Below.refl _ _ | with_reducible assumption | with_reducible refine Below.setCell ?_ (by first | omega | (simp <;> omega)) _ | with_reducible refine balloc ?_ _ | with_reducible refine Below.drew ?_ | with_reducible refine bstep ?_ (by with_reducible assumption)))
            have hs_wt14 : wt13.heap.size ≤ wt14.heap.size := hb.size
            clear hb
            (try go_wp2_with fail)
            refine hKK.out _ _ (by first | (go_keep; done) | ((repeat' apply And.intro) <;> go_simp)) (fun hHeld => ?_)
            clear hKK KK
            try simp only [Act.put, List.setIfInBounds_toArray, List.set_cons_zero, List.set_cons_succ]
            refine wpAnyH_ready (rs := [16]) (by kernel_rfl) (by simp) ?_
            refine AllReadyH.cons (o := ⟨some 142, _, _, _, _, _⟩) rfl (fun KK hKK => ?_) AllReadyH.nil
            go_simp
            refine Calls.mono (HN7.out _) ?_
            rintro e wt15 ⟨rfl, hb⟩
            replace ka0 := cell_later hb ka0
            replace ka1 := cell_later hb ka1
            replace kb0 := cell_later hb kb0
            replace kb1 := cell_later hb kb1
            replace kv0 := cell_later hb kv0
            replace kv1 := cell_later hb kv1
            replace ko0 := cell_later hb ko0
            replace ko1 := cell_later hb ko1
            replace ko2 := cell_later hb ko2
            replace ko3 := cell_later hb ko3
            replace ko4 := cell_later hb ko4
            replace ko5 := cell_later hb ko5
            replace kt0 := cell_later hb kt0
            replace kt1 := cell_later hb kt1
            replace kt2 := cell_later hb kt2
            replace kt3 := cell_later hb kt3
            replace kt4 := cell_later hb kt4
            replace kt5 := cell_later hb kt5
            replace za : w.heap.size < wt15.heap.size := World.block_lt_of_cell? _ _ ka0
            have za_wt15 := za
            replace zb : w.heap.size + 1 < wt15.heap.size := World.block_lt_of_cell? _ _ kb0
            have zb_wt15 := zb
            replace zv : w.heap.size + 1 + 1 < wt15.heap.size := World.block_lt_of_cell? _ _ kv0
            have zv_wt15 := zv
            replace zo : w2.heap.size < wt15.heap.size := World.block_lt_of_cell? _ _ ko0
            have zo_wt15 := zo
            replace zt : w3.heap.size < wt15.heap.size := World.block_lt_of_cell? _ _ kt0
            have zt_wt15 := zt
            replace hb0 : Below w.heap.size w wt15 := (by repeat (first | with_reducible exact Below.refl _ _ | with_reducible assumption | with_reducible refine Below.setCell ?_ (by first | omega | (simp <;> omega)) _ | with_reducible refine balloc ?_ _ | with_reducible refine Below.drew ?_ | with_reducible refine bstep ?_ (by with_reducible assumption)))
            have hs_wt15 : wt14.heap.size ≤ wt15.heap.size := hb.size
            clear hb
            (try go_wp2_with fail)
            refine hKK.out _ _ (by first | (go_keep; done) | ((repeat' apply And.intro) <;> go_simp)) (fun hHeld => ?_)
            clear hKK KK
            try simp only [Act.put, List.setIfInBounds_toArray, List.set_cons_zero, List.set_cons_succ]
            refine wpAnyH_take (i := 17) (oi := ⟨some 125, _, _, _, _, _⟩) (v := ?_) rfl (by kernel_rfl) (by kernel_rfl) (by kernel_rfl) (fun _ _ _ h => h) (Or.inl ⟨by rfl, ?_⟩) (by assumption) ?_
            rotate_left
            · intro w hSw; (try dsimp only at hSw); go_simp; try with_reducible rfl
            try simp only [Act.put, List.setIfInBounds_toArray, List.set_cons_zero, List.set_cons_succ]
            refine wpAnyH_take (i := 18) (oi := ⟨some 143, _, _, _, _, _⟩) (v := ?_) rfl (by kernel_rfl) (by kernel_rfl) (by kernel_rfl) (fun _ _ _ h => h) (Or.inl ⟨by rfl, ?_⟩) (by assumption) ?_
            rotate_left
            · intro w hSw; (try dsimp only at hSw); go_simp; try with_reducible rfl
            try simp only [Act.put, List.setIfInBounds_toArray, List.set_cons_zero, List.set_cons_succ]
            refine wpAnyH_take (i := 19) (oi := ⟨some 144, _, _, _, _, _⟩) (v := ?_) rfl (by kernel_rfl) (by kernel_rfl) (by kernel_rfl) (fun _ _ _ h => h) (Or.inl ⟨by rfl, ?_⟩) (by assumption) ?_
            rotate_left
            · intro w hSw; (try dsimp only at hSw); go_simp; try with_reducible rfl
            try simp only [Act.put, List.setIfInBounds_toArray, List.set_cons_zero, List.set_cons_succ]
            refine wpAnyH_take (i := 20) (oi := ⟨some 20, _, _, _, _, _⟩) (v := ?_) rfl (by kernel_rfl) (by kernel_rfl) (by kernel_rfl) (fun _ _ _ h => h) (Or.inl ⟨by rfl, ?_⟩) (by assumption) ?_
            rotate_left
            · intro w hSw; (try dsimp only at hSw); go_simp; try with_reducible rfl
            try simp only [Act.put, List.setIfInBounds_toArray, List.set_cons_zero, List.set_cons_succ]
            refine wpAnyH_take (i := 21) (oi := ⟨some 21, _, _, _, _, _⟩) (v := ?_) rfl (by kernel_rfl) (by kernel_rfl) (by kernel_rfl) (fun _ _ _ h => h) (Or.inl ⟨by rfl, ?_⟩) (by assumption) ?_
            rotate_left
            · intro w hSw; (try dsimp only at hSw); go_simp; try with_reducible rfl
            try simp only [Act.put, List.setIfInBounds_toArray, List.set_cons_zero, List.set_cons_succ]
            refine wpAnyH_done (by kernel_rfl) ?_ _
            (try dsimp only [Exit.then, Met])
            go_wp2
            all_goals
              go_ret
              exact ret_bool (by simp) (by repeat (first | with_reducible exact Below.refl _ _ | with_reducible assumption | with_reducible refine Below.setCell ?_ (by first | omega | (simp <;> omega)) _ | with_reducible refine balloc ?_ _ | with_reducible refine Below.drew ?_ | with_reducible refine bstep ?_ (by with_reducible assumption)))
  · have hn : (vaS ⟨a1, a2, b1, b2, 1, 1⟩ && okD (v1, v2)) = false := by
      rw [Bool.eq_false_iff]
      intro k
      rw [Bool.and_eq_true, vaS_iff] at k
      exact hval (by rw [Bool.and_eq_true, Bool.and_eq_true]; exact ⟨k.1.1, k.1.2.1, k.2⟩)
    have hn2 : (vaS ⟨b1, b2, a1, a2, 1, 1⟩ && okD (v1, v2)) = false := by
      rw [Bool.eq_false_iff]
      intro k
      rw [Bool.and_eq_true, vaS_iff] at k
      exact hval (by rw [Bool.and_eq_true, Bool.and_eq_true]; exact ⟨k.1.2.1, k.1.1, k.2⟩)
    have HN1 := Lib.hid (fun w => In_no a1 a2 b1 b2 1 1 v1 v2 w hn)
    have HN2 := Lib.hid (fun w => In_no b1 b2 a1 a2 1 1 v1 v2 w hn2)
    clear hn hn2 hval
    go_enter Try.func4, Try.ntmps4
    go_wp2_with fail
    refine Calls.mono (HEAD _) ?_
    rintro e w1 ⟨rfl, hb⟩
    have ka0 : w1.cell? ⟨w.heap.size, 0, none⟩ = some (.int .i64 a1) := cell_later hb (by go_simp)
    have ka1 : w1.cell? ⟨w.heap.size, 1, none⟩ = some (.int .i64 a2) := cell_later hb (by go_simp)
    have kb0 : w1.cell? ⟨w.heap.size + 1, 0, none⟩ = some (.int .i64 b1) := cell_later hb (by go_simp)
    have kb1 : w1.cell? ⟨w.heap.size + 1, 1, none⟩ = some (.int .i64 b2) := cell_later hb (by go_simp)
    have kv0 : w1.cell? ⟨w.heap.size + 1 + 1, 0, none⟩ = some (.int .i64 v1) := cell_later hb (by go_simp)
    have kv1 : w1.cell? ⟨w.heap.size + 1 + 1, 1, none⟩ = some (.int .i64 v2) := cell_later hb (by go_simp)
    have za : w.heap.size < w1.heap.size := World.block_lt_of_cell? _ _ ka0
    have za_w1 := za
    have zb : w.heap.size + 1 < w1.heap.size := World.block_lt_of_cell? _ _ kb0
    have zb_w1 := zb
    have zv : w.heap.size + 1 + 1 < w1.heap.size := World.block_lt_of_cell? _ _ kv0
    have zv_w1 := zv
    have hb0 : Below w.heap.size w w1 := (by repeat (first | with_reducible exact Below.refl _ _ | with_reducible assumption | with_reducible refine Below.setCell ?_ (by first | omega | (simp <;> omega)) _ | with_reducible refine balloc ?_ _ | with_reducible refine Below.drew ?_ | with_reducible refine bstep ?_ (by with_reducible assumption)))
    have hs_w1 := hb.size; (try simp only [World.size_alloc, World.size_setCell] at hs_w1)
    clear hb
    go_wp2_with fail
    refine Calls.mono (arc_c 1 1 a1 a2 b1 b2 _) ?_
    rintro e w2 ⟨rfl, hb⟩
    replace ka0 := cell_later hb ka0
    replace ka1 := cell_later hb ka1
    replace kb0 := cell_later hb kb0
    replace kb1 := cell_later hb kb1
    replace kv0 := cell_later hb kv0
    replace kv1 := cell_later hb kv1
    replace za : w.heap.size < w2.heap.size := World.block_lt_of_cell? _ _ ka0
    have za_w2 := za
    replace zb : w.heap.size + 1 < w2.heap.size := World.block_lt_of_cell? _ _ kb0
    have zb_w2 := zb
    replace zv : w.heap.size + 1 + 1 < w2.heap.size := World.block_lt_of_cell? _ _ kv0
    have zv_w2 := zv
    replace hb0 : Below w.heap.size w w2 := (by repeat (first | with_reducible exact Below.refl _ _ | with_reducible assumption | with_reducible refine Below.setCell ?_ (by first | omega | (simp <;> omega)) _ | with_reducible refine balloc ?_ _ | with_reducible refine Below.drew ?_ | with_reducible refine bstep ?_ (by with_reducible assumption)))
    have hs_w2 : w1.heap.size ≤ w2.heap.size := hb.size
    clear hb
    go_wp2_with fail
    refine Calls.mono (arc_c 1 1 b1 b2 a1 a2 _) ?_
    rintro e w3 ⟨rfl, hb⟩
    replace ka0 := cell_later hb (cell_al _ ka0)
    replace ka1 := cell_later hb (cell_al _ ka1)
    replace kb0 := cell_later hb (cell_al _ kb0)
    replace kb1 := cell_later hb (cell_al _ kb1)
    replace kv0 := cell_later hb (cell_al _ kv0)
    replace kv1 := cell_later hb (cell_al _ kv1)
    have ko0 : w3.cell? ⟨w2.heap.size, 0, none⟩ = some (.int .i64 a1) := cell_later hb (by go_simp)
    have ko1 : w3.cell? ⟨w2.heap.size, 1, none⟩ = some (.int .i64 a2) := cell_later hb (by go_simp)
    have ko2 : w3.cell? ⟨w2.heap.size, 2, none⟩ = some (.int .i64 b1) := cell_later hb (by go_simp)
    have ko3 : w3.cell? ⟨w2.heap.size, 3, none⟩ = some (.int .i64 b2) := cell_later hb (by go_simp)
    have ko4 : w3.cell? ⟨w2.heap.size, 4, none⟩ = some (.int .i64 1) := cell_later hb (by go_simp)
    have ko5 : w3.cell? ⟨w2.heap.size, 5, none⟩ = some (.int .i64 1) := cell_later hb (by go_simp)
    replace za : w.heap.size < w3.heap.size := World.block_lt_of_cell? _ _ ka0
    have za_w3 := za
    replace zb : w.heap.size + 1 < w3.heap.size := World.block_lt_of_cell? _ _ kb0
    have zb_w3 := zb
    replace zv : w.heap.size + 1 + 1 < w3.heap.size := World.block_lt_of_cell? _ _ kv0
    have zv_w3 := zv
    have zo : w2.heap.size < w3.heap.size := World.block_lt_of_cell? _ _ ko0
    have zo_w3 := zo
    replace hb0 : Below w.heap.size w w3 := (by repeat (first | with_reducible exact Below.refl _ _ | with_reducible assumption | with_reducible refine Below.setCell ?_ (by first | omega | (simp <;> omega)) _ | with_reducible refine balloc ?_ _ | with_reducible refine Below.drew ?_ | with_reducible refine bstep ?_ (by with_reducible assumption)))
    have hs_w3 := hb.size; (try simp only [World.size_alloc, World.size_setCell] at hs_w3)
    clear hb
    go_wp2_with fail
    refine Calls.mono (HN1.out _) ?_
    rintro e w4 ⟨rfl, hb⟩
    replace ka0 := cell_later hb (cell_al _ ka0)
    replace ka1 := cell_later hb (cell_al _ ka1)
    replace kb0 := cell_later hb (cell_al _ kb0)
    replace kb1 := cell_later hb (cell_al _ kb1)
    replace kv0 := cell_later hb (cell_al _ kv0)
    replace kv1 := cell_later hb (cell_al _ kv1)
    replace ko0 := cell_later hb (cell_al _ ko0)
    replace ko1 := cell_later hb (cell_al _ ko1)
    replace ko2 := cell_later hb (cell_al _ ko2)
    replace ko3 := cell_later hb (cell_al _ ko3)
    replace ko4 := cell_later hb (cell_al _ ko4)
    replace ko5 := cell_later hb (cell_al _ ko5)
    have kt0 : w4.cell? ⟨w3.heap.size, 0, none⟩ = some (.int .i64 b1) := cell_later hb (by go_simp)
    have kt1 : w4.cell? ⟨w3.heap.size, 1, none⟩ = some (.int .i64 b2) := cell_later hb (by go_simp)
    have kt2 : w4.cell? ⟨w3.heap.size, 2, none⟩ = some (.int .i64 a1) := cell_later hb (by go_simp)
    have kt3 : w4.cell? ⟨w3.heap.size, 3, none⟩ = some (.int .i64 a2) := cell_later hb (by go_simp)
    have kt4 : w4.cell? ⟨w3.heap.size, 4, none⟩ = some (.int .i64 1) := cell_later hb (by go_simp)
    have kt5 : w4.cell? ⟨w3.heap.size, 5, none⟩ = some (.int .i64 1) := cell_later hb (by go_simp)
    replace za : w.heap.size < w4.heap.size := World.block_lt_of_cell? _ _ ka0
    have za_w4 := za
    replace zb : w.heap.size + 1 < w4.heap.size := World.block_lt_of_cell? _ _ kb0
    have zb_w4 := zb
    replace zv : w.heap.size + 1 + 1 < w4.heap.size := World.block_lt_of_cell? _ _ kv0
    have zv_w4 := zv
    replace zo : w2.heap.size < w4.heap.size := World.block_lt_of_cell? _ _ ko0
    have zo_w4 := zo
    have zt : w3.heap.size < w4.heap.size := World.block_lt_of_cell? _ _ kt0
    have zt_w4 := zt
    replace hb0 : Below w.heap.size w w4 := (by repeat (first | with_reducible exact Below.refl _ _ | with_reducible assumption | with_reducible refine Below.setCell ?_ (by first | omega | (simp <;> omega)) _ | with_reducible refine balloc ?_ _ | with_reducible refine Below.drew ?_ | with_reducible refine bstep ?_ (by with_reducible assumption)))
    have hs_w4 := hb.size; (try simp only [World.size_alloc, World.size_setCell] at hs_w4)
    clear hb
    go_wp2_with fail
    refine Calls.mono (HN2.out _) ?_
    rintro e w5 ⟨rfl, hb⟩
    replace ka0 := cell_later hb ka0
    replace ka1 := cell_later hb ka1
    replace kb0 := cell_later hb kb0
    replace kb1 := cell_later hb kb1
    replace kv0 := cell_later hb kv0
    replace kv1 := cell_later hb kv1
    replace ko0 := cell_later hb ko0
    replace ko1 := cell_later hb ko1
    replace ko2 := cell_later hb ko2
    replace ko3 := cell_later hb ko3
    replace ko4 := cell_later hb ko4
    replace ko5 := cell_later hb ko5
    replace kt0 := cell_later hb kt0
    replace kt1 := cell_later hb kt1
    replace kt2 := cell_later hb kt2
    replace kt3 := cell_later hb kt3
    replace kt4 := cell_later hb kt4
    replace kt5 := cell_later hb kt5
    replace za : w.heap.size < w5.heap.size := World.block_lt_of_cell? _ _ ka0
    have za_w5 := za
    replace zb : w.heap.size + 1 < w5.heap.size := World.block_lt_of_cell? _ _ kb0
    have zb_w5 := zb
    replace zv : w.heap.size + 1 + 1 < w5.heap.size := World.block_lt_of_cell? _ _ kv0
    have zv_w5 := zv
    replace zo : w2.heap.size < w5.heap.size := World.block_lt_of_cell? _ _ ko0
    have zo_w5 := zo
    replace zt : w3.heap.size < w5.heap.size := World.block_lt_of_cell? _ _ kt0
    have zt_w5 := zt
    replace hb0 : Below w.heap.size w w5 := (by repeat (first | with_reducible exact Below.refl _ _ | with_reducible assumption | with_reducible refine Below.setCell ?_ (by first | omega | (simp <;> omega)) _ | with_reducible refine balloc ?_ _ | with_reducible refine Below.drew ?_ | with_reducible refine bstep ?_ (by with_reducible assumption)))
    have hs_w5 : w4.heap.size ≤ w5.heap.size := hb.size
    clear hb
    go_wp2
    all_goals
      go_ret
      exact ret_bool (by simp) (by repeat (first | with_reducible exact Below.refl _ _ | with_reducible assumption | with_reducible refine Below.setCell ?_ (by first | omega | (simp <;> omega)) _ | with_reducible refine balloc ?_ _ | with_reducible refine Below.drew ?_ | with_reducible refine bstep ?_ (by with_reducible assumption)))


end Go.Proofs.Ytfhhocihlkgfjaa.Se

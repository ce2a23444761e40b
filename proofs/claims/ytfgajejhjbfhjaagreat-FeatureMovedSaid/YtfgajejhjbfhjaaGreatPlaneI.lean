/- The exported functions Lies and Close of package plane: the walks. -/
import Derived.Test.YtfgajejhjbfhjaaGreatGa
import Derived.Deep.DeepCutAuto
namespace Go.Proofs.YtfgajejhjbfhjaaGreat
open Go.RowKit

def lieB (p1 p2 k q1 q2 l : Int) : Bool := decide (k ≤ l) && decide (sq p1 p2 q1 q2 ≤ (l - k) * (l - k))
def closeB (a1 a2 b1 b2 c1 c2 d1 d2 r : Int) : Bool := meetB a1 a2 b1 b2 c1 c2 d1 d2 || anyNear a1 a2 b1 b2 c1 c2 d1 d2 r

set_option maxHeartbeats 400000 in
theorem Lies_ok (p1 p2 k q1 q2 l : Int) (w : World) (hp : ok p1 p2) (hq : ok q1 q2) (hk : okd k) (hl : okd l) : Calls Tryz.prog 147 #[(.agg #[.int .i64 p1, .int .i64 p2]), (.int .i64 k), (.agg #[.int .i64 q1, .int .i64 q2]), (.int .i64 l)] w (Ret w (.tuple #[(.bool (lieB p1 p2 k q1 q2 l)), (.int .i64 0)])) := by
  have hv : ok2 p1 p2 q1 q2 = true := ok2_iff.2 ⟨hp, hq⟩
  have vk : okdB k = true := okdB_iff.2 hk
  have vl : okdB l = true := okdB_iff.2 hl
  go_enter Tryz.func147, Tryz.ntmps147
  go_wp2_with fail
  refine (allValid2_c p1 p2 q1 q2 _ _ (by go_simp) (by go_simp) (by go_simp) (by go_simp) (by first | omega | (simp <;> omega))).mono ?_
  rintro e w1 ⟨rfl, hb1⟩
  obtain ⟨hc1, hf1⟩ := bcell hb1
  have hs : _ ≤ w1.heap.size := hb1.size
  (try simp at hs)
  go_wp2_with fail
  refine (vdist_c _ _).mono ?_
  rintro e w2 ⟨rfl, rfl⟩
  go_wp2_with fail
  refine (vdist_c _ _).mono ?_
  rintro e w2 ⟨rfl, rfl⟩
  obtain ⟨hk1, hk2⟩ := hk
  obtain ⟨hl1, hl2⟩ := hl
  obtain ⟨n1, n2⟩ := mul_bd (a := l - k) (b := l - k) (A := 3000000) (B := 3000000) (by omega) (by omega) (by omega) (by omega)
  by_cases hkl : k ≤ l
  · have hkl' : 0 ≤ l - k := by omega
    go_wp2_with fail
    refine (sq_c p1 p2 q1 q2 _ hp hq).mono ?_
    rintro e w3 ⟨rfl, hb3⟩
    go_wp2
    go_ret2
    exact ret_bool2 (by simp [lieB, hkl]) (by repeat (first | with_reducible exact Below.refl _ _ | with_reducible assumption | with_reducible refine Below.setCell ?_ (by first | omega | (simp <;> omega)) _ | with_reducible refine balloc ?_ _ | with_reducible refine Below.drew ?_ | with_reducible refine bstep ?_ (by with_reducible assumption)))
  · have hkl' : l - k < 0 := by omega
    go_wp2
    go_ret2
    exact ret_bool2 (by simp [lieB] <;> omega) (by repeat (first | with_reducible exact Below.refl _ _ | with_reducible assumption | with_reducible refine Below.setCell ?_ (by first | omega | (simp <;> omega)) _ | with_reducible refine balloc ?_ _ | with_reducible refine Below.drew ?_ | with_reducible refine bstep ?_ (by with_reducible assumption)))

set_option maxHeartbeats 400000 in
theorem Lies_no (p1 p2 k q1 q2 l : Int) (w : World) (hn : ¬ (ok p1 p2 ∧ ok q1 q2 ∧ okd k ∧ okd l)) : Calls Tryz.prog 147 #[(.agg #[.int .i64 p1, .int .i64 p2]), (.int .i64 k), (.agg #[.int .i64 q1, .int .i64 q2]), (.int .i64 l)] w (Ret w (.tuple #[(.bool false), (.int .i64 1)])) := by
  by_cases hp : ok2 p1 p2 q1 q2 = true
  · have hm := ok2_iff.1 hp
    have hx : ¬ (okd k ∧ okd l) := fun h => hn (by simp [hm, h])
    clear hm
    by_cases hd : okdB k = true
    · have ve : okdB l = false := by
        rw [Bool.eq_false_iff]
        exact fun h => hx ⟨okdB_iff.1 hd, okdB_iff.1 h⟩
      clear hx hn
      go_enter Tryz.func147, Tryz.ntmps147
      go_wp2_with fail
      refine (allValid2_c p1 p2 q1 q2 _ _ (by go_simp) (by go_simp) (by go_simp) (by go_simp) (by first | omega | (simp <;> omega))).mono ?_
      rintro e w1 ⟨rfl, hb1⟩
      obtain ⟨hc1, hf1⟩ := bcell hb1
      have hs : _ ≤ w1.heap.size := hb1.size
      (try simp at hs)
      go_wp2_with fail
      refine (vdist_c _ _).mono ?_
      rintro e w2 ⟨rfl, rfl⟩
      go_wp2_with fail
      refine (vdist_c _ _).mono ?_
      rintro e w2 ⟨rfl, rfl⟩
      go_wp2
      go_ret2
      exact ⟨rfl, (by repeat (first | with_reducible exact Below.refl _ _ | with_reducible assumption | with_reducible refine Below.setCell ?_ (by first | omega | (simp <;> omega)) _ | with_reducible refine balloc ?_ _ | with_reducible refine Below.drew ?_ | with_reducible refine bstep ?_ (by with_reducible assumption)))⟩
    · have vd : okdB k = false := by simpa using hd
      clear hx hn
      go_enter Tryz.func147, Tryz.ntmps147
      go_wp2_with fail
      refine (allValid2_c p1 p2 q1 q2 _ _ (by go_simp) (by go_simp) (by go_simp) (by go_simp) (by first | omega | (simp <;> omega))).mono ?_
      rintro e w1 ⟨rfl, hb1⟩
      obtain ⟨hc1, hf1⟩ := bcell hb1
      have hs : _ ≤ w1.heap.size := hb1.size
      (try simp at hs)
      go_wp2_with fail
      refine (vdist_c _ _).mono ?_
      rintro e w2 ⟨rfl, rfl⟩
      go_wp2
      go_ret2
      exact ⟨rfl, (by repeat (first | with_reducible exact Below.refl _ _ | with_reducible assumption | with_reducible refine Below.setCell ?_ (by first | omega | (simp <;> omega)) _ | with_reducible refine balloc ?_ _ | with_reducible refine Below.drew ?_ | with_reducible refine bstep ?_ (by with_reducible assumption)))⟩
  · have hv : ok2 p1 p2 q1 q2 = false := by simpa using hp
    go_enter Tryz.func147, Tryz.ntmps147
    go_wp2_with fail
    refine (allValid2_c p1 p2 q1 q2 _ _ (by go_simp) (by go_simp) (by go_simp) (by go_simp) (by first | omega | (simp <;> omega))).mono ?_
    rintro e w1 ⟨rfl, hb1⟩
    obtain ⟨hc1, hf1⟩ := bcell hb1
    go_wp2
    go_ret2
    exact ⟨rfl, (by repeat (first | with_reducible exact Below.refl _ _ | with_reducible assumption | with_reducible refine Below.setCell ?_ (by first | omega | (simp <;> omega)) _ | with_reducible refine balloc ?_ _ | with_reducible refine Below.drew ?_ | with_reducible refine bstep ?_ (by with_reducible assumption)))⟩

end Go.Proofs.YtfgajejhjbfhjaaGreat

/- The exported functions Lies and Close of package plane: the walks. -/
import Derived.Test.YtakhkeipoldpoaaPlaneH
import Derived.Deep.DeepCutAuto
namespace Go.Proofs.Ytakhkeipoldpoaa
open Go.RowKit

def lieB (p1 p2 k q1 q2 l : Int) : Bool := decide (k ≤ l) && decide (sq p1 p2 q1 q2 ≤ (l - k) * (l - k))
def closeB (a1 a2 b1 b2 c1 c2 d1 d2 r : Int) : Bool := meetB a1 a2 b1 b2 c1 c2 d1 d2 || anyNear a1 a2 b1 b2 c1 c2 d1 d2 r

set_option maxHeartbeats 400000 in
theorem Lies_ok (p1 p2 k q1 q2 l : Int) (w : World) (hp : ok p1 p2) (hq : ok q1 q2) (hk : okd k) (hl : okd l) : Calls Try.prog 26 #[(.agg #[.int .i64 p1, .int .i64 p2]), (.int .i64 k), (.agg #[.int .i64 q1, .int .i64 q2]), (.int .i64 l)] w (Ret w (.tuple #[(.bool (lieB p1 p2 k q1 q2 l)), (.int .i64 0)])) := by
  have hv : ok2 p1 p2 q1 q2 = true := ok2_iff.2 ⟨hp, hq⟩
  have vk : okdB k = true := okdB_iff.2 hk
  have vl : okdB l = true := okdB_iff.2 hl
  go_enter Try.func26, Try.ntmps26
  go_wp2_with fail
  refine (allValid2_c p1 p2 q1 q2 _ _ (by go_simp) (by go_simp) (by go_simp) (by go_simp) (by first | omega | (simp <;> omega))).mono ?_
  rintro e w1 ⟨rfl, hb1⟩
  obtain ⟨hc1, hf1⟩ := bcell hb1
  have hs : _ ≤ w1.heap.size := hb1.size
  (try simp at hs)
  go_wp2_with fail
  refine (vdist_c _ _).mono ?_
  rintro e w2 ⟨rfl, rfl⟩
  go_wp2_with fail
  refine (vdist_c _ _).mono ?_
  rintro e w2 ⟨rfl, rfl⟩
  obtain ⟨hk1, hk2⟩ := hk
  obtain ⟨hl1, hl2⟩ := hl
  obtain ⟨n1, n2⟩ := mul_bd (a := l - k) (b := l - k) (A := 3000000) (B := 3000000) (by omega) (by omega) (by omega) (by omega)
  by_cases hkl : k ≤ l
  · have hkl' : 0 ≤ l - k := by omega
    go_wp2_with fail
    refine (sq_c p1 p2 q1 q2 _ hp hq).mono ?_
    rintro e w3 ⟨rfl, hb3⟩
    go_wp2
    go_ret2
    exact ret_bool2 (by simp [lieB, hkl]) (by repeat (first | exact Below.refl _ _ | assumption | refine bstep ?_ (by assumption) | refine Below.drew ?_ | refine balloc ?_ _ | refine Below.setCell ?_ (by first | omega | (simp <;> omega)) _))
  · have hkl' : l - k < 0 := by omega
    go_wp2
    go_ret2
    exact ret_bool2 (by simp [lieB] <;> omega) (by repeat (first | exact Below.refl _ _ | assumption | refine bstep ?_ (by assumption) | refine Below.drew ?_ | refine balloc ?_ _ | refine Below.setCell ?_ (by first | omega | (simp <;> omega)) _))

set_option maxHeartbeats 400000 in
theorem Lies_no (p1 p2 k q1 q2 l : Int) (w : World) (hn : ¬ (ok p1 p2 ∧ ok q1 q2 ∧ okd k ∧ okd l)) : Calls Try.prog 26 #[(.agg #[.int .i64 p1, .int .i64 p2]), (.int .i64 k), (.agg #[.int .i64 q1, .int .i64 q2]), (.int .i64 l)] w (Ret w (.tuple #[(.bool false), (.int .i64 1)])) := by
  by_cases hp : ok2 p1 p2 q1 q2 = true
  · have hm := ok2_iff.1 hp
    have hx : ¬ (okd k ∧ okd l) := fun h => hn (by simp [hm, h])
    clear hm
    by_cases hd : okdB k = true
    · have ve : okdB l = false := by
        rw [Bool.eq_false_iff]
        exact fun h => hx ⟨okdB_iff.1 hd, okdB_iff.1 h⟩
      clear hx hn
      go_enter Try.func26, Try.ntmps26
      go_wp2_with fail
      refine (allValid2_c p1 p2 q1 q2 _ _ (by go_simp) (by go_simp) (by go_simp) (by go_simp) (by first | omega | (simp <;> omega))).mono ?_
      rintro e w1 ⟨rfl, hb1⟩
      obtain ⟨hc1, hf1⟩ := bcell hb1
      have hs : _ ≤ w1.heap.size := hb1.size
      (try simp at hs)
      go_wp2_with fail
      refine (vdist_c _ _).mono ?_
      rintro e w2 ⟨rfl, rfl⟩
      go_wp2_with fail
      refine (vdist_c _ _).mono ?_
      rintro e w2 ⟨rfl, rfl⟩
      go_wp2
      go_ret2
      exact ⟨rfl, (by repeat (first | exact Below.refl _ _ | assumption | refine bstep ?_ (by assumption) | refine Below.drew ?_ | refine balloc ?_ _ | refine Below.setCell ?_ (by first | omega | (simp <;> omega)) _))⟩
    · have vd : okdB k = false := by simpa using hd
      clear hx hn
      go_enter Try.func26, Try.ntmps26
      go_wp2_with fail
      refine (allValid2_c p1 p2 q1 q2 _ _ (by go_simp) (by go_simp) (by go_simp) (by go_simp) (by first | omega | (simp <;> omega))).mono ?_
      rintro e w1 ⟨rfl, hb1⟩
      obtain ⟨hc1, hf1⟩ := bcell hb1
      have hs : _ ≤ w1.heap.size := hb1.size
      (try simp at hs)
      go_wp2_with fail
      refine (vdist_c _ _).mono ?_
      rintro e w2 ⟨rfl, rfl⟩
      go_wp2
      go_ret2
      exact ⟨rfl, (by repeat (first | exact Below.refl _ _ | assumption | refine bstep ?_ (by assumption) | refine Below.drew ?_ | refine balloc ?_ _ | refine Below.setCell ?_ (by first | omega | (simp <;> omega)) _))⟩
  · have hv : ok2 p1 p2 q1 q2 = false := by simpa using hp
    go_enter Try.func26, Try.ntmps26
    go_wp2_with fail
    refine (allValid2_c p1 p2 q1 q2 _ _ (by go_simp) (by go_simp) (by go_simp) (by go_simp) (by first | omega | (simp <;> omega))).mono ?_
    rintro e w1 ⟨rfl, hb1⟩
    obtain ⟨hc1, hf1⟩ := bcell hb1
    go_wp2
    go_ret2
    exact ⟨rfl, (by repeat (first | exact Below.refl _ _ | assumption | refine bstep ?_ (by assumption) | refine Below.drew ?_ | refine balloc ?_ _ | refine Below.setCell ?_ (by first | omega | (simp <;> omega)) _))⟩

set_option maxHeartbeats 800000 in
theorem Close_ok (a1 a2 b1 b2 c1 c2 d1 d2 r : Int) (w : World) (ha : ok a1 a2) (hb : ok b1 b2) (hc : ok c1 c2) (hd : ok d1 d2) (hr : okd r) : Calls Try.prog 22 #[(.agg #[.int .i64 a1, .int .i64 a2]), (.agg #[.int .i64 b1, .int .i64 b2]), (.agg #[.int .i64 c1, .int .i64 c2]), (.agg #[.int .i64 d1, .int .i64 d2]), (.int .i64 r)] w (Ret w (.tuple #[(.bool (closeB a1 a2 b1 b2 c1 c2 d1 d2 r)), (.int .i64 0)])) := by
  have hv : ok4 a1 a2 b1 b2 c1 c2 d1 d2 = true := ok4_iff.2 ⟨ha, hb, hc, hd⟩
  have vr : okdB r = true := okdB_iff.2 hr
  go_enter Try.func22, Try.ntmps22
  go_wp2_with fail
  refine (allValid4_c a1 a2 b1 b2 c1 c2 d1 d2 _ _ (by go_simp) (by go_simp) (by go_simp) (by go_simp) (by go_simp) (by go_simp) (by go_simp) (by go_simp) (by first | omega | (simp <;> omega))).mono ?_
  rintro e w1 ⟨rfl, hb1⟩
  obtain ⟨hc1, hf1⟩ := bcell hb1
  have hs : _ ≤ w1.heap.size := hb1.size
  (try simp at hs)
  go_wp2_with fail
  refine (vdist_c _ _).mono ?_
  rintro e w2 ⟨rfl, rfl⟩
  have z0 : w.heap.size < w1.heap.size := by omega
  have z1 : w.heap.size + 1 < w1.heap.size := by omega
  have z2 : w.heap.size + 1 + 1 < w1.heap.size := by omega
  have z3 : w.heap.size + 1 + 1 + 1 < w1.heap.size := by omega
  have z4 : w.heap.size + 1 + 1 + 1 + 1 < w1.heap.size := by omega
  go_upto_region 3 with fail
  go_cut [12, 13] (fun s12 s13 wx => ∃ A B : Nat, s12 = .pointer (some ⟨A, 0, none⟩) ∧ s13 = .pointer (some ⟨B, 0, none⟩) ∧
    wx.cell? ⟨A, 0, none⟩ = some (.int .i64 a1) ∧ wx.cell? ⟨A, 1, none⟩ = some (.int .i64 a2) ∧ wx.cell? ⟨A, 2, none⟩ = some (.int .i64 b1) ∧ wx.cell? ⟨A, 3, none⟩ = some (.int .i64 b2) ∧ wx.cell? ⟨B, 0, none⟩ = some (.int .i64 c1) ∧ wx.cell? ⟨B, 1, none⟩ = some (.int .i64 c2) ∧ wx.cell? ⟨B, 2, none⟩ = some (.int .i64 d1) ∧ wx.cell? ⟨B, 3, none⟩ = some (.int .i64 d2) ∧ wx.cell? ⟨w.heap.size + 1 + 1 + 1 + 1, 0, none⟩ = some (.int .i64 r) ∧ w.heap.size + 1 + 1 + 1 + 1 < wx.heap.size ∧ A < wx.heap.size ∧ B < wx.heap.size ∧ Below w.heap.size w wx)
  case first =>
    go_region
    all_goals
      go_wp2_with fail
      go_meet
      refine ⟨_, _, rfl, rfl, ?_, ?_, ?_, ?_, ?_, ?_, ?_, ?_, ?_, ?_, ?_, ?_, (by repeat (first | exact Below.refl _ _ | assumption | refine bstep ?_ (by assumption) | refine Below.drew ?_ | refine balloc ?_ _ | refine Below.setCell ?_ (by first | omega | (simp <;> omega)) _))⟩
      all_goals go_simp
      all_goals omega
  case rest =>
    obtain ⟨A, B, rfl, rfl, k1, k2, k3, k4, k5, k6, k7, k8, k9, l1, l2, l3, hb0⟩ := hcut
    go_wp2_with fail
    refine (meet_c a1 a2 b1 b2 c1 c2 d1 d2 _ ha hb hc hd).mono ?_
    rintro e w3 ⟨rfl, hb3⟩
    obtain ⟨hc3, hf3⟩ := bcell hb3
    have hs3 := hb3.size
    have g1 := fun o => hc3 A o (by omega)
    have g2 := fun o => hc3 B o (by omega)
    have g3 := fun o => hc3 (w.heap.size + 1 + 1 + 1 + 1) o (by omega)
    clear hc3 hf3
    cases q1 : meetB a1 a2 b1 b2 c1 c2 d1 d2
    · go_wp2_with fail
      refine (anyNear_c a1 a2 b1 b2 c1 c2 d1 d2 r (w.heap.size + 1 + 1 + 1 + 1) _ ha hb hc hd hr (by go_simp) (by omega)).mono ?_
      rintro e w4 ⟨rfl, hb4⟩
      go_wp2
      go_ret2
      exact ret_bool2 (by simp [closeB, q1]) (by repeat (first | exact Below.refl _ _ | assumption | refine bstep ?_ (by assumption) | refine Below.drew ?_ | refine balloc ?_ _ | refine Below.setCell ?_ (by first | omega | (simp <;> omega)) _))
    · go_wp2
      go_ret2
      exact ret_bool2 (by simp [closeB, q1]) (by repeat (first | exact Below.refl _ _ | assumption | refine bstep ?_ (by assumption) | refine Below.drew ?_ | refine balloc ?_ _ | refine Below.setCell ?_ (by first | omega | (simp <;> omega)) _))

set_option maxHeartbeats 800000 in
theorem Close_no (a1 a2 b1 b2 c1 c2 d1 d2 r : Int) (w : World) (hn : ¬ (ok a1 a2 ∧ ok b1 b2 ∧ ok c1 c2 ∧ ok d1 d2 ∧ okd r)) : Calls Try.prog 22 #[(.agg #[.int .i64 a1, .int .i64 a2]), (.agg #[.int .i64 b1, .int .i64 b2]), (.agg #[.int .i64 c1, .int .i64 c2]), (.agg #[.int .i64 d1, .int .i64 d2]), (.int .i64 r)] w (Ret w (.tuple #[(.bool false), (.int .i64 1)])) := by
  by_cases hp : ok4 a1 a2 b1 b2 c1 c2 d1 d2 = true
  · have hm := ok4_iff.1 hp
    have hx : ¬ (okd r) := fun h => hn (by simp [hm, h])
    have vd : okdB r = false := by
      rw [Bool.eq_false_iff]
      exact fun h => hx (okdB_iff.1 h)
    clear hm hx hn
    go_enter Try.func22, Try.ntmps22
    go_wp2_with fail
    refine (allValid4_c a1 a2 b1 b2 c1 c2 d1 d2 _ _ (by go_simp) (by go_simp) (by go_simp) (by go_simp) (by go_simp) (by go_simp) (by go_simp) (by go_simp) (by first | omega | (simp <;> omega))).mono ?_
    rintro e w1 ⟨rfl, hb1⟩
    obtain ⟨hc1, hf1⟩ := bcell hb1
    have hs : _ ≤ w1.heap.size := hb1.size
    (try simp at hs)
    go_wp2_with fail
    refine (vdist_c _ _).mono ?_
    rintro e w2 ⟨rfl, rfl⟩
    go_wp2
    go_ret2
    exact ⟨rfl, (by repeat (first | exact Below.refl _ _ | assumption | refine bstep ?_ (by assumption) | refine Below.drew ?_ | refine balloc ?_ _ | refine Below.setCell ?_ (by first | omega | (simp <;> omega)) _))⟩
  · have hv : ok4 a1 a2 b1 b2 c1 c2 d1 d2 = false := by simpa using hp
    go_enter Try.func22, Try.ntmps22
    go_wp2_with fail
    refine (allValid4_c a1 a2 b1 b2 c1 c2 d1 d2 _ _ (by go_simp) (by go_simp) (by go_simp) (by go_simp) (by go_simp) (by go_simp) (by go_simp) (by go_simp) (by first | omega | (simp <;> omega))).mono ?_
    rintro e w1 ⟨rfl, hb1⟩
    obtain ⟨hc1, hf1⟩ := bcell hb1
    go_wp2
    go_ret2
    exact ⟨rfl, (by repeat (first | exact Below.refl _ _ | assumption | refine bstep ?_ (by assumption) | refine Below.drew ?_ | refine balloc ?_ _ | refine Below.setCell ?_ (by first | omega | (simp <;> omega)) _))⟩


end Go.Proofs.Ytakhkeipoldpoaa

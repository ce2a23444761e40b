/- RefN: the law's walk. -/
import Derived.Test.YtakhkeipoldpoaaRefJ
import Derived.Test.YtakhkeipoldpoaaRefK
import Derived.Test.YtakhkeipoldpoaaRefL
import Derived.Test.YtakhkeipoldpoaaRefM
import Derived.Test.YtakhkeipoldpoaaLawNearA
namespace Go.Proofs.Ytakhkeipoldpoaa
open Go.RowKit

def errV (b : Bool) : Int := if b then 0 else 1
def selI (b : Bool) (x : Int) : Int := if b then x else 0
def selB (b : Bool) (x : Bool) : Bool := if b then x else false
def vTurn (a1 a2 b1 b2 c1 c2 : Int) : Bool := okB a1 a2 && okB b1 b2 && okB c1 c2
theorem PTurn_c (a1 a2 b1 b2 c1 c2 : Int) (w : World) : Calls Try.prog 14 #[(.agg #[.int .i64 a1, .int .i64 a2]), (.agg #[.int .i64 b1, .int .i64 b2]), (.agg #[.int .i64 c1, .int .i64 c2])] w (Ret w (.tuple #[(.int .i64 (selI (vTurn a1 a2 b1 b2 c1 c2) (turn a1 a2 b1 b2 c1 c2))), (.int .i64 (errV (vTurn a1 a2 b1 b2 c1 c2)))])) := by
  cases h : vTurn a1 a2 b1 b2 c1 c2
  · have h2 := h
    unfold vTurn at h2
    refine (Turn_no a1 a2 b1 b2 c1 c2 w (fun k => ?_)).mono fun e w2 hh => ?_
    · obtain ⟨ka, kb, kc⟩ := k
      have ma := okB_iff.2 ka
      have mb := okB_iff.2 kb
      have mc := okB_iff.2 kc
      rw [ma, mb, mc] at h2
      cases h2
    · exact hh
  · have h2 := h
    unfold vTurn at h2
    simp only [Bool.and_eq_true, okB_iff] at h2
    obtain ⟨⟨ka, kb⟩, kc⟩ := h2
    exact Turn_ok a1 a2 b1 b2 c1 c2 w ka kb kc
theorem RTurn_c (a1 a2 b1 b2 c1 c2 : Int) (w : World) : Calls Try.prog 15 #[(.agg #[.int .i64 a1, .int .i64 a2]), (.agg #[.int .i64 b1, .int .i64 b2]), (.agg #[.int .i64 c1, .int .i64 c2])] w (Ret w (.tuple #[(.int .i64 (selI (vTurn a1 a2 b1 b2 c1 c2) (turn a1 a2 b1 b2 c1 c2))), (.int .i64 (errV (vTurn a1 a2 b1 b2 c1 c2)))])) := by
  cases h : vTurn a1 a2 b1 b2 c1 c2
  · have h2 := h
    unfold vTurn at h2
    refine (rTurn_no a1 a2 b1 b2 c1 c2 w (fun k => ?_)).mono fun e w2 hh => ?_
    · obtain ⟨ka, kb, kc⟩ := k
      have ma := okB_iff.2 ka
      have mb := okB_iff.2 kb
      have mc := okB_iff.2 kc
      rw [ma, mb, mc] at h2
      cases h2
    · exact hh
  · have h2 := h
    unfold vTurn at h2
    simp only [Bool.and_eq_true, okB_iff] at h2
    obtain ⟨⟨ka, kb⟩, kc⟩ := h2
    exact rTurn_ok a1 a2 b1 b2 c1 c2 w ka kb kc
def vOn (p1 p2 a1 a2 b1 b2 : Int) : Bool := okB p1 p2 && okB a1 a2 && okB b1 b2
theorem POn_c (p1 p2 a1 a2 b1 b2 : Int) (w : World) : Calls Try.prog 16 #[(.agg #[.int .i64 p1, .int .i64 p2]), (.agg #[.int .i64 a1, .int .i64 a2]), (.agg #[.int .i64 b1, .int .i64 b2])] w (Ret w (.tuple #[(.bool (selB (vOn p1 p2 a1 a2 b1 b2) (on p1 p2 a1 a2 b1 b2))), (.int .i64 (errV (vOn p1 p2 a1 a2 b1 b2)))])) := by
  cases h : vOn p1 p2 a1 a2 b1 b2
  · have h2 := h
    unfold vOn at h2
    refine (On_no p1 p2 a1 a2 b1 b2 w (fun k => ?_)).mono fun e w2 hh => ?_
    · obtain ⟨kp, ka, kb⟩ := k
      have mp := okB_iff.2 kp
      have ma := okB_iff.2 ka
      have mb := okB_iff.2 kb
      rw [mp, ma, mb] at h2
      cases h2
    · exact hh
  · have h2 := h
    unfold vOn at h2
    simp only [Bool.and_eq_true, okB_iff] at h2
    obtain ⟨⟨kp, ka⟩, kb⟩ := h2
    exact On_ok p1 p2 a1 a2 b1 b2 w kp ka kb
theorem ROn_c (p1 p2 a1 a2 b1 b2 : Int) (w : World) : Calls Try.prog 17 #[(.agg #[.int .i64 p1, .int .i64 p2]), (.agg #[.int .i64 a1, .int .i64 a2]), (.agg #[.int .i64 b1, .int .i64 b2])] w (Ret w (.tuple #[(.bool (selB (vOn p1 p2 a1 a2 b1 b2) (on p1 p2 a1 a2 b1 b2))), (.int .i64 (errV (vOn p1 p2 a1 a2 b1 b2)))])) := by
  cases h : vOn p1 p2 a1 a2 b1 b2
  · have h2 := h
    unfold vOn at h2
    refine (rOn_no p1 p2 a1 a2 b1 b2 w (fun k => ?_)).mono fun e w2 hh => ?_
    · obtain ⟨kp, ka, kb⟩ := k
      have mp := okB_iff.2 kp
      have ma := okB_iff.2 ka
      have mb := okB_iff.2 kb
      rw [mp, ma, mb] at h2
      cases h2
    · exact hh
  · have h2 := h
    unfold vOn at h2
    simp only [Bool.and_eq_true, okB_iff] at h2
    obtain ⟨⟨kp, ka⟩, kb⟩ := h2
    exact rOn_ok p1 p2 a1 a2 b1 b2 w kp ka kb
def vMeet (a1 a2 b1 b2 c1 c2 d1 d2 : Int) : Bool := okB a1 a2 && okB b1 b2 && okB c1 c2 && okB d1 d2
theorem PMeet_c (a1 a2 b1 b2 c1 c2 d1 d2 : Int) (w : World) : Calls Try.prog 18 #[(.agg #[.int .i64 a1, .int .i64 a2]), (.agg #[.int .i64 b1, .int .i64 b2]), (.agg #[.int .i64 c1, .int .i64 c2]), (.agg #[.int .i64 d1, .int .i64 d2])] w (Ret w (.tuple #[(.bool (selB (vMeet a1 a2 b1 b2 c1 c2 d1 d2) (meetB a1 a2 b1 b2 c1 c2 d1 d2))), (.int .i64 (errV (vMeet a1 a2 b1 b2 c1 c2 d1 d2)))])) := by
  cases h : vMeet a1 a2 b1 b2 c1 c2 d1 d2
  · have h2 := h
    unfold vMeet at h2
    refine (Meet_no a1 a2 b1 b2 c1 c2 d1 d2 w (fun k => ?_)).mono fun e w2 hh => ?_
    · obtain ⟨ka, kb, kc, kd⟩ := k
      have ma := okB_iff.2 ka
      have mb := okB_iff.2 kb
      have mc := okB_iff.2 kc
      have md := okB_iff.2 kd
      rw [ma, mb, mc, md] at h2
      cases h2
    · exact hh
  · have h2 := h
    unfold vMeet at h2
    simp only [Bool.and_eq_true, okB_iff] at h2
    obtain ⟨⟨⟨ka, kb⟩, kc⟩, kd⟩ := h2
    exact Meet_ok a1 a2 b1 b2 c1 c2 d1 d2 w ka kb kc kd
theorem RMeet_c (a1 a2 b1 b2 c1 c2 d1 d2 : Int) (w : World) : Calls Try.prog 19 #[(.agg #[.int .i64 a1, .int .i64 a2]), (.agg #[.int .i64 b1, .int .i64 b2]), (.agg #[.int .i64 c1, .int .i64 c2]), (.agg #[.int .i64 d1, .int .i64 d2])] w (Ret w (.tuple #[(.bool (selB (vMeet a1 a2 b1 b2 c1 c2 d1 d2) (meetB a1 a2 b1 b2 c1 c2 d1 d2))), (.int .i64 (errV (vMeet a1 a2 b1 b2 c1 c2 d1 d2)))])) := by
  cases h : vMeet a1 a2 b1 b2 c1 c2 d1 d2
  · have h2 := h
    unfold vMeet at h2
    refine (rMeet_no a1 a2 b1 b2 c1 c2 d1 d2 w (fun k => ?_)).mono fun e w2 hh => ?_
    · obtain ⟨ka, kb, kc, kd⟩ := k
      have ma := okB_iff.2 ka
      have mb := okB_iff.2 kb
      have mc := okB_iff.2 kc
      have md := okB_iff.2 kd
      rw [ma, mb, mc, md] at h2
      cases h2
    · exact hh
  · have h2 := h
    unfold vMeet at h2
    simp only [Bool.and_eq_true, okB_iff] at h2
    obtain ⟨⟨⟨ka, kb⟩, kc⟩, kd⟩ := h2
    exact rMeet_ok a1 a2 b1 b2 c1 c2 d1 d2 w ka kb kc kd
def vNear (p1 p2 a1 a2 b1 b2 d : Int) : Bool := okB p1 p2 && okB a1 a2 && okB b1 b2 && okdB d
theorem PNear_c (p1 p2 a1 a2 b1 b2 d : Int) (w : World) : Calls Try.prog 20 #[(.agg #[.int .i64 p1, .int .i64 p2]), (.agg #[.int .i64 a1, .int .i64 a2]), (.agg #[.int .i64 b1, .int .i64 b2]), (.int .i64 d)] w (Ret w (.tuple #[(.bool (selB (vNear p1 p2 a1 a2 b1 b2 d) (nearB p1 p2 a1 a2 b1 b2 d))), (.int .i64 (errV (vNear p1 p2 a1 a2 b1 b2 d)))])) := by
  cases h : vNear p1 p2 a1 a2 b1 b2 d
  · have h2 := h
    unfold vNear at h2
    refine (Near_no p1 p2 a1 a2 b1 b2 d w (fun k => ?_)).mono fun e w2 hh => ?_
    · obtain ⟨kp, ka, kb, kd⟩ := k
      have mp := okB_iff.2 kp
      have ma := okB_iff.2 ka
      have mb := okB_iff.2 kb
      have md := okdB_iff.2 kd
      rw [mp, ma, mb, md] at h2
      cases h2
    · exact hh
  · have h2 := h
    unfold vNear at h2
    simp only [Bool.and_eq_true, okB_iff, okdB_iff] at h2
    obtain ⟨⟨⟨kp, ka⟩, kb⟩, kd⟩ := h2
    exact Near_ok p1 p2 a1 a2 b1 b2 d w kp ka kb kd
theorem RNear_c (p1 p2 a1 a2 b1 b2 d : Int) (w : World) : Calls Try.prog 21 #[(.agg #[.int .i64 p1, .int .i64 p2]), (.agg #[.int .i64 a1, .int .i64 a2]), (.agg #[.int .i64 b1, .int .i64 b2]), (.int .i64 d)] w (Ret w (.tuple #[(.bool (selB (vNear p1 p2 a1 a2 b1 b2 d) (nearB p1 p2 a1 a2 b1 b2 d))), (.int .i64 (errV (vNear p1 p2 a1 a2 b1 b2 d)))])) := by
  cases h : vNear p1 p2 a1 a2 b1 b2 d
  · have h2 := h
    unfold vNear at h2
    refine (rNear_no p1 p2 a1 a2 b1 b2 d w (fun k => ?_)).mono fun e w2 hh => ?_
    · obtain ⟨kp, ka, kb, kd⟩ := k
      have mp := okB_iff.2 kp
      have ma := okB_iff.2 ka
      have mb := okB_iff.2 kb
      have md := okdB_iff.2 kd
      rw [mp, ma, mb, md] at h2
      cases h2
    · exact hh
  · have h2 := h
    unfold vNear at h2
    simp only [Bool.and_eq_true, okB_iff, okdB_iff] at h2
    obtain ⟨⟨⟨kp, ka⟩, kb⟩, kd⟩ := h2
    exact rNear_ok p1 p2 a1 a2 b1 b2 d w kp ka kb kd
def vApart (p1 p2 a1 a2 b1 b2 d : Int) : Bool := okB p1 p2 && okB a1 a2 && okB b1 b2 && okdB d
theorem PApart_c (p1 p2 a1 a2 b1 b2 d : Int) (w : World) : Calls Try.prog 24 #[(.agg #[.int .i64 p1, .int .i64 p2]), (.agg #[.int .i64 a1, .int .i64 a2]), (.agg #[.int .i64 b1, .int .i64 b2]), (.int .i64 d)] w (Ret w (.tuple #[(.bool (selB (vApart p1 p2 a1 a2 b1 b2 d) (apartB p1 p2 a1 a2 b1 b2 d))), (.int .i64 (errV (vApart p1 p2 a1 a2 b1 b2 d)))])) := by
  cases h : vApart p1 p2 a1 a2 b1 b2 d
  · have h2 := h
    unfold vApart at h2
    refine (ApartB_no p1 p2 a1 a2 b1 b2 d w (fun k => ?_)).mono fun e w2 hh => ?_
    · obtain ⟨kp, ka, kb, kd⟩ := k
      have mp := okB_iff.2 kp
      have ma := okB_iff.2 ka
      have mb := okB_iff.2 kb
      have md := okdB_iff.2 kd
      rw [mp, ma, mb, md] at h2
      cases h2
    · exact hh
  · have h2 := h
    unfold vApart at h2
    simp only [Bool.and_eq_true, okB_iff, okdB_iff] at h2
    obtain ⟨⟨⟨kp, ka⟩, kb⟩, kd⟩ := h2
    exact ApartB_ok p1 p2 a1 a2 b1 b2 d w kp ka kb kd
theorem RApart_c (p1 p2 a1 a2 b1 b2 d : Int) (w : World) : Calls Try.prog 25 #[(.agg #[.int .i64 p1, .int .i64 p2]), (.agg #[.int .i64 a1, .int .i64 a2]), (.agg #[.int .i64 b1, .int .i64 b2]), (.int .i64 d)] w (Ret w (.tuple #[(.bool (selB (vApart p1 p2 a1 a2 b1 b2 d) (apartB p1 p2 a1 a2 b1 b2 d))), (.int .i64 (errV (vApart p1 p2 a1 a2 b1 b2 d)))])) := by
  cases h : vApart p1 p2 a1 a2 b1 b2 d
  · have h2 := h
    unfold vApart at h2
    refine (rApart_no p1 p2 a1 a2 b1 b2 d w (fun k => ?_)).mono fun e w2 hh => ?_
    · obtain ⟨kp, ka, kb, kd⟩ := k
      have mp := okB_iff.2 kp
      have ma := okB_iff.2 ka
      have mb := okB_iff.2 kb
      have md := okdB_iff.2 kd
      rw [mp, ma, mb, md] at h2
      cases h2
    · exact hh
  · have h2 := h
    unfold vApart at h2
    simp only [Bool.and_eq_true, okB_iff, okdB_iff] at h2
    obtain ⟨⟨⟨kp, ka⟩, kb⟩, kd⟩ := h2
    exact rApart_ok p1 p2 a1 a2 b1 b2 d w kp ka kb kd
def vClose (a1 a2 b1 b2 c1 c2 d1 d2 r : Int) : Bool := okB a1 a2 && okB b1 b2 && okB c1 c2 && okB d1 d2 && okdB r
theorem PClose_c (a1 a2 b1 b2 c1 c2 d1 d2 r : Int) (w : World) : Calls Try.prog 22 #[(.agg #[.int .i64 a1, .int .i64 a2]), (.agg #[.int .i64 b1, .int .i64 b2]), (.agg #[.int .i64 c1, .int .i64 c2]), (.agg #[.int .i64 d1, .int .i64 d2]), (.int .i64 r)] w (Ret w (.tuple #[(.bool (selB (vClose a1 a2 b1 b2 c1 c2 d1 d2 r) (closeB a1 a2 b1 b2 c1 c2 d1 d2 r))), (.int .i64 (errV (vClose a1 a2 b1 b2 c1 c2 d1 d2 r)))])) := by
  cases h : vClose a1 a2 b1 b2 c1 c2 d1 d2 r
  · have h2 := h
    unfold vClose at h2
    refine (Close_no a1 a2 b1 b2 c1 c2 d1 d2 r w (fun k => ?_)).mono fun e w2 hh => ?_
    · obtain ⟨ka, kb, kc, kd, kr⟩ := k
      have ma := okB_iff.2 ka
      have mb := okB_iff.2 kb
      have mc := okB_iff.2 kc
      have md := okB_iff.2 kd
      have mr := okdB_iff.2 kr
      rw [ma, mb, mc, md, mr] at h2
      cases h2
    · exact hh
  · have h2 := h
    unfold vClose at h2
    simp only [Bool.and_eq_true, okB_iff, okdB_iff] at h2
    obtain ⟨⟨⟨⟨ka, kb⟩, kc⟩, kd⟩, kr⟩ := h2
    exact Close_ok a1 a2 b1 b2 c1 c2 d1 d2 r w ka kb kc kd kr
theorem RClose_c (a1 a2 b1 b2 c1 c2 d1 d2 r : Int) (w : World) : Calls Try.prog 23 #[(.agg #[.int .i64 a1, .int .i64 a2]), (.agg #[.int .i64 b1, .int .i64 b2]), (.agg #[.int .i64 c1, .int .i64 c2]), (.agg #[.int .i64 d1, .int .i64 d2]), (.int .i64 r)] w (Ret w (.tuple #[(.bool (selB (vClose a1 a2 b1 b2 c1 c2 d1 d2 r) (closeB a1 a2 b1 b2 c1 c2 d1 d2 r))), (.int .i64 (errV (vClose a1 a2 b1 b2 c1 c2 d1 d2 r)))])) := by
  cases h : vClose a1 a2 b1 b2 c1 c2 d1 d2 r
  · have h2 := h
    unfold vClose at h2
    refine (rClose_no a1 a2 b1 b2 c1 c2 d1 d2 r w (fun k => ?_)).mono fun e w2 hh => ?_
    · obtain ⟨ka, kb, kc, kd, kr⟩ := k
      have ma := okB_iff.2 ka
      have mb := okB_iff.2 kb
      have mc := okB_iff.2 kc
      have md := okB_iff.2 kd
      have mr := okdB_iff.2 kr
      rw [ma, mb, mc, md, mr] at h2
      cases h2
    · exact hh
  · have h2 := h
    unfold vClose at h2
    simp only [Bool.and_eq_true, okB_iff, okdB_iff] at h2
    obtain ⟨⟨⟨⟨ka, kb⟩, kc⟩, kd⟩, kr⟩ := h2
    exact rClose_ok a1 a2 b1 b2 c1 c2 d1 d2 r w ka kb kc kd kr
def vLies (p1 p2 k q1 q2 l : Int) : Bool := okB p1 p2 && okB q1 q2 && okdB k && okdB l
theorem PLies_c (p1 p2 k q1 q2 l : Int) (w : World) : Calls Try.prog 26 #[(.agg #[.int .i64 p1, .int .i64 p2]), (.int .i64 k), (.agg #[.int .i64 q1, .int .i64 q2]), (.int .i64 l)] w (Ret w (.tuple #[(.bool (selB (vLies p1 p2 k q1 q2 l) (lieB p1 p2 k q1 q2 l))), (.int .i64 (errV (vLies p1 p2 k q1 q2 l)))])) := by
  cases h : vLies p1 p2 k q1 q2 l
  · have h2 := h
    unfold vLies at h2
    refine (Lies_no p1 p2 k q1 q2 l w (fun k => ?_)).mono fun e w2 hh => ?_
    · obtain ⟨kp, kq, kk, kl⟩ := k
      have mp := okB_iff.2 kp
      have mq := okB_iff.2 kq
      have mk := okdB_iff.2 kk
      have ml := okdB_iff.2 kl
      rw [mp, mq, mk, ml] at h2
      cases h2
    · exact hh
  · have h2 := h
    unfold vLies at h2
    simp only [Bool.and_eq_true, okB_iff, okdB_iff] at h2
    obtain ⟨⟨⟨kp, kq⟩, kk⟩, kl⟩ := h2
    exact Lies_ok p1 p2 k q1 q2 l w kp kq kk kl
theorem RLies_c (p1 p2 k q1 q2 l : Int) (w : World) : Calls Try.prog 27 #[(.agg #[.int .i64 p1, .int .i64 p2]), (.int .i64 k), (.agg #[.int .i64 q1, .int .i64 q2]), (.int .i64 l)] w (Ret w (.tuple #[(.bool (selB (vLies p1 p2 k q1 q2 l) (lieB p1 p2 k q1 q2 l))), (.int .i64 (errV (vLies p1 p2 k q1 q2 l)))])) := by
  cases h : vLies p1 p2 k q1 q2 l
  · have h2 := h
    unfold vLies at h2
    refine (rLies_no p1 p2 k q1 q2 l w (fun k => ?_)).mono fun e w2 hh => ?_
    · obtain ⟨kp, kk, kq, kl⟩ := k
      have mp := okB_iff.2 kp
      have mk := okdB_iff.2 kk
      have mq := okB_iff.2 kq
      have ml := okdB_iff.2 kl
      rw [mp, mk, mq, ml] at h2
      cases h2
    · exact hh
  · have h2 := h
    unfold vLies at h2
    simp only [Bool.and_eq_true, okB_iff, okdB_iff] at h2
    obtain ⟨⟨⟨kp, kq⟩, kk⟩, kl⟩ := h2
    exact rLies_ok p1 p2 k q1 q2 l w kp kk kq kl
def vDist (a1 a2 b1 b2 : Int) : Bool := okB a1 a2 && okB b1 b2
theorem PDist_c (a1 a2 b1 b2 : Int) (w : World) : Calls Try.prog 28 #[(.agg #[.int .i64 a1, .int .i64 a2]), (.agg #[.int .i64 b1, .int .i64 b2])] w (Ret w (.tuple #[.agg #[(.int .i64 (selI (vDist a1 a2 b1 b2) (rt (sq a1 a2 b1 b2)))), (.int .i64 (selI (vDist a1 a2 b1 b2) (up (sq a1 a2 b1 b2))))], (.int .i64 (errV (vDist a1 a2 b1 b2)))])) := by
  cases h : vDist a1 a2 b1 b2
  · have h2 := h
    unfold vDist at h2
    refine (Dist_no a1 a2 b1 b2 w (fun k => ?_)).mono fun e w2 hh => ?_
    · obtain ⟨ka, kb⟩ := k
      have ma := okB_iff.2 ka
      have mb := okB_iff.2 kb
      rw [ma, mb] at h2
      cases h2
    · exact hh
  · have h2 := h
    unfold vDist at h2
    simp only [Bool.and_eq_true, okB_iff] at h2
    obtain ⟨ka, kb⟩ := h2
    exact Dist_ok a1 a2 b1 b2 w ka kb
theorem RDist_c (a1 a2 b1 b2 : Int) (w : World) : Calls Try.prog 29 #[(.agg #[.int .i64 a1, .int .i64 a2]), (.agg #[.int .i64 b1, .int .i64 b2])] w (Ret w (.tuple #[.agg #[(.int .i64 (selI (vDist a1 a2 b1 b2) (rt (sq a1 a2 b1 b2)))), (.int .i64 (selI (vDist a1 a2 b1 b2) (up (sq a1 a2 b1 b2))))], (.int .i64 (errV (vDist a1 a2 b1 b2)))])) := by
  cases h : vDist a1 a2 b1 b2
  · have h2 := h
    unfold vDist at h2
    refine (rDist_no a1 a2 b1 b2 w (fun k => ?_)).mono fun e w2 hh => ?_
    · obtain ⟨ka, kb⟩ := k
      have ma := okB_iff.2 ka
      have mb := okB_iff.2 kb
      rw [ma, mb] at h2
      cases h2
    · exact hh
  · have h2 := h
    unfold vDist at h2
    simp only [Bool.and_eq_true, okB_iff] at h2
    obtain ⟨ka, kb⟩ := h2
    exact rDist_ok a1 a2 b1 b2 w ka kb

end Go.Proofs.Ytakhkeipoldpoaa

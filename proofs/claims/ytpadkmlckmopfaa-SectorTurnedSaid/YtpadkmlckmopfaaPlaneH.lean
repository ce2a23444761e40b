/- The exported functions of package plane but Dist: the walks. -/
import Derived.Test.YtpadkmlckmopfaaPlaneG
namespace Go.Proofs.Ytpadkmlckmopfaa
open Go.RowKit

def ok2 (a1 a2 b1 b2 : Int) : Bool := okB a1 a2 && okB b1 b2
theorem ok2_iff {a1 a2 b1 b2 : Int} : ok2 a1 a2 b1 b2 = true ↔ ok a1 a2 ∧ ok b1 b2 := by simp [ok2, okB_iff]
theorem allValid2_c (a1 a2 b1 b2 : Int) (g : Nat) (w : World) (ha1 : w.cell? ⟨g, 0, none⟩ = some (.int .i64 a1)) (ha2 : w.cell? ⟨g, 1, none⟩ = some (.int .i64 a2)) (hb1 : w.cell? ⟨g, 2, none⟩ = some (.int .i64 b1)) (hb2 : w.cell? ⟨g, 3, none⟩ = some (.int .i64 b2)) (hg : g < w.heap.size) :
    Calls Try.prog 59 #[.slice (some ⟨g, 0, none⟩) 2 2] w (Ret w (.bool (ok2 a1 a2 b1 b2))) := by
  refine (allValid_c (fun i => if i = 0 then a1 else b1) (fun i => if i = 0 then a2 else b2) 2 g w (by omega) ?_ hg).mono fun e w' h => ?_
  · intro i hi
    match i, hi with
    | 0, _ => exact ⟨by simpa using ha1, by simpa using ha2⟩
    | 1, _ => exact ⟨by simpa using hb1, by simpa using hb2⟩
  · have e1 : decide (allOk (fun i => if i = 0 then a1 else b1) (fun i => if i = 0 then a2 else b2) 2) = ok2 a1 a2 b1 b2 := by
      rw [Bool.eq_iff_iff, ok2_iff, decide_eq_true_eq]
      constructor
      · intro h
        exact ⟨by simpa using h 0 (by omega), by simpa using h 1 (by omega)⟩
      · intro h i hi
        match i, hi with
        | 0, _ => simpa using h.1
        | 1, _ => simpa using h.2
    rw [e1] at h
    exact h

def ok3 (a1 a2 b1 b2 c1 c2 : Int) : Bool := okB a1 a2 && okB b1 b2 && okB c1 c2
theorem ok3_iff {a1 a2 b1 b2 c1 c2 : Int} : ok3 a1 a2 b1 b2 c1 c2 = true ↔ ok a1 a2 ∧ ok b1 b2 ∧ ok c1 c2 := by simp [ok3, okB_iff, and_assoc]
theorem allValid3_c (a1 a2 b1 b2 c1 c2 : Int) (g : Nat) (w : World) (ha1 : w.cell? ⟨g, 0, none⟩ = some (.int .i64 a1)) (ha2 : w.cell? ⟨g, 1, none⟩ = some (.int .i64 a2)) (hb1 : w.cell? ⟨g, 2, none⟩ = some (.int .i64 b1)) (hb2 : w.cell? ⟨g, 3, none⟩ = some (.int .i64 b2)) (hc1 : w.cell? ⟨g, 4, none⟩ = some (.int .i64 c1)) (hc2 : w.cell? ⟨g, 5, none⟩ = some (.int .i64 c2)) (hg : g < w.heap.size) :
    Calls Try.prog 59 #[.slice (some ⟨g, 0, none⟩) 3 3] w (Ret w (.bool (ok3 a1 a2 b1 b2 c1 c2))) := by
  refine (allValid_c (fun i => if i = 0 then a1 else if i = 1 then b1 else c1) (fun i => if i = 0 then a2 else if i = 1 then b2 else c2) 3 g w (by omega) ?_ hg).mono fun e w' h => ?_
  · intro i hi
    match i, hi with
    | 0, _ => exact ⟨by simpa using ha1, by simpa using ha2⟩
    | 1, _ => exact ⟨by simpa using hb1, by simpa using hb2⟩
    | 2, _ => exact ⟨by simpa using hc1, by simpa using hc2⟩
  · have e1 : decide (allOk (fun i => if i = 0 then a1 else if i = 1 then b1 else c1) (fun i => if i = 0 then a2 else if i = 1 then b2 else c2) 3) = ok3 a1 a2 b1 b2 c1 c2 := by
      rw [Bool.eq_iff_iff, ok3_iff, decide_eq_true_eq]
      constructor
      · intro h
        exact ⟨by simpa using h 0 (by omega), by simpa using h 1 (by omega), by simpa using h 2 (by omega)⟩
      · intro h i hi
        match i, hi with
        | 0, _ => simpa using h.1
        | 1, _ => simpa using h.2.1
        | 2, _ => simpa using h.2.2
    rw [e1] at h
    exact h

def ok4 (a1 a2 b1 b2 c1 c2 d1 d2 : Int) : Bool := okB a1 a2 && okB b1 b2 && okB c1 c2 && okB d1 d2
theorem ok4_iff {a1 a2 b1 b2 c1 c2 d1 d2 : Int} : ok4 a1 a2 b1 b2 c1 c2 d1 d2 = true ↔ ok a1 a2 ∧ ok b1 b2 ∧ ok c1 c2 ∧ ok d1 d2 := by simp [ok4, okB_iff, and_assoc]
theorem allValid4_c (a1 a2 b1 b2 c1 c2 d1 d2 : Int) (g : Nat) (w : World) (ha1 : w.cell? ⟨g, 0, none⟩ = some (.int .i64 a1)) (ha2 : w.cell? ⟨g, 1, none⟩ = some (.int .i64 a2)) (hb1 : w.cell? ⟨g, 2, none⟩ = some (.int .i64 b1)) (hb2 : w.cell? ⟨g, 3, none⟩ = some (.int .i64 b2)) (hc1 : w.cell? ⟨g, 4, none⟩ = some (.int .i64 c1)) (hc2 : w.cell? ⟨g, 5, none⟩ = some (.int .i64 c2)) (hd1 : w.cell? ⟨g, 6, none⟩ = some (.int .i64 d1)) (hd2 : w.cell? ⟨g, 7, none⟩ = some (.int .i64 d2)) (hg : g < w.heap.size) :
    Calls Try.prog 59 #[.slice (some ⟨g, 0, none⟩) 4 4] w (Ret w (.bool (ok4 a1 a2 b1 b2 c1 c2 d1 d2))) := by
  refine (allValid_c (fun i => if i = 0 then a1 else if i = 1 then b1 else if i = 2 then c1 else d1) (fun i => if i = 0 then a2 else if i = 1 then b2 else if i = 2 then c2 else d2) 4 g w (by omega) ?_ hg).mono fun e w' h => ?_
  · intro i hi
    match i, hi with
    | 0, _ => exact ⟨by simpa using ha1, by simpa using ha2⟩
    | 1, _ => exact ⟨by simpa using hb1, by simpa using hb2⟩
    | 2, _ => exact ⟨by simpa using hc1, by simpa using hc2⟩
    | 3, _ => exact ⟨by simpa using hd1, by simpa using hd2⟩
  · have e1 : decide (allOk (fun i => if i = 0 then a1 else if i = 1 then b1 else if i = 2 then c1 else d1) (fun i => if i = 0 then a2 else if i = 1 then b2 else if i = 2 then c2 else d2) 4) = ok4 a1 a2 b1 b2 c1 c2 d1 d2 := by
      rw [Bool.eq_iff_iff, ok4_iff, decide_eq_true_eq]
      constructor
      · intro h
        exact ⟨by simpa using h 0 (by omega), by simpa using h 1 (by omega), by simpa using h 2 (by omega), by simpa using h 3 (by omega)⟩
      · intro h i hi
        match i, hi with
        | 0, _ => simpa using h.1
        | 1, _ => simpa using h.2.1
        | 2, _ => simpa using h.2.2.1
        | 3, _ => simpa using h.2.2.2
    rw [e1] at h
    exact h

/-- The places of a call: valid or not. -/
theorem okB_of {x y : Int} (h : ok x y) : okB x y = true := okB_iff.2 h

set_option maxHeartbeats 400000 in
theorem Near_ok (p1 p2 a1 a2 b1 b2 d : Int) (w : World) (hp : ok p1 p2) (ha : ok a1 a2) (hb : ok b1 b2) (hd : okd d) : Calls Try.prog 47 #[(.agg #[.int .i64 p1, .int .i64 p2]), (.agg #[.int .i64 a1, .int .i64 a2]), (.agg #[.int .i64 b1, .int .i64 b2]), (.int .i64 d)] w (Ret w (.tuple #[(.bool (nearB p1 p2 a1 a2 b1 b2 d)), (.int .i64 0)])) := by
  have hv : ok3 p1 p2 a1 a2 b1 b2 = true := ok3_iff.2 ⟨hp, ha, hb⟩
  have vd : okdB d = true := okdB_iff.2 hd
  go_enter Try.func47, Try.ntmps47
  go_wp2_with fail
  refine (allValid3_c p1 p2 a1 a2 b1 b2 _ _ (by go_simp) (by go_simp) (by go_simp) (by go_simp) (by go_simp) (by go_simp) (by first | omega | (simp <;> omega))).mono ?_
  rintro e w1 ⟨rfl, hb1⟩
  obtain ⟨hc1, hf1⟩ := bcell hb1
  have hs : _ ≤ w1.heap.size := hb1.size
  (try simp at hs)
  go_wp2_with fail
  refine (vdist_c _ _).mono ?_
  rintro e w2 ⟨rfl, rfl⟩
  go_wp2_with fail
  refine (cdist_c p1 p2 a1 a2 b1 b2 d _ hp ha hb hd).mono ?_
  rintro e w3 ⟨rfl, hb3⟩
  go_wp2
  go_ret2
  exact ⟨rfl, (by repeat (first | with_reducible exact Below.refl _ _ | with_reducible assumption | with_reducible refine Below.setCell ?_ (by first | omega | (simp <;> omega)) _ | with_reducible refine balloc ?_ _ | with_reducible refine Below.drew ?_ | with_reducible refine bstep ?_ (by with_reducible assumption)))⟩

set_option maxHeartbeats 400000 in
theorem Near_no (p1 p2 a1 a2 b1 b2 d : Int) (w : World) (hn : ¬ (ok p1 p2 ∧ ok a1 a2 ∧ ok b1 b2 ∧ okd d)) : Calls Try.prog 47 #[(.agg #[.int .i64 p1, .int .i64 p2]), (.agg #[.int .i64 a1, .int .i64 a2]), (.agg #[.int .i64 b1, .int .i64 b2]), (.int .i64 d)] w (Ret w (.tuple #[(.bool false), (.int .i64 1)])) := by
  by_cases hp : ok3 p1 p2 a1 a2 b1 b2 = true
  · have hm := ok3_iff.1 hp
    have hx : ¬ (okd d) := fun h => hn (by simp [hm, h])
    have vd : okdB d = false := by
      rw [Bool.eq_false_iff]
      exact fun h => hx (okdB_iff.1 h)
    clear hm hx hn
    go_enter Try.func47, Try.ntmps47
    go_wp2_with fail
    refine (allValid3_c p1 p2 a1 a2 b1 b2 _ _ (by go_simp) (by go_simp) (by go_simp) (by go_simp) (by go_simp) (by go_simp) (by first | omega | (simp <;> omega))).mono ?_
    rintro e w1 ⟨rfl, hb1⟩
    obtain ⟨hc1, hf1⟩ := bcell hb1
    have hs : _ ≤ w1.heap.size := hb1.size
    (try simp at hs)
    go_wp2_with fail
    refine (vdist_c _ _).mono ?_
    rintro e w2 ⟨rfl, rfl⟩
    go_wp2
    go_ret2
    exact ⟨rfl, (by repeat (first | with_reducible exact Below.refl _ _ | with_reducible assumption | with_reducible refine Below.setCell ?_ (by first | omega | (simp <;> omega)) _ | with_reducible refine balloc ?_ _ | with_reducible refine Below.drew ?_ | with_reducible refine bstep ?_ (by with_reducible assumption)))⟩
  · have hv : ok3 p1 p2 a1 a2 b1 b2 = false := by simpa using hp
    go_enter Try.func47, Try.ntmps47
    go_wp2_with fail
    refine (allValid3_c p1 p2 a1 a2 b1 b2 _ _ (by go_simp) (by go_simp) (by go_simp) (by go_simp) (by go_simp) (by go_simp) (by first | omega | (simp <;> omega))).mono ?_
    rintro e w1 ⟨rfl, hb1⟩
    obtain ⟨hc1, hf1⟩ := bcell hb1
    go_wp2
    go_ret2
    exact ⟨rfl, (by repeat (first | with_reducible exact Below.refl _ _ | with_reducible assumption | with_reducible refine Below.setCell ?_ (by first | omega | (simp <;> omega)) _ | with_reducible refine balloc ?_ _ | with_reducible refine Below.drew ?_ | with_reducible refine bstep ?_ (by with_reducible assumption)))⟩

end Go.Proofs.Ytpadkmlckmopfaa

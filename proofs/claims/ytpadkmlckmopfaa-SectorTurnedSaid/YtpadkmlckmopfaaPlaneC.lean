/- Products of 128 bits, and the distance of a place and a segment: the walks. -/
import Derived.Test.YtpadkmlckmopfaaPlaneB
import Derived.Shelf.Bits.Mul64
import Derived.Deep.DeepCutAuto
namespace Go.Proofs
open Go.Shelf
def Try.laysMul_ren : Go.Shelf.Ren := ⟨fun | 264 => 83 | n => n, fun | 53 => 97 | 46 => 105 | n => n, fun | n => n⟩
theorem Try.laysMul : Go.Proofs.Lays.n264 Try.prog Try.laysMul_ren := {
  mixed := by kernel_rfl
  f264 := Try.func83.trans (congrArg some (by kernel_rfl))
  t46 := Try.underlying105
  a46 := Try.isAgg105
  z46 := Try.sizeOf105
  v46 := Try.zeroValue105
  t53 := Try.underlying97
  a53 := Try.isAgg97
  z53 := Try.sizeOf97
  v53 := Try.zeroValue97 }
end Go.Proofs
namespace Go.Proofs.Ytpadkmlckmopfaa
open Go.RowKit

def hiZ (z : Int) : Int := z / 18446744073709551616
def loZ (z : Int) : Int := z % 18446744073709551616
def small (z : Int) : Prop := 0 ≤ z ∧ z < 9223372036854775807

theorem mul_c (m n : Int) (w : World) (hm : small m) (hn : small n) : Calls Try.prog 83 #[(.int .u64 m), (.int .u64 n)] w (Same w (.tuple #[(.int .u64 (hiZ (m * n))), (.int .u64 (loZ (m * n)))])) := by
  obtain ⟨hm0, hm1⟩ := hm
  obtain ⟨hn0, hn1⟩ := hn
  obtain ⟨x, rfl⟩ := Int.eq_ofNat_of_zero_le hm0
  obtain ⟨y, rfl⟩ := Int.eq_ofNat_of_zero_le hn0
  refine (Any.bits_Mul64 Try.laysMul x y (by omega) (by omega) w).mono ?_
  rintro e w' ⟨rfl, rfl⟩
  refine ⟨?_, rfl⟩
  rw [← Int.natCast_mul]
  generalize x * y = z
  have q1 : ((z / 18446744073709551616 : Nat) : Int) = hiZ (z : Int) := by unfold hiZ; omega
  have q2 : ((z % 18446744073709551616 : Nat) : Int) = loZ (z : Int) := by unfold loZ; omega
  rw [q1, q2]

theorem wrap_u64 {z : Int} (h : small z) : IntKind.u64.wrap z = z := by
  obtain ⟨h0, h1⟩ := h
  exact IntWalk.u64_in z (by omega)

set_option maxHeartbeats 400000 in
theorem product_c (m n : Int) (w : World) (hm : small m) (hn : small n) : Calls Try.prog 76 #[(.int .i64 m), (.int .i64 n)] w (Ret w (.agg #[(.int .u64 (hiZ (m * n))), (.int .u64 (loZ (m * n)))])) := by
  have e1 := wrap_u64 hm
  have e2 := wrap_u64 hn
  go_enter Try.func76, Try.ntmps76
  go_wp2_with fail
  refine (mul_c _ _ _ hm hn).mono ?_
  rintro e w' ⟨rfl, rfl⟩
  go_wp2
  exact bodyPost_ret (v := (.agg #[(.int .u64 (hiZ (m * n))), (.int .u64 (loZ (m * n)))])) (by simp [results, Try.results76, go_sem]) rfl ⟨rfl, (by repeat (first | with_reducible exact Below.refl _ _ | with_reducible assumption | with_reducible refine Below.setCell ?_ (by first | omega | (simp <;> omega)) _ | with_reducible refine balloc ?_ _ | with_reducible refine Below.drew ?_ | with_reducible refine bstep ?_ (by with_reducible assumption)))⟩

set_option maxHeartbeats 400000 in
theorem nanu_c (n : Int) (w : World) : Calls Try.prog 94 #[(.int .u64 n)] w (Same w (.bool false)) := by
  go_enter Try.func94, Try.ntmps94
  go_wp2
  go_ret
  exact same_bool (by simp)

set_option maxHeartbeats 400000 in
theorem cmpu_c (m n : Int) (w : World) : Calls Try.prog 82 #[(.int .u64 m), (.int .u64 n)] w (Same w (.int .i64 (cmp m n))) := by
  go_enter Try.func82, Try.ntmps82
  go_wp2_with (go_at_call 94; refine (nanu_c _ _).mono ?_; rintro e w' ⟨rfl, rfl⟩)
  all_goals
    go_ret
    refine same_int ?_
    unfold cmp
    repeat' split
    all_goals omega

set_option maxHeartbeats 400000 in
theorem words_c (h1 l1 h2 l2 : Int) (w : World) : Calls Try.prog 75 #[(.agg #[(.int .u64 h1), (.int .u64 l1)]), (.agg #[(.int .u64 h2), (.int .u64 l2)])] w (Ret w (.int .i64 (if h1 = h2 then cmp l1 l2 else cmp h1 h2))) := by
  by_cases h : h1 = h2
  · subst h
    go_enter Try.func75, Try.ntmps75
    go_wp2_with (go_at_call 82; refine (cmpu_c _ _ _).mono ?_; rintro e w' ⟨rfl, rfl⟩)
    go_ret
    refine ret_int (by simp) (by repeat (first | with_reducible exact Below.refl _ _ | with_reducible assumption | with_reducible refine Below.setCell ?_ (by first | omega | (simp <;> omega)) _ | with_reducible refine balloc ?_ _ | with_reducible refine Below.drew ?_ | with_reducible refine bstep ?_ (by with_reducible assumption)))
  · have h' : (h1 != h2) = true := by simpa using h
    go_enter Try.func75, Try.ntmps75
    go_wp2_with (go_at_call 82; refine (cmpu_c _ _ _).mono ?_; rintro e w' ⟨rfl, rfl⟩)
    go_ret
    refine ret_int rfl (by repeat (first | with_reducible exact Below.refl _ _ | with_reducible assumption | with_reducible refine Below.setCell ?_ (by first | omega | (simp <;> omega)) _ | with_reducible refine balloc ?_ _ | with_reducible refine Below.drew ?_ | with_reducible refine bstep ?_ (by with_reducible assumption)))

theorem words_eq (x y : Int) : (if hiZ x = hiZ y then cmp (loZ x) (loZ y) else cmp (hiZ x) (hiZ y)) = cmp x y := by
  unfold hiZ loZ cmp
  repeat' split
  all_goals omega

theorem wordz_c (x y : Int) (w : World) : Calls Try.prog 75 #[(.agg #[(.int .u64 (hiZ x)), (.int .u64 (loZ x))]), (.agg #[(.int .u64 (hiZ y)), (.int .u64 (loZ y))])] w (Ret w (.int .i64 (cmp x y))) :=
  (words_c _ _ _ _ w).mono fun _ _ h => by rw [words_eq] at h; exact h

/-- What compareDist says: the sign of the distance of p and the segment, less d. -/
def cmpDist (p1 p2 a1 a2 b1 b2 d : Int) : Int :=
  if (a1 = b1 ∧ a2 = b2) ∨ dot a1 a2 b1 b2 p1 p2 < 0 then cmp (sq a1 a2 p1 p2) (d * d)
  else if sq a1 a2 b1 b2 < dot a1 a2 b1 b2 p1 p2 then cmp (sq b1 b2 p1 p2) (d * d)
  else cmp (cross a1 a2 b1 b2 p1 p2 * cross a1 a2 b1 b2 p1 p2) (d * d * sq a1 a2 b1 b2)

theorem dd_sm {d : Int} (hd : okd d) : 0 ≤ d * d ∧ d * d ≤ 9000000000000 := by
  have h := mul_bd (a := d) (b := d) (A := 3000000) (B := 3000000) (by unfold okd at hd; omega) (by unfold okd at hd; omega) (by unfold okd at hd; omega) (by unfold okd at hd; omega)
  have := sq_nn d
  omega

set_option maxHeartbeats 800000 in
theorem cdist_c (p1 p2 a1 a2 b1 b2 : Int) (d : Int) (w : World) (hp : ok p1 p2) (ha : ok a1 a2) (hb : ok b1 b2) (hd : okd d) : Calls Try.prog 61 #[(.agg #[.int .i64 p1, .int .i64 p2]), (.agg #[.int .i64 a1, .int .i64 a2, .int .i64 b1, .int .i64 b2]), (.int .i64 d)] w (Ret w (.int .i64 (cmpDist p1 p2 a1 a2 b1 b2 d))) := by
  obtain ⟨d1, d2⟩ := dd_sm hd
  go_enter Try.func61, Try.ntmps61
  go_upto_region 1 with fail
  go_cut [7, 8] (fun s7 s8 wx => ∃ A B : Nat, s7 = .pointer (some ⟨A, 0, none⟩) ∧ s8 = .pointer (some ⟨B, 0, none⟩) ∧ wx.cell? ⟨w.heap.size, 0, none⟩ = some (.int .i64 p1) ∧ wx.cell? ⟨w.heap.size, 1, none⟩ = some (.int .i64 p2) ∧
      wx.cell? ⟨A, 0, none⟩ = some (.int .i64 a1) ∧ wx.cell? ⟨A, 1, none⟩ = some (.int .i64 a2) ∧ wx.cell? ⟨B, 0, none⟩ = some (.int .i64 b1) ∧ wx.cell? ⟨B, 1, none⟩ = some (.int .i64 b2) ∧ w.heap.size < wx.heap.size ∧ A < wx.heap.size ∧ B < wx.heap.size ∧ Below w.heap.size w wx)
  case first =>
    go_wp2_with fail
    go_region
    all_goals
      go_wp2_with fail
      go_meet
      refine ⟨_, _, rfl, rfl, ?_, ?_, ?_, ?_, ?_, ?_, ?_, ?_, ?_, (by repeat (first | with_reducible exact Below.refl _ _ | with_reducible assumption | with_reducible refine Below.setCell ?_ (by first | omega | (simp <;> omega)) _ | with_reducible refine balloc ?_ _ | with_reducible refine Below.drew ?_ | with_reducible refine bstep ?_ (by with_reducible assumption)))⟩
      all_goals go_simp
  case rest =>
    obtain ⟨A, B, rfl, rfl, k1, k2, k3, k4, k5, k6, l1, l2, l3, hb0⟩ := hcut
    go_wp2_with fail
    go_region_held3 (fun w' => w'.cell? ⟨w.heap.size, 0, none⟩ = some (.int .i64 p1) ∧ w'.cell? ⟨w.heap.size, 1, none⟩ = some (.int .i64 p2) ∧
      w'.cell? ⟨A, 0, none⟩ = some (.int .i64 a1) ∧ w'.cell? ⟨A, 1, none⟩ = some (.int .i64 a2) ∧ w'.cell? ⟨B, 0, none⟩ = some (.int .i64 b1) ∧ w'.cell? ⟨B, 1, none⟩ = some (.int .i64 b2)) (go_keep)
      (first | (go_at_call 72; refine (dot_c _ _ _ _ _ _ _ (by assumption) (by assumption) (by assumption)).mono ?_; rintro e w1 ⟨rfl, hb1⟩; obtain ⟨hc1, hf1⟩ := bcell hb1; have hs := hb1.size; (try simp at hs); have g1 := fun o => hc1 w.heap.size o (by first | omega | (simp <;> omega)); have g2 := fun o => hc1 A o (by first | omega | (simp <;> omega)); have g3 := fun o => hc1 B o (by first | omega | (simp <;> omega)); have hs1 : w.heap.size < w1.heap.size := (by first | omega | (simp <;> omega)); have hs2 : A < w1.heap.size := (by first | omega | (simp <;> omega)); have hs3 : B < w1.heap.size := (by first | omega | (simp <;> omega)); clear hc1 hf1 hs)
             | (go_at_call 73; refine (sq_c _ _ _ _ _ (by assumption) (by assumption)).mono ?_; rintro e w1 ⟨rfl, hb1⟩; obtain ⟨hc1, hf1⟩ := bcell hb1; have hs := hb1.size; (try simp at hs); have g1 := fun o => hc1 w.heap.size o (by first | omega | (simp <;> omega)); have g2 := fun o => hc1 A o (by first | omega | (simp <;> omega)); have g3 := fun o => hc1 B o (by first | omega | (simp <;> omega)); have hs1 : w.heap.size < w1.heap.size := (by first | omega | (simp <;> omega)); have hs2 : A < w1.heap.size := (by first | omega | (simp <;> omega)); have hs3 : B < w1.heap.size := (by first | omega | (simp <;> omega)); clear hc1 hf1 hs))
    obtain ⟨n1, n2⟩ := cross_bd a1 a2 b1 b2 p1 p2 ha hb hp
    obtain ⟨n3, n4⟩ := sq_bd a1 a2 b1 b2 ha hb

    rcases Decidable.em (a1 = b1) with rfl | e1 <;> rcases Decidable.em (a2 = b2) with rfl | e2
    all_goals
      go_wp2_with (first
        | (go_at_call 73; refine (sq_c _ _ _ _ _ (by assumption) (by assumption)).mono ?_; rintro e w2 ⟨rfl, hb2⟩)
        | (go_at_call 64; refine (cmp_c _ _ _).mono ?_; rintro e w2 ⟨rfl, rfl⟩)
        | (go_at_call 74; refine (cross_c _ _ _ _ _ _ _ (by assumption) (by assumption) (by assumption)).mono ?_; rintro e w2 ⟨rfl, hb2⟩)
        | (go_at_call 76; refine (product_c _ _ _ (by unfold small; omega) (by unfold small; omega)).mono ?_; rintro e w2 ⟨rfl, hb2⟩)
        | (go_at_call 75; refine (wordz_c _ _ _).mono ?_; rintro e w2 ⟨rfl, hb2⟩))
      all_goals
        go_ret
        refine ret_int ?_ (by repeat (first | with_reducible exact Below.refl _ _ | with_reducible assumption | with_reducible refine Below.setCell ?_ (by first | omega | (simp <;> omega)) _ | with_reducible refine balloc ?_ _ | with_reducible refine Below.drew ?_ | with_reducible refine bstep ?_ (by with_reducible assumption)))
        unfold cmpDist
        first
          | (rw [if_pos (by omega)])
          | (rw [if_neg (by omega), if_pos (by omega)])
          | (rw [if_neg (by omega), if_neg (by omega), Int.neg_mul_neg])
          | (rw [if_neg (by omega), if_neg (by omega)])

end Go.Proofs.Ytpadkmlckmopfaa

/- What package datum computes, in plain words. -/
import Derived.Test.YtlkjpackjjncaaaSpanN
namespace Go.Proofs.Ytlkjpackjjncaaa.Da
open Go.RowKit Sp
set_option linter.unusedVariables false

theorem between_mul {a b x n : Int} (h1 : a ≤ x) (h2 : x ≤ b) : min (a * n) (b * n) ≤ x * n ∧ x * n ≤ max (a * n) (b * n) := by
  rcases Int.le_total 0 n with h | h
  · have e1 := Int.mul_le_mul_of_nonneg_right h1 h
    have e2 := Int.mul_le_mul_of_nonneg_right h2 h
    omega
  · have e1 := Int.mul_le_mul_of_nonpos_right h1 h
    have e2 := Int.mul_le_mul_of_nonpos_right h2 h
    omega
def wn (n m : Int) : Bool := decide (-m ≤ n) && decide (n ≤ m)
theorem wn_iff {n m : Int} : wn n m = true ↔ -m ≤ n ∧ n ≤ m := by simp [wn]
def fac (m1 m2 m4 m5 : Int) : Bool := wn m1 2000000 && wn m2 2000000 && wn m4 2000000 && wn m5 2000000
def dV (m1 m2 m3 m4 m5 m6 m7 : Int) : Bool := fac m1 m2 m4 m5 && wn m3 100000 && wn m6 100000 && decide (0 ≤ m7) && decide (m7 ≤ 1000) && decide (250000000000 ≤ m1 * m5 - m2 * m4)
theorem dV_iff {m1 m2 m3 m4 m5 m6 m7 : Int} : dV m1 m2 m3 m4 m5 m6 m7 = true ↔ ((-2000000 ≤ m1 ∧ m1 ≤ 2000000) ∧ (-2000000 ≤ m2 ∧ m2 ≤ 2000000) ∧ (-2000000 ≤ m4 ∧ m4 ≤ 2000000) ∧ (-2000000 ≤ m5 ∧ m5 ≤ 2000000)) ∧ (-100000 ≤ m3 ∧ m3 ≤ 100000) ∧ (-100000 ≤ m6 ∧ m6 ≤ 100000) ∧ 0 ≤ m7 ∧ m7 ≤ 1000 ∧ 250000000000 ≤ m1 * m5 - m2 * m4 := by
  simp [dV, fac, wn_iff, and_assoc]
/-- what a row makes of a place, in millionths -/
def rv (a b c x y : Int) : Int := a * x + b * y + c * 1000000
/-- the nearest integer of n / d -/
def nr (n d : Int) : Int := dn (2 * n + d) (2 * d)
def oL (a b c x1 x2 y1 y2 : Int) : Int := min (x1 * a) (x2 * a) + min (y1 * b) (y2 * b) + c * 1000000
def oH (a b c x1 x2 y1 y2 : Int) : Int := max (x1 * a) (x2 * a) + max (y1 * b) (y2 * b) + c * 1000000
/-- the ends of a span of a box that is carried -/
def cL (a b c r x1 x2 y1 y2 : Int) : Int := dn (oL a b c x1 x2 y1 y2) 1000000 - r
def cH (a b c r x1 x2 y1 y2 : Int) : Int := upd (oH a b c x1 x2 y1 y2) 1000000 + r
/-- the ends of a span that is led back -/
def kL (a b u1 u2 v1 v2 d : Int) : Int := upd (oL a b 0 u1 u2 v1 v2 * 1000000) d
def kH (a b u1 u2 v1 v2 d : Int) : Int := dn (oH a b 0 u1 u2 v1 v2 * 1000000) d
def ft (v q r : Int) : Prop := -(r * 1000000) ≤ q * 1000000 - v ∧ q * 1000000 - v ≤ r * 1000000
theorem dn_mono {a b d : Int} (hd : 0 < d) (h : a ≤ b) : dn a d ≤ dn b d := by unfold dn; exact Int.ediv_le_ediv hd h
theorem upd_mono {a b d : Int} (hd : 0 < d) (h : a ≤ b) : upd a d ≤ upd b d := by
  unfold upd
  have := Int.ediv_le_ediv hd (show -b ≤ -a by omega)
  omega
theorem ov_has {a b c x1 x2 y1 y2 x y : Int} (h1 : x1 ≤ x) (h2 : x ≤ x2) (h3 : y1 ≤ y) (h4 : y ≤ y2) :
    oL a b c x1 x2 y1 y2 ≤ rv a b c x y ∧ rv a b c x y ≤ oH a b c x1 x2 y1 y2 := by
  have e1 := between_mul (n := a) h1 h2
  have e2 := between_mul (n := b) h3 h4
  unfold oL oH rv
  rw [Int.mul_comm a x, Int.mul_comm b y]
  omega
theorem ov_in {a b c x1 x2 y1 y2 X1 X2 Y1 Y2 : Int} (h1 : X1 ≤ x1) (h2 : x2 ≤ X2) (h3 : Y1 ≤ y1) (h4 : y2 ≤ Y2) (hx : x1 ≤ x2) (hy : y1 ≤ y2) :
    oL a b c X1 X2 Y1 Y2 ≤ oL a b c x1 x2 y1 y2 ∧ oH a b c x1 x2 y1 y2 ≤ oH a b c X1 X2 Y1 Y2 := by
  have e1 := between_mul (n := a) h1 (show x1 ≤ X2 by omega)
  have e2 := between_mul (n := a) (show X1 ≤ x2 by omega) h2
  have e3 := between_mul (n := b) h3 (show y1 ≤ Y2 by omega)
  have e4 := between_mul (n := b) (show Y1 ≤ y2 by omega) h4
  unfold oL oH
  omega
theorem ov_le {a b c x1 x2 y1 y2 : Int} : oL a b c x1 x2 y1 y2 ≤ oH a b c x1 x2 y1 y2 := by unfold oL oH; omega
theorem c_has {a b c r x1 x2 y1 y2 x y q : Int} (h1 : x1 ≤ x) (h2 : x ≤ x2) (h3 : y1 ≤ y) (h4 : y ≤ y2) (hf : ft (rv a b c x y) q r) :
    cL a b c r x1 x2 y1 y2 ≤ q ∧ q ≤ cH a b c r x1 x2 y1 y2 := by
  have e := ov_has (a := a) (b := b) (c := c) h1 h2 h3 h4
  unfold cL cH
  have d1 := dn_spec (n := oL a b c x1 x2 y1 y2) (d := 1000000) (by omega)
  have d2 := upd_spec (n := oH a b c x1 x2 y1 y2) (d := 1000000) (by omega)
  unfold ft at hf
  omega
theorem c_in {a b c r x1 x2 y1 y2 X1 X2 Y1 Y2 : Int} (h1 : X1 ≤ x1) (h2 : x2 ≤ X2) (h3 : Y1 ≤ y1) (h4 : y2 ≤ Y2) (hx : x1 ≤ x2) (hy : y1 ≤ y2) :
    cL a b c r X1 X2 Y1 Y2 ≤ cL a b c r x1 x2 y1 y2 ∧ cH a b c r x1 x2 y1 y2 ≤ cH a b c r X1 X2 Y1 Y2 := by
  have e := ov_in (a := a) (b := b) (c := c) h1 h2 h3 h4 hx hy
  have e1 := dn_mono (d := 1000000) (by omega) e.1
  have e2 := upd_mono (d := 1000000) (by omega) e.2
  unfold cL cH
  omega
theorem dn_le_upd {a b d : Int} (hd : 0 < d) (h : a ≤ b) : dn a d ≤ upd b d := by
  have e1 := dn_mono hd h
  have d1 := dn_spec (n := b) hd
  have d2 := upd_spec (n := b) hd
  have : dn b d * d ≤ upd b d * d := by omega
  have := Int.le_of_mul_le_mul_right this hd
  omega
theorem c_le {a b c r x1 x2 y1 y2 : Int} (hr : 0 ≤ r) : dn (oL a b c x1 x2 y1 y2) 1000000 ≤ upd (oH a b c x1 x2 y1 y2) 1000000 ∧ cL a b c r x1 x2 y1 y2 ≤ cH a b c r x1 x2 y1 y2 := by
  have e := dn_le_upd (d := 1000000) (by omega) (ov_le (a := a) (b := b) (c := c) (x1 := x1) (x2 := x2) (y1 := y1) (y2 := y2))
  unfold cL cH
  omega
/-- a place x, by the row (e, -b) of the turned map: U, V what the rows make of it, without moving -/
theorem k_has {a b u1 u2 v1 v2 d x U V : Int} (hd : 0 < d) (h1 : u1 * 1000000 ≤ U) (h2 : U ≤ u2 * 1000000) (h3 : v1 * 1000000 ≤ V) (h4 : V ≤ v2 * 1000000) (he : a * U + b * V = d * x) :
    kL a b u1 u2 v1 v2 d ≤ x ∧ x ≤ kH a b u1 u2 v1 v2 d := by
  have e1 := between_mul (n := a) h1 h2
  have e2 := between_mul (n := b) h3 h4
  have s1 : u1 * 1000000 * a = u1 * a * 1000000 := by rw [Int.mul_assoc, Int.mul_comm 1000000 a, Int.mul_assoc]
  have s2 : u2 * 1000000 * a = u2 * a * 1000000 := by rw [Int.mul_assoc, Int.mul_comm 1000000 a, Int.mul_assoc]
  have s3 : v1 * 1000000 * b = v1 * b * 1000000 := by rw [Int.mul_assoc, Int.mul_comm 1000000 b, Int.mul_assoc]
  have s4 : v2 * 1000000 * b = v2 * b * 1000000 := by rw [Int.mul_assoc, Int.mul_comm 1000000 b, Int.mul_assoc]
  rw [s1, s2] at e1
  rw [s3, s4] at e2
  rw [Int.mul_comm U a] at e1
  rw [Int.mul_comm V b] at e2
  unfold kL kH
  have d1 := upd_spec (n := oL a b 0 u1 u2 v1 v2 * 1000000) hd
  have d2 := dn_spec (n := oH a b 0 u1 u2 v1 v2 * 1000000) hd
  have l1 : oL a b 0 u1 u2 v1 v2 * 1000000 ≤ d * x := by unfold oL; omega
  have l2 : d * x ≤ oH a b 0 u1 u2 v1 v2 * 1000000 := by unfold oH; omega
  constructor
  · have : (upd (oL a b 0 u1 u2 v1 v2 * 1000000) d - 1) * d < x * d := by rw [Int.mul_comm x d]; omega
    have := Int.lt_of_mul_lt_mul_right this (by omega)
    omega
  · have : x * d < (dn (oH a b 0 u1 u2 v1 v2 * 1000000) d + 1) * d := by rw [Int.mul_comm x d]; omega
    have := Int.lt_of_mul_lt_mul_right this (by omega)
    omega
theorem k_in {a b u1 u2 v1 v2 U1 U2 V1 V2 d : Int} (hd : 0 < d) (h1 : U1 ≤ u1) (h2 : u2 ≤ U2) (h3 : V1 ≤ v1) (h4 : v2 ≤ V2) (hx : u1 ≤ u2) (hy : v1 ≤ v2) :
    kL a b U1 U2 V1 V2 d ≤ kL a b u1 u2 v1 v2 d ∧ kH a b u1 u2 v1 v2 d ≤ kH a b U1 U2 V1 V2 d := by
  have e := ov_in (a := a) (b := b) (c := 0) h1 h2 h3 h4 hx hy
  exact ⟨upd_mono hd (by omega), dn_mono hd (by omega)⟩
theorem nr_spec {n d : Int} (hd : 0 < d) : 2 * (nr n d * d) ≤ 2 * n + d ∧ 2 * n < 2 * (nr n d * d) + d := by
  have h := dn_spec (n := 2 * n + d) (d := 2 * d) (by omega)
  unfold nr
  generalize dn (2 * n + d) (2 * d) = q at *
  have e1 : q * (2 * d) = 2 * (q * d) := by grind
  have e2 : (q + 1) * (2 * d) = 2 * (q * d) + 2 * d := by grind
  omega
theorem abs_mul {a x r : Int} (h1 : -r ≤ x) (h2 : x ≤ r) : -(max a (-a) * r) ≤ a * x ∧ a * x ≤ max a (-a) * r := by
  have := mul_bd (a := a) (b := x) (A := max a (-a)) (B := r) (by omega) (by omega) h1 h2
  exact this
/-- one row of Then -/
theorem then_row {A B C D E F R a b c r px py qx qy rx S w : Int} (hp1 : -1000000 ≤ px ∧ px ≤ 1000000) (hp2 : -1000000 ≤ py ∧ py ≤ 1000000)
    (h1 : ft (rv A B C px py) qx R) (h2 : ft (rv D E F px py) qy R) (h3 : ft (rv a b c qx qy) rx r) (hR : 0 ≤ R) (hw : max a (-a) + max b (-b) ≤ w) :
    ft (rv (nr (a * A + b * D) 1000000) (nr (a * B + b * E) 1000000) (nr (a * C + b * F) 1000000 + c) px py) rx (upd (w * R) 1000000 + r + 2) := by
  have n1 := nr_spec (n := a * A + b * D) (d := 1000000) (by omega)
  have n2 := nr_spec (n := a * B + b * E) (d := 1000000) (by omega)
  have n3 := nr_spec (n := a * C + b * F) (d := 1000000) (by omega)
  have d1 := upd_spec (n := w * R) (d := 1000000) (by omega)
  generalize nr (a * A + b * D) 1000000 = x at *
  generalize nr (a * B + b * E) 1000000 = y at *
  generalize nr (a * C + b * F) 1000000 = z at *
  generalize upd (w * R) 1000000 = u at *
  unfold ft rv at *
  obtain ⟨X, hX⟩ : ∃ X, qx * 1000000 - (A * px + B * py + C * 1000000) = X := ⟨_, rfl⟩
  obtain ⟨Y, hY⟩ : ∃ X, qy * 1000000 - (D * px + E * py + F * 1000000) = X := ⟨_, rfl⟩
  obtain ⟨Z, hZ⟩ : ∃ X, rx * 1000000 - (a * qx + b * qy + c * 1000000) = X := ⟨_, rfl⟩
  rw [hX] at h1; rw [hY] at h2; rw [hZ] at h3
  have m1 := abs_mul (a := a) h1.1 h1.2
  have m2 := abs_mul (a := b) h2.1 h2.2
  obtain ⟨ea, hea⟩ : ∃ e, a * A + b * D - x * 1000000 = e := ⟨_, rfl⟩
  obtain ⟨eb, heb⟩ : ∃ e, a * B + b * E - y * 1000000 = e := ⟨_, rfl⟩
  have m3 := mul_bd (a := ea) (b := px) (A := 500000) (B := 1000000) (by omega) (by omega) (by omega) (by omega)
  have m4 := mul_bd (a := eb) (b := py) (A := 500000) (B := 1000000) (by omega) (by omega) (by omega) (by omega)
  have hw2 : (max a (-a) + max b (-b)) * R ≤ w * R := Int.mul_le_mul_of_nonneg_right hw hR
  have hw3 : max a (-a) * (R * 1000000) + max b (-b) * (R * 1000000) = (max a (-a) + max b (-b)) * R * 1000000 := by grind
  have key : 1000000 * (rx * 1000000 - (x * px + y * py + (z + c) * 1000000)) = 1000000 * Z + (a * X + b * Y) + ea * px + eb * py + 1000000 * (a * C + b * F - z * 1000000) := by
    subst hX hY hZ hea heb
    grind
  omega
/-- one row of Undo: (a, b) of the turned rows, G, H what the rows of the map make of the place p, without moving -/
theorem undo_row {a b C F R d G H p qx qy w : Int} (hd : 0 < d) (hq : -1000000 ≤ qx ∧ qx ≤ 1000000) (hq2 : -1000000 ≤ qy ∧ qy ≤ 1000000)
    (hC : -100000 ≤ C ∧ C ≤ 100000) (hF : -100000 ≤ F ∧ F ≤ 100000) (hR : 0 ≤ R)
    (h1 : ft (G + C * 1000000) qx R) (h2 : ft (H + F * 1000000) qy R) (he : a * G + b * H = d * p)
    (x y : Int) (hx : x = nr (a * 1000000 * 1000000) d) (hy : y = nr (b * 1000000 * 1000000) d) (hw : max x (-x) + max y (-y) + 1 ≤ w) :
    ft (rv x y (nr (-(x * C + y * F)) 1000000) qx qy) p (upd (w * R) 1000000 + 2) := by
  have n1 := nr_spec (n := a * 1000000 * 1000000) hd
  have n2 := nr_spec (n := b * 1000000 * 1000000) hd
  have n3 := nr_spec (n := -(x * C + y * F)) (d := 1000000) (by omega)
  rw [← hx] at n1; rw [← hy] at n2
  have d1 := upd_spec (n := w * R) (d := 1000000) (by omega)
  generalize nr (-(x * C + y * F)) 1000000 = z at *
  generalize upd (w * R) 1000000 = u at *
  unfold ft rv at *
  obtain ⟨X, hX⟩ : ∃ X, qx * 1000000 - (G + C * 1000000) = X := ⟨_, rfl⟩
  obtain ⟨Y, hY⟩ : ∃ X, qy * 1000000 - (H + F * 1000000) = X := ⟨_, rfl⟩
  rw [hX] at h1; rw [hY] at h2
  have m1 := abs_mul (a := x) h1.1 h1.2
  have m2 := abs_mul (a := y) h2.1 h2.2
  obtain ⟨ea, hea⟩ : ∃ e, a * 1000000 * 1000000 - x * d = e := ⟨_, rfl⟩
  obtain ⟨eb, heb⟩ : ∃ e, b * 1000000 * 1000000 - y * d = e := ⟨_, rfl⟩
  have hG : max G (-G) ≤ 1100000000000 + R * 1000000 := by omega
  have hH : max H (-H) ≤ 1100000000000 + R * 1000000 := by omega
  generalize hgg : 1100000000000 + R * 1000000 = M at *
  have m3 := mul_bd (a := 2 * ea) (b := G) (A := d) (B := M) (by omega) (by omega) (by omega) (by omega)
  have m4 := mul_bd (a := 2 * eb) (b := H) (A := d) (B := M) (by omega) (by omega) (by omega) (by omega)
  have hw2 : (max x (-x) + max y (-y) + 1) * R ≤ w * R := Int.mul_le_mul_of_nonneg_right hw hR
  have hw3 : max x (-x) * (R * 1000000) + max y (-y) * (R * 1000000) + R * 1000000 = (max x (-x) + max y (-y) + 1) * R * 1000000 := by grind
  obtain ⟨T, hT⟩ : ∃ T, 1000000 * (p * 1000000 - (x * qx + y * qy + z * 1000000)) + (x * X + y * Y) - 1000000 * (-(x * C + y * F) - z * 1000000) = T := ⟨_, rfl⟩
  have key : 2 * (d * T) = 2 * ea * G + 2 * eb * H := by
    subst hX hY hea heb hT
    grind
  have t1 : d * T ≤ d * M := by omega
  have t2 : d * (-M) ≤ d * T := by rw [Int.mul_neg]; omega
  have t3 := Int.le_of_mul_le_mul_left t1 hd
  have t4 := Int.le_of_mul_le_mul_left t2 hd
  omega
end Go.Proofs.Ytlkjpackjjncaaa.Da

/- Bounds and flags of package datum, in plain words. -/
import Derived.Test.YtlkjpackjjncaaaDatM
import Derived.Test.YtlkjpackjjncaaaPlaneM
namespace Go.Proofs.Ytlkjpackjjncaaa.Da
open Go.RowKit Sp
set_option linter.unusedVariables false

def ftB (v q r : Int) : Bool := wn (q * 1000000 - v) (r * 1000000)
theorem ftB_iff {v q r : Int} : ftB v q r = true ↔ ft v q r := by simp [ftB, wn, ft]
/-- The parts of a valid datum are in range. -/
structure Rg (m1 m2 m3 m4 m5 m6 m7 : Int) : Prop where
  h1 : -2000000 ≤ m1 ∧ m1 ≤ 2000000
  h2 : -2000000 ≤ m2 ∧ m2 ≤ 2000000
  h3 : -100000 ≤ m3 ∧ m3 ≤ 100000
  h4 : -2000000 ≤ m4 ∧ m4 ≤ 2000000
  h5 : -2000000 ≤ m5 ∧ m5 ≤ 2000000
  h6 : -100000 ≤ m6 ∧ m6 ≤ 100000
  h7 : 0 ≤ m7 ∧ m7 ≤ 1000
  hd : 250000000000 ≤ m1 * m5 - m2 * m4
theorem rg_of {m1 m2 m3 m4 m5 m6 m7 : Int} (h : dV m1 m2 m3 m4 m5 m6 m7 = true) : Rg m1 m2 m3 m4 m5 m6 m7 := by
  rw [dV_iff] at h
  obtain ⟨⟨a, b, c, d⟩, e, f, g, i, j⟩ := h
  exact ⟨a, b, e, c, d, f, ⟨g, i⟩, j⟩
theorem det_bd {m1 m2 m4 m5 : Int} (h1 : -2000000 ≤ m1 ∧ m1 ≤ 2000000) (h2 : -2000000 ≤ m2 ∧ m2 ≤ 2000000) (h4 : -2000000 ≤ m4 ∧ m4 ≤ 2000000) (h5 : -2000000 ≤ m5 ∧ m5 ≤ 2000000) : -8000000000000 ≤ m1 * m5 - m2 * m4 ∧ m1 * m5 - m2 * m4 ≤ 8000000000000 := by
  have a := mul_bd (a := m1) (b := m5) (A := 2000000) (B := 2000000) (by omega) (by omega) (by omega) (by omega)
  have b := mul_bd (a := m2) (b := m4) (A := 2000000) (B := 2000000) (by omega) (by omega) (by omega) (by omega)
  omega
theorem rv_bd {a b c x y : Int} (ha : -2000000 ≤ a ∧ a ≤ 2000000) (hb : -2000000 ≤ b ∧ b ≤ 2000000) (hc : -100000 ≤ c ∧ c ≤ 100000) (hx : -1000000 ≤ x ∧ x ≤ 1000000) (hy : -1000000 ≤ y ∧ y ≤ 1000000) : -4100000000000 ≤ rv a b c x y ∧ rv a b c x y ≤ 4100000000000 := by
  have p := mul_bd (a := a) (b := x) (A := 2000000) (B := 1000000) (by omega) (by omega) (by omega) (by omega)
  have q := mul_bd (a := b) (b := y) (A := 2000000) (B := 1000000) (by omega) (by omega) (by omega) (by omega)
  unfold rv
  omega
theorem ov_bd {a b c x1 x2 y1 y2 : Int} (ha : -2000000 ≤ a ∧ a ≤ 2000000) (hb : -2000000 ≤ b ∧ b ≤ 2000000) (hc : -100000 ≤ c ∧ c ≤ 100000) (h1 : -1200000 ≤ x1 ∧ x1 ≤ 1200000) (h2 : -1200000 ≤ x2 ∧ x2 ≤ 1200000) (h3 : -1200000 ≤ y1 ∧ y1 ≤ 1200000) (h4 : -1200000 ≤ y2 ∧ y2 ≤ 1200000) :
    -4900000000000 ≤ oL a b c x1 x2 y1 y2 ∧ oL a b c x1 x2 y1 y2 ≤ oH a b c x1 x2 y1 y2 ∧ oH a b c x1 x2 y1 y2 ≤ 4900000000000 := by
  have p := mul_bd (a := x1) (b := a) (A := 1200000) (B := 2000000) (by omega) (by omega) (by omega) (by omega)
  have q := mul_bd (a := x2) (b := a) (A := 1200000) (B := 2000000) (by omega) (by omega) (by omega) (by omega)
  have r := mul_bd (a := y1) (b := b) (A := 1200000) (B := 2000000) (by omega) (by omega) (by omega) (by omega)
  have s := mul_bd (a := y2) (b := b) (A := 1200000) (B := 2000000) (by omega) (by omega) (by omega) (by omega)
  unfold oL oH
  omega
theorem ov_bd0 {a b x1 x2 y1 y2 : Int} (ha : -2000000 ≤ a ∧ a ≤ 2000000) (hb : -2000000 ≤ b ∧ b ≤ 2000000) (h1 : -1101000 ≤ x1 ∧ x1 ≤ 1101000) (h2 : -1101000 ≤ x2 ∧ x2 ≤ 1101000) (h3 : -1101000 ≤ y1 ∧ y1 ≤ 1101000) (h4 : -1101000 ≤ y2 ∧ y2 ≤ 1101000) :
    -4404000000000 ≤ oL a b 0 x1 x2 y1 y2 ∧ oL a b 0 x1 x2 y1 y2 ≤ oH a b 0 x1 x2 y1 y2 ∧ oH a b 0 x1 x2 y1 y2 ≤ 4404000000000 := by
  have p := mul_bd (a := x1) (b := a) (A := 1101000) (B := 2000000) (by omega) (by omega) (by omega) (by omega)
  have q := mul_bd (a := x2) (b := a) (A := 1101000) (B := 2000000) (by omega) (by omega) (by omega) (by omega)
  have r := mul_bd (a := y1) (b := b) (A := 1101000) (B := 2000000) (by omega) (by omega) (by omega) (by omega)
  have s := mul_bd (a := y2) (b := b) (A := 1101000) (B := 2000000) (by omega) (by omega) (by omega) (by omega)
  unfold oL oH
  omega
theorem dn_bd {n d B : Int} (hd : 250000000000 ≤ d) (hB : B = 100000000) (h1 : -4404000000000000000 ≤ n) (h2 : n ≤ 4404000000000000000) : -B ≤ dn n d ∧ dn n d ≤ B := by
  subst hB
  obtain ⟨a, b⟩ := dn_spec (n := n) (d := d) (by omega)
  generalize dn n d = q at *
  constructor
  · by_cases k : q < -100000000
    · have e : (q + 1) * d ≤ (-100000000) * d := Int.mul_le_mul_of_nonneg_right (by omega) (by omega)
      omega
    · omega
  · by_cases k : 100000000 < q
    · have e : 100000001 * d ≤ q * d := Int.mul_le_mul_of_nonneg_right (by omega) (by omega)
      omega
    · omega
theorem upd_bd {n d : Int} (hd : 250000000000 ≤ d) (h1 : -4404000000000000000 ≤ n) (h2 : n ≤ 4404000000000000000) : -100000000 ≤ upd n d ∧ upd n d ≤ 100000000 := by
  have := dn_bd (n := -n) (d := d) hd rfl (by omega) (by omega)
  rw [upd_neg]
  omega
/-- The flags and the values of the exported functions. -/
def vFits (m1 m2 m3 m4 m5 m6 m7 p1 p2 q1 q2 : Int) : Bool := dV m1 m2 m3 m4 m5 m6 m7 && okB p1 p2 && okB q1 q2
def xFits (m1 m2 m3 m4 m5 m6 m7 p1 p2 q1 q2 : Int) : Bool := ftB (rv m1 m2 m3 p1 p2) q1 m7 && ftB (rv m4 m5 m6 p1 p2) q2 m7
def rCarry (m1 m2 m3 m4 m5 m6 m7 b1 b2 b3 b4 : Int) : Bool := vB (cL m1 m2 m3 m7 b1 b2 b3 b4) (cH m1 m2 m3 m7 b1 b2 b3 b4) (cL m4 m5 m6 m7 b1 b2 b3 b4) (cH m4 m5 m6 m7 b1 b2 b3 b4)
def bX1 (m1 m2 m3 m4 m5 m6 m7 b1 b2 b3 b4 : Int) : Int := kL m5 (-m2) (b1 - (m3 + m7)) (b2 - (m3 - m7)) (b3 - (m6 + m7)) (b4 - (m6 - m7)) (m1 * m5 - m2 * m4)
def bX2 (m1 m2 m3 m4 m5 m6 m7 b1 b2 b3 b4 : Int) : Int := kH m5 (-m2) (b1 - (m3 + m7)) (b2 - (m3 - m7)) (b3 - (m6 + m7)) (b4 - (m6 - m7)) (m1 * m5 - m2 * m4)
def bY1 (m1 m2 m3 m4 m5 m6 m7 b1 b2 b3 b4 : Int) : Int := kL (-m4) m1 (b1 - (m3 + m7)) (b2 - (m3 - m7)) (b3 - (m6 + m7)) (b4 - (m6 - m7)) (m1 * m5 - m2 * m4)
def bY2 (m1 m2 m3 m4 m5 m6 m7 b1 b2 b3 b4 : Int) : Int := kH (-m4) m1 (b1 - (m3 + m7)) (b2 - (m3 - m7)) (b3 - (m6 + m7)) (b4 - (m6 - m7)) (m1 * m5 - m2 * m4)
def rPl (x1 x2 y1 y2 : Int) : Bool := rM x1 x2 (-1000000) 1000000 && rM y1 y2 (-1000000) 1000000
/-- The results of Then and of Undo. -/
def tA (m1 m2 m4 m5 n1 n2 : Int) : Int := nr (n1 * m1 + n2 * m4) 1000000
def tB (m1 m2 m4 m5 n1 n2 : Int) : Int := nr (n1 * m2 + n2 * m5) 1000000
def tC (m3 m6 n1 n2 n3 : Int) : Int := nr (n1 * m3 + n2 * m6) 1000000 + n3
def tW (n1 n2 n4 n5 k : Int) : Int := max (max n1 (-n1) + max n2 (-n2) + k) (max n4 (-n4) + max n5 (-n5) + k)
def sp (n1 n2 n4 n5 r k : Int) : Int := upd (tW n1 n2 n4 n5 k * r) 1000000
end Go.Proofs.Ytlkjpackjjncaaa.Da

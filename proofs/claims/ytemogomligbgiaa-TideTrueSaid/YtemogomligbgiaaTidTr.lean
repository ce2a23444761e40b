/- TidTr: small numbers in a row of memory; heights between those of rows. -/
import Derived.Test.YtemogomligbgiaaTidNx
namespace Go.Proofs.Ytemogomligbgiaa.Ti
open Go.RowKit Sp
set_option linter.unusedVariables false
def gi (l : List Int) (i : Nat) : Int := l.getD i 0
/-- A slice value of small numbers. -/
structure Bits (w : World) (v : Value) (l : List Int) : Prop where
  ex : ∃ (p : Option Addr) (cap : Nat), v = .slice p l.length cap ∧ (0 < l.length → ∃ b off, p = some ⟨b, off, none⟩ ∧ ∀ i, i < l.length → w.cell? ⟨b, off + i, none⟩ = some (.int .u16 (gi l i)))
  bd : ∀ i, i < l.length → 0 ≤ gi l i ∧ gi l i ≤ 65535
  len : l.length ≤ 9223372036854775807
theorem Bits.below {w W : World} {v : Value} {l : List Int} (h : Bits w v l) (hb : Below w.heap.size w W) : Bits W v l := by
  obtain ⟨⟨p, cap, hv, hp⟩, hbd, hl⟩ := h
  refine ⟨⟨p, cap, hv, fun h0 => ?_⟩, hbd, hl⟩
  obtain ⟨b, off, e, hc⟩ := hp h0
  exact ⟨b, off, e, fun i hi => cell_later hb (hc i hi)⟩
/-- The height at row k. -/
def vaK (l : List Pr) (q : List Int) (k : Nat) : Int := (gt l k).1 + gi q k % ((gt l k).2 - (gt l k).1 + 1)
theorem vaK_in {l : List Pr} {q : List Int} {k : Nat} (h : okH (gt l k) = true) (hq : 0 ≤ gi q k) : (gt l k).1 ≤ vaK l q k ∧ vaK l q k ≤ (gt l k).2 := by
  have h1 := okH_iff.1 h
  have h2 := Int.emod_nonneg (gi q k) (b := (gt l k).2 - (gt l k).1 + 1) (by omega)
  have h3 := Int.emod_lt_of_pos (gi q k) (b := (gt l k).2 - (gt l k).1 + 1) (by omega)
  unfold vaK
  omega
/-- A height between those of both rows is in the height of each span of times that has this time. -/
theorem true_facts {s p : Int} {l : List Pr} {q : List Int} {t f u : Int} (hE0 : hE s p l f u = 0) (hql : l.length ≤ q.length) (hbd : ∀ i, i < q.length → 0 ≤ gi q i ∧ gi q i ≤ 65535) (h1 : f ≤ t) (h2 : t ≤ u) :
    ∃ k : Nat, k < l.length ∧ (t - s) / p = k ∧ (t - s).tdiv p = k ∧ 0 ≤ t - s ∧ ((t - s) % p = 0 → (hV s p l f u).1 ≤ vaK l q k ∧ vaK l q k ≤ (hV s p l f u).2) ∧
      ((t - s) % p ≠ 0 → k + 1 < l.length ∧ (hV s p l f u).1 ≤ min (vaK l q k) (vaK l q (k + 1)) ∧ max (vaK l q k) (vaK l q (k + 1)) ≤ (hV s p l f u).2) := by
  obtain ⟨⟨hv, _, _, fu⟩, a1, a2, a3⟩ := hE_zero hE0
  obtain ⟨⟨vs1, _⟩, ⟨hp1, _⟩, ⟨hn1, _⟩, ⟨_, hla⟩, vall⟩ := vaT_iff.1 hv
  obtain ⟨b1, b2, b3⟩ := div_lt (x := t - s) (p := p) (n := l.length) (by omega) (by omega) (by omega) (by unfold laT at a2; omega)
  have lo := (du_lo (a := (f, u)) (by omega) a1 fu a2).1 (Int.le_refl _) t h1 h2
  have hi := (du_hi (a := (f, u)) (by omega) a1 fu a2).1 (Int.le_refl _) t h1 h2
  rw [a3]
  have hd := Int.mul_ediv_add_emod (t - s) p
  have hr1 := Int.emod_nonneg (t - s) (b := p) (by omega)
  have v1 := vaK_in (l := l) (q := q) (k := ((t - s) / p).toNat) (all_gt' vall _) (hbd _ (by omega)).1
  refine ⟨((t - s) / p).toNat, b1, b2.symm, b3, by omega, fun h => ?_, fun h => ?_⟩
  · unfold At at lo hi
    rw [if_pos h] at lo hi
    omega
  · have hk : ((t - s) / p).toNat + 1 < l.length := by
      rcases Nat.lt_or_ge (((t - s) / p).toNat + 1) l.length with h3 | h3
      · exact h3
      · exfalso
        have e : (t - s) / p = (l.length : Int) - 1 := by omega
        rw [e, Int.mul_comm] at hd
        unfold laT at a2
        omega
    have v2 := vaK_in (l := l) (q := q) (k := ((t - s) / p).toNat + 1) (all_gt' vall _) (hbd _ (by omega)).1
    unfold At at lo hi
    rw [if_neg h] at lo hi
    simp only [jn] at lo hi
    omega
end Go.Proofs.Ytemogomligbgiaa.Ti

/- The places of a variadic call; the ends of two segments, asked by a function value: the walks. -/
import Derived.Test.YtpadkmlckmopfaaPlaneA
import Derived.LoopTactic
import Derived.Outline
namespace Go.Proofs.Ytpadkmlckmopfaa
open Go.RowKit

def allOk (px py : Nat → Int) (n : Nat) : Prop := ∀ i, i < n → ok (px i) (py i)
instance (px py : Nat → Int) (n : Nat) : Decidable (allOk px py n) := by unfold allOk; exact inferInstance
def AtCells (px py : Nat → Int) (n b : Nat) (w : World) : Prop := ∀ i, i < n → w.cell? ⟨b, i * 2, none⟩ = some (.int .i64 (px i)) ∧ w.cell? ⟨b, i * 2 + 1, none⟩ = some (.int .i64 (py i))

set_option maxHeartbeats 800000 in
theorem allValid_c (px py : Nat → Int) (n b : Nat) (w : World) (hn : n ≤ 4) (hc : AtCells px py n b w) (hb : b < w.heap.size) :
    Calls Try.prog 59 #[.slice (some ⟨b, 0, none⟩) n n] w (Ret w (.bool (decide (allOk px py n)))) := by
  go_enter Try.func59, Try.ntmps59
  go_wp2
  go_loopw [7] (fun i wr => ∃ k : Nat, i = (.int .i64 k) ∧ k ≤ n ∧ allOk px py k ∧ AtCells px py n b wr ∧ b < wr.heap.size ∧ Below w.heap.size w wr) (fun i _ => n - (intOf i).toNat)
  case atStart => exact ⟨0, rfl, by omega, fun i hi => absurd hi (Nat.not_lt_zero i), hc, hb, Below.refl _ _⟩
  case round =>
    obtain ⟨k, rfl, hk, hall, hcr, hbr, hbel⟩ := hrel
    by_cases hlt : k < n
    · obtain ⟨c1, c2⟩ := hcr k hlt
      go_wp2_with fail
      refine (valid_c _ _ _).mono ?_
      rintro e w1 ⟨rfl, hb1⟩
      have hq : Below wr.heap.size wr w1 := bstep (by repeat (first | with_reducible exact Below.refl _ _ | with_reducible assumption | with_reducible refine Below.setCell ?_ (by first | omega | (simp <;> omega)) _ | with_reducible refine balloc ?_ _ | with_reducible refine Below.drew ?_ | with_reducible refine bstep ?_ (by with_reducible assumption))) hb1
      have hb2 : Below w.heap.size w w1 := bstep hbel hq
      clear hb1
      have hs := hq.size
      by_cases hv : ok (px k) (py k)
      · have hv' := okB_iff.2 hv
        go_wp2
        go_roundw
        case rel =>
          refine ⟨k + 1, by go_num, by omega, ?_, ?_, by omega, hb2⟩
          · intro i hi
            by_cases hik : i = k
            · rw [hik]; exact hv
            · exact hall i (by omega)
          · exact fun i hi => ⟨cell_later hq (hcr i hi).1, cell_later hq (hcr i hi).2⟩
        case measure => simp [intOf]; omega
      · have hv' : okB (px k) (py k) = false := by simpa [okB] using hv
        go_wp2
        go_ret
        exact ret_bool (by simp; exact fun h => hv (h k hlt)) hb2
    · go_wp2
      go_ret
      obtain rfl : k = n := by omega
      exact ret_bool (by simp; exact hall) hbel

end Go.Proofs.Ytpadkmlckmopfaa

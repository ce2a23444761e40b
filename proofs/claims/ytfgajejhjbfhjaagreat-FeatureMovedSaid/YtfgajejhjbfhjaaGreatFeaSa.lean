/- FeaSa: the cells of places. -/
import Derived.Test.YtfgajejhjbfhjaaGreatGm
import Derived.Test.YtfgajejhjbfhjaaGreatRows
import Derived.WalkKit
import Derived.WalkSpells
import Derived.WalkLawsBesides
import Derived.Lib.Hide
import Derived.Deep.QuietTactic
import Derived.BigQuiet
import Derived.RegionTactic
import Derived.ChangeAlike
import Derived.BigRegion
import Derived.Deep.RegionHeld3
import Derived.Deep.RegionWith
import Derived.Outline
import Derived.IntWalk
import Derived.Deep.DeepCutAuto
import Derived.LoopTactic
import Derived.OwnWalk
import Derived.Laws.OwnMore
import Derived.Laws.AppendOwnNone
namespace Go.Proofs.YtfgajejhjbfhjaaGreat.Fe
open Go.RowKit
set_option linter.unusedSimpArgs false
set_option linter.unusedVariables false

/-- The cells of spans. -/
def flP (s : Po.Pt) : List Value := [(.int .i64 (s.1)), (.int .i64 (s.2))]
def flatP (l : List Po.Pt) : List Value := l.flatMap flP
theorem flatP_app (l m : List Po.Pt) : flatP (l ++ m) = flatP l ++ flatP m := by simp [flatP]
theorem flatP_length (l : List Po.Pt) : (flatP l).length = l.length * 2 := by
  induction l with
  | nil => rfl
  | cons x l ih => simp only [flatP, List.flatMap_cons, List.length_append, List.length_cons] at *; simp only [flP, List.length_cons, List.length_nil]; omega
theorem flatP_get (l : List Po.Pt) (i : Nat) (hi : i < l.length) : (flatP l)[i * 2]? = some (.int .i64 ((Po.gp l i).1)) ∧ (flatP l)[i * 2 + 1]? = some (.int .i64 ((Po.gp l i).2)) := by
  induction l generalizing i with
  | nil => simp at hi
  | cons x l ih =>
    cases i with
    | zero => simp [flatP, flP, Po.gp]
    | succ i =>
      have h := ih i (by simpa using hi)
      have e : flatP (x :: l) = (.int .i64 (x.1)) :: (.int .i64 (x.2)) :: flatP l := rfl
      have e1 : (i + 1) * 2 + 1 = (i * 2 + 1) + 1 + 1 := by omega
      have e0 : (i + 1) * 2 = (i * 2) + 1 + 1 := by omega
      rw [e, e1, e0]
      simpa [Po.gp] using h
theorem flatP_one (l : List Po.Pt) : ∀ u ∈ flatP l, u.oneCell' = true := by
  intro u hu
  simp only [flatP, List.mem_flatMap] at hu
  obtain ⟨p, _, hp⟩ := hu
  simp [flP] at hp
  rcases hp with rfl | rfl <;> rfl
theorem rowP_of {w : World} {g off : Nat} {l : List Po.Pt} (h : ∀ j, j < (flatP l).length → w.cell? ⟨g, off + j, none⟩ = (flatP l)[j]?) : Po.Row w g off l := fun i hi => by
  obtain ⟨e1, e2⟩ := flatP_get l i hi
  have hl := flatP_length l
  refine ⟨?_, ?_⟩
  · rw [h _ (by omega), e1]
  · have := h (i * 2 + 1) (by omega)
    rw [e2] at this
    rw [← this]
    rfl
theorem flatP_set (l : List Po.Pt) (k : Nat) (u : Po.Pt) : flatP (l.set k u) = ((flatP l).set (k * 2) (.int .i64 (u.1))).set (k * 2 + 1) (.int .i64 (u.2)) := by
  induction l generalizing k with
  | nil => simp [flatP]
  | cons x l ih =>
    cases k with
    | zero => rfl
    | succ k =>
      have e : ∀ (y : Po.Pt) (m : List Po.Pt), flatP (y :: m) = (.int .i64 (y.1)) :: (.int .i64 (y.2)) :: flatP m := fun _ _ => rfl
      rw [List.set_cons_succ, e, ih, e]
      have e1 : (k + 1) * 2 + 1 = (k * 2 + 1) + 1 + 1 := by omega
      have e0 : (k + 1) * 2 = (k * 2) + 1 + 1 := by omega
      rw [e1, e0]
      rfl
theorem own_form {W : World} {base n : Nat} {e : TypeId} {size : Nat} {v : Value} {xs : List Value} (h : W.ownsRow base e size v n xs) : ∃ p c, v = .slice p n c ∧ n ≤ c ∧ (p = none → c = 0) := by
  obtain ⟨h1, h2⟩ := h
  rcases h2 with ⟨h, h'⟩ | ⟨g', cap', cur, hv, hb, hc, hn, hm, hs, ht⟩
  · subst h'; exact ⟨_, _, h, Nat.le_refl _, fun _ => rfl⟩
  · exact ⟨_, _, hv, hn, fun h => (by cases h)⟩
theorem below_app2 {B : Nat} {W0 wA w' : World} {e : TypeId} {size : Nat} {v : Value} {n : Nat} {xs : List Value} (hb : Below B W0 wA) (hown : wA.ownsRow B e size v n xs) (hB : B ≤ wA.heap.size) (hg : wA.grownBy w' v.ownBlock) : Below B W0 w' := by
  refine ⟨hg.os.trans hb.os, hg.tape.trans hb.tape, hg.output.trans hb.output, Nat.le_trans hb.size hg.size, fun k hk => ?_⟩
  refine (hg.block k (by omega) ?_).trans (hb.block k hk)
  rcases hown.2 with ⟨rfl, _⟩ | ⟨g, cap, cur, rfl, hbg, _⟩
  · simp [Value.ownBlock]
  · simp [Value.ownBlock]
    omega
theorem own_row {w : World} {base g n cap : Nat} {e : TypeId} {l : List Po.Pt} (h : w.ownsRow base e 2 (.slice (some ⟨g, 0, none⟩) n cap) n (flatP l)) (hl : l.length ≤ n) : Po.Row w g 0 l :=
  rowP_of fun j hj => by
    have hfl := flatP_length l
    rw [Nat.zero_add]; exact h.cellAt j (by omega)

def mv (v1 v2 : Int) (p : Po.Pt) : Po.Pt := (p.1 + v1, p.2 + v2)
/-- The first k are moved. -/
def curM (v1 v2 : Int) (l : List Po.Pt) (k : Nat) : List Po.Pt := (l.take k).map (mv v1 v2) ++ l.drop k
theorem curM_len (v1 v2 : Int) (l : List Po.Pt) (k : Nat) : (curM v1 v2 l k).length = l.length := by simp [curM]; omega
theorem curM_get (v1 v2 : Int) {l : List Po.Pt} {k : Nat} (h : k < l.length) : Po.gp (curM v1 v2 l k) k = Po.gp l k := by
  unfold curM Po.gp
  rw [List.getD_eq_getElem?_getD, List.getD_eq_getElem?_getD, List.getElem?_append_right (by simp; omega), List.getElem?_drop]
  simp [Nat.min_eq_left (Nat.le_of_lt h)]
theorem curM_set (v1 v2 : Int) {l : List Po.Pt} {k : Nat} (h : k < l.length) : (curM v1 v2 l k).set k (mv v1 v2 (Po.gp l k)) = curM v1 v2 l (k + 1) := by
  unfold curM
  rw [List.set_append, if_neg (by simp; omega), List.length_map, List.length_take, Nat.min_eq_left (Nat.le_of_lt h), Nat.sub_self]
  have e : l.drop k = Po.gp l k :: l.drop (k + 1) := by
    rw [List.drop_eq_getElem_cons h]
    simp [Po.gp, h]
  have e2 : l.take (k + 1) = l.take k ++ [Po.gp l k] := by
    rw [List.take_add_one]
    simp [Po.gp, h]
  rw [e, e2]
  simp
theorem curM_zero (v1 v2 : Int) (l : List Po.Pt) : curM v1 v2 l 0 = l := by simp [curM]
theorem curM_full (v1 v2 : Int) (l : List Po.Pt) : curM v1 v2 l l.length = l.map (mv v1 v2) := by simp [curM]
theorem info_pt : (Tryz.prog.info? 23).map (fun i => (i.zero, i.size, i.bytes)) = some (some (.agg #[(.int .i64 0), (.int .i64 0)]), 2, 16) := by kernel_rfl
theorem rowP_news {w : World} {g off : Nat} {l : List Po.Pt} (h : Po.Row w g off l) : ∀ j u, (flatP l)[j]? = some u → w.cell? ((⟨g, off, none⟩ : Addr).add j) = some u := by
  intro j u hj
  have hl := flatP_length l
  have hlt : j < l.length * 2 := by
    rw [← hl]
    exact (List.getElem?_eq_some_iff.1 hj).1
  obtain ⟨i, hi⟩ : ∃ i, j = i * 2 ∨ j = i * 2 + 1 := ⟨j / 2, by omega⟩
  have ea : (⟨g, off, none⟩ : Addr).add j = ⟨g, off + j, none⟩ := by simp [Addr.add]
  rw [ea]
  rcases hi with rfl | rfl
  · obtain ⟨e0, _⟩ := flatP_get l i (by omega)
    rw [e0] at hj
    cases hj
    exact (h i (by omega)).1
  · obtain ⟨_, e1⟩ := flatP_get l i (by omega)
    rw [e1] at hj
    cases hj
    exact (h i (by omega)).2

end Go.Proofs.YtfgajejhjbfhjaaGreat.Fe

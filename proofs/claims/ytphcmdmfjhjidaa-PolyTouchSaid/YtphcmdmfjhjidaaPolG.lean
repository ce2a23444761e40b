/- PolG: leads. -/
import Derived.Test.YtphcmdmfjhjidaaPolD
import Derived.Test.YtphcmdmfjhjidaaRows
import Derived.WalkKit
import Derived.WalkSpells
import Derived.WalkLawsBesides
import Derived.Lib.Hide
import Derived.Deep.QuietTactic
import Derived.BigQuiet
import Derived.RegionTactic
import Derived.ChangeAlike
import Derived.BigRegion
import Derived.Deep.RegionHeld3
import Derived.Deep.RegionWith
import Derived.Outline
import Derived.IntWalk
import Derived.LoopTactic
namespace Go.Proofs.Ytphcmdmfjhjidaa.Po
open Go.RowKit
set_option linter.unusedSimpArgs false
set_option linter.unusedVariables false

def ldAt (l : List Pt) (f : Pt) (i : Nat) : Bool := !decide (f = nx l i) && onP f (gp l i) (nx l i)
def ldVal (l : List Pt) (f t : Pt) (i : Nat) : Bool := inA (if f = gp l i then pv l i else gp l i) f (nx l i) t
def leadsF (l : List Pt) (f t : Pt) : Nat → Bool
  | 0 => true
  | n + 1 => if ldAt l f (l.length - (n + 1)) = true then ldVal l f t (l.length - (n + 1)) else leadsF l f t n
def leadsL (l : List Pt) (f t : Pt) : Bool := leadsF l f t l.length
theorem leadsF_step {l : List Pt} {f t : Pt} {k : Nat} (hk : k < l.length) : leadsF l f t (l.length - k) = if ldAt l f k = true then ldVal l f t k else leadsF l f t (l.length - (k + 1)) := by
  obtain ⟨n, hn⟩ : ∃ n, l.length - k = n + 1 := ⟨l.length - k - 1, by omega⟩
  rw [hn, leadsF, show l.length - (n + 1) = k by omega, show l.length - (k + 1) = n by omega]

set_option maxRecDepth 100000 in
set_option maxHeartbeats 3200000 in
theorem leads_c (b off cap : Nat) (l : List Pt) (f1 f2 t1 t2 : Int) (w : World) (hl : okL l = true) (hf : ok f1 f2) (ht : ok t1 t2) (h24 : l.length ≤ 24) (h0l : 0 < l.length) (hr : Row w b off l) : Calls Try.prog 71 #[.slice (some ⟨b, off, none⟩) l.length cap, (.agg #[.int .i64 f1, .int .i64 f2]), (.agg #[.int .i64 t1, .int .i64 t2])] w (Ret w (.bool (leadsL l (f1, f2) (t1, t2)))) := by
  have hbl := hr.lt h0l
  go_enter Try.func71, Try.ntmps71
  go_wp2
  go_loopw [13] (fun i wr => ∃ k : Nat, i = (.int .i64 k) ∧ k ≤ l.length ∧ Hid (leadsL l (f1, f2) (t1, t2) = leadsF l (f1, f2) (t1, t2) (l.length - k)) ∧ wr.cell? ⟨w.heap.size, 0, none⟩ = some (.int .i64 f1) ∧ wr.cell? ⟨w.heap.size, 1, none⟩ = some (.int .i64 f2) ∧ wr.cell? ⟨w.heap.size + 1, 0, none⟩ = some (.int .i64 t1) ∧ wr.cell? ⟨w.heap.size + 1, 1, none⟩ = some (.int .i64 t2) ∧ w.heap.size + 1 < wr.heap.size ∧ Below w.heap.size w wr) (fun i _ => l.length - (intOf i).toNat)
  case atStart => exact ⟨0, rfl, by omega, Lib.hid rfl, by go_simp, by go_simp, by go_simp, by go_simp, by simp, (by repeat (first | exact Below.refl _ _ | assumption | refine bstep ?_ (by assumption) | refine Below.drew ?_ | refine balloc ?_ _ | refine Below.setCell ?_ (by first | omega | (simp <;> omega)) _))⟩
  case round =>
    obtain ⟨k, rfl, hk, HA, v1, v2, v3, v4, hsz, hbel⟩ := hrel
    by_cases hlt : k < l.length
    · have hrr := hr.below hbl hbel
      have HS := Lib.hid (leadsF_step (f := (f1, f2)) (t := (t1, t2)) hlt)
      obtain ⟨c1, c2⟩ := hrr k hlt
      have HR := Lib.hid hr
      have HQ := Lib.hid hrr
      clear hr hrr
      have o1 := okL_gp hl k
      have o2 := okL_pv hl k
      have o3 := okL_nx hl k
      unfold okP at o1 o2 o3
      generalize hgk : gp l k = g at *
      generalize hnk : nx l k = n at *
      generalize hpk : pv l k = p at *
      obtain ⟨g1, g2⟩ := g
      obtain ⟨n1, n2⟩ := n
      obtain ⟨p1, p2⟩ := p
      have HG := Lib.hid hgk
      have HN := Lib.hid hnk
      have HP := Lib.hid hpk
      go_wp2_with fail
      refine Calls.mono (neigh_c b off cap k l _ hlt h24 (HR.out.below hbl (by repeat (first | exact Below.refl _ _ | assumption | refine bstep ?_ (by assumption) | refine Below.drew ?_ | refine balloc ?_ _ | refine Below.setCell ?_ (by first | omega | (simp <;> omega)) _)))) ?_
      rw [hnk, hpk]
      clear hgk hnk hpk
      rintro e w1 ⟨rfl, hb1⟩
      obtain ⟨hc1, hf1⟩ := bcell hb1
      have hs1 := hb1.size
      (try simp at hs1)
      have k0 : w1.cell? ⟨wr.heap.size, 0, none⟩ = some (.int .i64 g1) := by rw [hc1 _ _ (by first | omega | (simp <;> omega))]; go_simp
      have k1 : w1.cell? ⟨wr.heap.size, 1, none⟩ = some (.int .i64 g2) := by rw [hc1 _ _ (by first | omega | (simp <;> omega))]; go_simp
      have k2 : w1.cell? ⟨w.heap.size, 0, none⟩ = some (.int .i64 f1) := (hc1 _ _ (by first | omega | (simp <;> omega))).trans (cell_al _ v1)
      have k3 : w1.cell? ⟨w.heap.size, 1, none⟩ = some (.int .i64 f2) := (hc1 _ _ (by first | omega | (simp <;> omega))).trans (cell_al _ v2)
      have k4 : w1.cell? ⟨w.heap.size + 1, 0, none⟩ = some (.int .i64 t1) := (hc1 _ _ (by first | omega | (simp <;> omega))).trans (cell_al _ v3)
      have k5 : w1.cell? ⟨w.heap.size + 1, 1, none⟩ = some (.int .i64 t2) := (hc1 _ _ (by first | omega | (simp <;> omega))).trans (cell_al _ v4)
      have z1 : wr.heap.size < w1.heap.size := by omega
      have z2 : w.heap.size + 1 < w1.heap.size := by omega
      have z3 : w.heap.size < w1.heap.size := by omega
      have hB1 : Below w.heap.size w w1 := (by repeat (first | exact Below.refl _ _ | assumption | refine bstep ?_ (by assumption) | refine Below.drew ?_ | refine balloc ?_ _ | refine Below.setCell ?_ (by first | omega | (simp <;> omega)) _))
      have hs0 := hbel.size
      clear hc1 hf1 hb1 v1 v2 v3 v4
      by_cases e1 : f1 = n1
      · by_cases e2 : f2 = n2
        · subst e1 e2
          have ldf : ldAt l (f1, f2) k = false := by simp [ldAt, HN.out]
          have HL := Lib.hid ldf
          clear ldf
          go_wp2
          go_roundw
          case rel => exact ⟨k + 1, by go_num, by omega, Lib.hid (by rw [HA.out, HS.out, if_neg (by rw [HL.out]; simp)]), by go_simp, by go_simp, by go_simp, by go_simp, (by first | omega | (simp <;> omega)), (by repeat (first | exact Below.refl _ _ | assumption | refine bstep ?_ (by assumption) | refine Below.drew ?_ | refine balloc ?_ _ | refine Below.setCell ?_ (by first | omega | (simp <;> omega)) _))⟩
          case measure => simp [intOf]; omega
        · subst e1
          have HF := Lib.hid (show ldAt l (f1, f2) k = onP (f1, f2) (g1, g2) (f1, n2) by simp [ldAt, HN.out, HG.out, e2])
          cases hv : on f1 f2 g1 g2 f1 n2
          · have HV := Lib.hid (show onP (f1, f2) (g1, g2) (f1, n2) = false from hv)
            go_wp2_with fail
            refine Calls.mono (pon_c _ _ _ _ _ _ _ (by assumption) (by assumption) (by assumption)) ?_
            rintro e w2 ⟨rfl, hb2⟩
            obtain ⟨hc2, hf2⟩ := bcell hb2
            have hs2 := hb2.size
            (try simp at hs2)
            replace k0 : w2.cell? ⟨wr.heap.size, 0, none⟩ = some (.int .i64 g1) := (hc2 _ _ (by first | omega | (simp <;> omega))).trans (cell_al _ (cell_al _ k0))
            replace k1 : w2.cell? ⟨wr.heap.size, 1, none⟩ = some (.int .i64 g2) := (hc2 _ _ (by first | omega | (simp <;> omega))).trans (cell_al _ (cell_al _ k1))
            replace k2 : w2.cell? ⟨w.heap.size, 0, none⟩ = some (.int .i64 f1) := (hc2 _ _ (by first | omega | (simp <;> omega))).trans (cell_al _ (cell_al _ k2))
            replace k3 : w2.cell? ⟨w.heap.size, 1, none⟩ = some (.int .i64 f2) := (hc2 _ _ (by first | omega | (simp <;> omega))).trans (cell_al _ (cell_al _ k3))
            replace k4 : w2.cell? ⟨w.heap.size + 1, 0, none⟩ = some (.int .i64 t1) := (hc2 _ _ (by first | omega | (simp <;> omega))).trans (cell_al _ (cell_al _ k4))
            replace k5 : w2.cell? ⟨w.heap.size + 1, 1, none⟩ = some (.int .i64 t2) := (hc2 _ _ (by first | omega | (simp <;> omega))).trans (cell_al _ (cell_al _ k5))
            have k6 : w2.cell? ⟨w1.heap.size, 0, none⟩ = some (.int .i64 p1) := by rw [hc2 _ _ (by first | omega | (simp <;> omega))]; go_simp
            have k7 : w2.cell? ⟨w1.heap.size, 1, none⟩ = some (.int .i64 p2) := by rw [hc2 _ _ (by first | omega | (simp <;> omega))]; go_simp
            have k8 : w2.cell? ⟨w1.heap.size + 1, 0, none⟩ = some (.int .i64 f1) := by rw [hc2 _ _ (by first | omega | (simp <;> omega))]; go_simp
            have k9 : w2.cell? ⟨w1.heap.size + 1, 1, none⟩ = some (.int .i64 n2) := by rw [hc2 _ _ (by first | omega | (simp <;> omega))]; go_simp
            have kf : w2.frozen? ⟨w1.heap.size, 0, none⟩ = false := by rw [hf2 _ _ (by first | omega | (simp <;> omega))]; go_simp
            have kg : w2.frozen? ⟨w1.heap.size, 1, none⟩ = false := by rw [hf2 _ _ (by first | omega | (simp <;> omega))]; go_simp
            have zz : w1.heap.size + 1 < w2.heap.size := by omega
            have za : w1.heap.size ≠ w1.heap.size + 1 := by omega
            have zb : w1.heap.size ≠ w.heap.size := by omega
            have zc : w1.heap.size ≠ w.heap.size + 1 := by omega
            have zd : w1.heap.size ≠ wr.heap.size := by omega
            have hB2 : Below w.heap.size w w2 := (by repeat (first | exact Below.refl _ _ | assumption | refine bstep ?_ (by assumption) | refine Below.drew ?_ | refine balloc ?_ _ | refine Below.setCell ?_ (by first | omega | (simp <;> omega)) _))
            have hle : w.heap.size ≤ w1.heap.size := by omega
            clear hc2 hf2 hb2
            go_wp2
            go_roundw
            case rel => exact ⟨k + 1, by go_num, by omega, Lib.hid (by rw [HA.out, HS.out, if_neg (by rw [HF.out, HV.out]; simp)]), by go_simp, by go_simp, by go_simp, by go_simp, (by first | omega | (simp <;> omega)), (by repeat (first | exact Below.refl _ _ | assumption | refine bstep ?_ (by assumption) | refine Below.drew ?_ | refine balloc ?_ _ | refine Below.setCell ?_ (by first | omega | (simp <;> omega)) _))⟩
            case measure => simp [intOf]; omega
          · have HV := Lib.hid (show onP (f1, f2) (g1, g2) (f1, n2) = true from hv)
            go_wp2_with fail
            refine Calls.mono (pon_c _ _ _ _ _ _ _ (by assumption) (by assumption) (by assumption)) ?_
            rintro e w2 ⟨rfl, hb2⟩
            obtain ⟨hc2, hf2⟩ := bcell hb2
            have hs2 := hb2.size
            (try simp at hs2)
            replace k0 : w2.cell? ⟨wr.heap.size, 0, none⟩ = some (.int .i64 g1) := (hc2 _ _ (by first | omega | (simp <;> omega))).trans (cell_al _ (cell_al _ k0))
            replace k1 : w2.cell? ⟨wr.heap.size, 1, none⟩ = some (.int .i64 g2) := (hc2 _ _ (by first | omega | (simp <;> omega))).trans (cell_al _ (cell_al _ k1))
            replace k2 : w2.cell? ⟨w.heap.size, 0, none⟩ = some (.int .i64 f1) := (hc2 _ _ (by first | omega | (simp <;> omega))).trans (cell_al _ (cell_al _ k2))
            replace k3 : w2.cell? ⟨w.heap.size, 1, none⟩ = some (.int .i64 f2) := (hc2 _ _ (by first | omega | (simp <;> omega))).trans (cell_al _ (cell_al _ k3))
            replace k4 : w2.cell? ⟨w.heap.size + 1, 0, none⟩ = some (.int .i64 t1) := (hc2 _ _ (by first | omega | (simp <;> omega))).trans (cell_al _ (cell_al _ k4))
            replace k5 : w2.cell? ⟨w.heap.size + 1, 1, none⟩ = some (.int .i64 t2) := (hc2 _ _ (by first | omega | (simp <;> omega))).trans (cell_al _ (cell_al _ k5))
            have k6 : w2.cell? ⟨w1.heap.size, 0, none⟩ = some (.int .i64 p1) := by rw [hc2 _ _ (by first | omega | (simp <;> omega))]; go_simp
            have k7 : w2.cell? ⟨w1.heap.size, 1, none⟩ = some (.int .i64 p2) := by rw [hc2 _ _ (by first | omega | (simp <;> omega))]; go_simp
            have k8 : w2.cell? ⟨w1.heap.size + 1, 0, none⟩ = some (.int .i64 f1) := by rw [hc2 _ _ (by first | omega | (simp <;> omega))]; go_simp
            have k9 : w2.cell? ⟨w1.heap.size + 1, 1, none⟩ = some (.int .i64 n2) := by rw [hc2 _ _ (by first | omega | (simp <;> omega))]; go_simp
            have kf : w2.frozen? ⟨w1.heap.size, 0, none⟩ = false := by rw [hf2 _ _ (by first | omega | (simp <;> omega))]; go_simp
            have kg : w2.frozen? ⟨w1.heap.size, 1, none⟩ = false := by rw [hf2 _ _ (by first | omega | (simp <;> omega))]; go_simp
            have zz : w1.heap.size + 1 < w2.heap.size := by omega
            have za : w1.heap.size ≠ w1.heap.size + 1 := by omega
            have zb : w1.heap.size ≠ w.heap.size := by omega
            have zc : w1.heap.size ≠ w.heap.size + 1 := by omega
            have zd : w1.heap.size ≠ wr.heap.size := by omega
            have hB2 : Below w.heap.size w w2 := (by repeat (first | exact Below.refl _ _ | assumption | refine bstep ?_ (by assumption) | refine Below.drew ?_ | refine balloc ?_ _ | refine Below.setCell ?_ (by first | omega | (simp <;> omega)) _))
            have hle : w.heap.size ≤ w1.heap.size := by omega
            clear hc2 hf2 hb2
            have HT := Lib.hid (show ldAt l (f1, f2) k = true by rw [HF.out]; exact HV.out)
            by_cases e3 : f1 = g1
            · by_cases e4 : f2 = g2
              · subst e3 e4
                have HX := Lib.hid (show ldVal l (f1, f2) (t1, t2) k = inA (p1, p2) (f1, f2) (f1, n2) (t1, t2) by simp [ldVal, HN.out, HG.out, HP.out])
                go_wp2_with (go_at_call 81; refine Calls.mono (inAngle_c _ _ _ _ _ _ _ _ _ (by assumption) (by assumption) (by assumption) (by assumption)) ?_; rintro e w3 ⟨rfl, hb3⟩)
                go_ret
                exact ret_bv (by rw [HA.out, HS.out, if_pos HT.out, HX.out]) (by repeat (first | exact Below.refl _ _ | assumption | refine bstep ?_ (by assumption) | refine Below.drew ?_ | refine balloc ?_ _ | refine Below.setCell ?_ (by first | omega | (simp <;> omega)) _))
              · subst e3
                have HX := Lib.hid (show ldVal l (f1, f2) (t1, t2) k = inA (f1, g2) (f1, f2) (f1, n2) (t1, t2) by simp [ldVal, HN.out, HG.out, HP.out, e4])
                go_wp2_with (go_at_call 81; refine Calls.mono (inAngle_c _ _ _ _ _ _ _ _ _ (by assumption) (by assumption) (by assumption) (by assumption)) ?_; rintro e w3 ⟨rfl, hb3⟩)
                go_ret
                exact ret_bv (by rw [HA.out, HS.out, if_pos HT.out, HX.out]) (by repeat (first | exact Below.refl _ _ | assumption | refine bstep ?_ (by assumption) | refine Below.drew ?_ | refine balloc ?_ _ | refine Below.setCell ?_ (by first | omega | (simp <;> omega)) _))
            · have HX := Lib.hid (show ldVal l (f1, f2) (t1, t2) k = inA (g1, g2) (f1, f2) (f1, n2) (t1, t2) by simp [ldVal, HN.out, HG.out, HP.out, e3])
              go_wp2_with (go_at_call 81; refine Calls.mono (inAngle_c _ _ _ _ _ _ _ _ _ (by assumption) (by assumption) (by assumption) (by assumption)) ?_; rintro e w3 ⟨rfl, hb3⟩)
              go_ret
              exact ret_bv (by rw [HA.out, HS.out, if_pos HT.out, HX.out]) (by repeat (first | exact Below.refl _ _ | assumption | refine bstep ?_ (by assumption) | refine Below.drew ?_ | refine balloc ?_ _ | refine Below.setCell ?_ (by first | omega | (simp <;> omega)) _))
      · have HF := Lib.hid (show ldAt l (f1, f2) k = onP (f1, f2) (g1, g2) (n1, n2) by simp [ldAt, HN.out, HG.out, e1])
        cases hv : on f1 f2 g1 g2 n1 n2
        · have HV := Lib.hid (show onP (f1, f2) (g1, g2) (n1, n2) = false from hv)
          go_wp2_with fail
          refine Calls.mono (pon_c _ _ _ _ _ _ _ (by assumption) (by assumption) (by assumption)) ?_
          rintro e w2 ⟨rfl, hb2⟩
          obtain ⟨hc2, hf2⟩ := bcell hb2
          have hs2 := hb2.size
          (try simp at hs2)
          replace k0 : w2.cell? ⟨wr.heap.size, 0, none⟩ = some (.int .i64 g1) := (hc2 _ _ (by first | omega | (simp <;> omega))).trans (cell_al _ (cell_al _ k0))
          replace k1 : w2.cell? ⟨wr.heap.size, 1, none⟩ = some (.int .i64 g2) := (hc2 _ _ (by first | omega | (simp <;> omega))).trans (cell_al _ (cell_al _ k1))
          replace k2 : w2.cell? ⟨w.heap.size, 0, none⟩ = some (.int .i64 f1) := (hc2 _ _ (by first | omega | (simp <;> omega))).trans (cell_al _ (cell_al _ k2))
          replace k3 : w2.cell? ⟨w.heap.size, 1, none⟩ = some (.int .i64 f2) := (hc2 _ _ (by first | omega | (simp <;> omega))).trans (cell_al _ (cell_al _ k3))
          replace k4 : w2.cell? ⟨w.heap.size + 1, 0, none⟩ = some (.int .i64 t1) := (hc2 _ _ (by first | omega | (simp <;> omega))).trans (cell_al _ (cell_al _ k4))
          replace k5 : w2.cell? ⟨w.heap.size + 1, 1, none⟩ = some (.int .i64 t2) := (hc2 _ _ (by first | omega | (simp <;> omega))).trans (cell_al _ (cell_al _ k5))
          have k6 : w2.cell? ⟨w1.heap.size, 0, none⟩ = some (.int .i64 p1) := by rw [hc2 _ _ (by first | omega | (simp <;> omega))]; go_simp
          have k7 : w2.cell? ⟨w1.heap.size, 1, none⟩ = some (.int .i64 p2) := by rw [hc2 _ _ (by first | omega | (simp <;> omega))]; go_simp
          have k8 : w2.cell? ⟨w1.heap.size + 1, 0, none⟩ = some (.int .i64 n1) := by rw [hc2 _ _ (by first | omega | (simp <;> omega))]; go_simp
          have k9 : w2.cell? ⟨w1.heap.size + 1, 1, none⟩ = some (.int .i64 n2) := by rw [hc2 _ _ (by first | omega | (simp <;> omega))]; go_simp
          have kf : w2.frozen? ⟨w1.heap.size, 0, none⟩ = false := by rw [hf2 _ _ (by first | omega | (simp <;> omega))]; go_simp
          have kg : w2.frozen? ⟨w1.heap.size, 1, none⟩ = false := by rw [hf2 _ _ (by first | omega | (simp <;> omega))]; go_simp
          have zz : w1.heap.size + 1 < w2.heap.size := by omega
          have za : w1.heap.size ≠ w1.heap.size + 1 := by omega
          have zb : w1.heap.size ≠ w.heap.size := by omega
          have zc : w1.heap.size ≠ w.heap.size + 1 := by omega
          have zd : w1.heap.size ≠ wr.heap.size := by omega
          have hB2 : Below w.heap.size w w2 := (by repeat (first | exact Below.refl _ _ | assumption | refine bstep ?_ (by assumption) | refine Below.drew ?_ | refine balloc ?_ _ | refine Below.setCell ?_ (by first | omega | (simp <;> omega)) _))
          have hle : w.heap.size ≤ w1.heap.size := by omega
          clear hc2 hf2 hb2
          go_wp2
          go_roundw
          case rel => exact ⟨k + 1, by go_num, by omega, Lib.hid (by rw [HA.out, HS.out, if_neg (by rw [HF.out, HV.out]; simp)]), by go_simp, by go_simp, by go_simp, by go_simp, (by first | omega | (simp <;> omega)), (by repeat (first | exact Below.refl _ _ | assumption | refine bstep ?_ (by assumption) | refine Below.drew ?_ | refine balloc ?_ _ | refine Below.setCell ?_ (by first | omega | (simp <;> omega)) _))⟩
          case measure => simp [intOf]; omega
        · have HV := Lib.hid (show onP (f1, f2) (g1, g2) (n1, n2) = true from hv)
          go_wp2_with fail
          refine Calls.mono (pon_c _ _ _ _ _ _ _ (by assumption) (by assumption) (by assumption)) ?_
          rintro e w2 ⟨rfl, hb2⟩
          obtain ⟨hc2, hf2⟩ := bcell hb2
          have hs2 := hb2.size
          (try simp at hs2)
          replace k0 : w2.cell? ⟨wr.heap.size, 0, none⟩ = some (.int .i64 g1) := (hc2 _ _ (by first | omega | (simp <;> omega))).trans (cell_al _ (cell_al _ k0))
          replace k1 : w2.cell? ⟨wr.heap.size, 1, none⟩ = some (.int .i64 g2) := (hc2 _ _ (by first | omega | (simp <;> omega))).trans (cell_al _ (cell_al _ k1))
          replace k2 : w2.cell? ⟨w.heap.size, 0, none⟩ = some (.int .i64 f1) := (hc2 _ _ (by first | omega | (simp <;> omega))).trans (cell_al _ (cell_al _ k2))
          replace k3 : w2.cell? ⟨w.heap.size, 1, none⟩ = some (.int .i64 f2) := (hc2 _ _ (by first | omega | (simp <;> omega))).trans (cell_al _ (cell_al _ k3))
          replace k4 : w2.cell? ⟨w.heap.size + 1, 0, none⟩ = some (.int .i64 t1) := (hc2 _ _ (by first | omega | (simp <;> omega))).trans (cell_al _ (cell_al _ k4))
          replace k5 : w2.cell? ⟨w.heap.size + 1, 1, none⟩ = some (.int .i64 t2) := (hc2 _ _ (by first | omega | (simp <;> omega))).trans (cell_al _ (cell_al _ k5))
          have k6 : w2.cell? ⟨w1.heap.size, 0, none⟩ = some (.int .i64 p1) := by rw [hc2 _ _ (by first | omega | (simp <;> omega))]; go_simp
          have k7 : w2.cell? ⟨w1.heap.size, 1, none⟩ = some (.int .i64 p2) := by rw [hc2 _ _ (by first | omega | (simp <;> omega))]; go_simp
          have k8 : w2.cell? ⟨w1.heap.size + 1, 0, none⟩ = some (.int .i64 n1) := by rw [hc2 _ _ (by first | omega | (simp <;> omega))]; go_simp
          have k9 : w2.cell? ⟨w1.heap.size + 1, 1, none⟩ = some (.int .i64 n2) := by rw [hc2 _ _ (by first | omega | (simp <;> omega))]; go_simp
          have kf : w2.frozen? ⟨w1.heap.size, 0, none⟩ = false := by rw [hf2 _ _ (by first | omega | (simp <;> omega))]; go_simp
          have kg : w2.frozen? ⟨w1.heap.size, 1, none⟩ = false := by rw [hf2 _ _ (by first | omega | (simp <;> omega))]; go_simp
          have zz : w1.heap.size + 1 < w2.heap.size := by omega
          have za : w1.heap.size ≠ w1.heap.size + 1 := by omega
          have zb : w1.heap.size ≠ w.heap.size := by omega
          have zc : w1.heap.size ≠ w.heap.size + 1 := by omega
          have zd : w1.heap.size ≠ wr.heap.size := by omega
          have hB2 : Below w.heap.size w w2 := (by repeat (first | exact Below.refl _ _ | assumption | refine bstep ?_ (by assumption) | refine Below.drew ?_ | refine balloc ?_ _ | refine Below.setCell ?_ (by first | omega | (simp <;> omega)) _))
          have hle : w.heap.size ≤ w1.heap.size := by omega
          clear hc2 hf2 hb2
          have HT := Lib.hid (show ldAt l (f1, f2) k = true by rw [HF.out]; exact HV.out)
          by_cases e3 : f1 = g1
          · by_cases e4 : f2 = g2
            · subst e3 e4
              have HX := Lib.hid (show ldVal l (f1, f2) (t1, t2) k = inA (p1, p2) (f1, f2) (n1, n2) (t1, t2) by simp [ldVal, HN.out, HG.out, HP.out])
              go_wp2_with (go_at_call 81; refine Calls.mono (inAngle_c _ _ _ _ _ _ _ _ _ (by assumption) (by assumption) (by assumption) (by assumption)) ?_; rintro e w3 ⟨rfl, hb3⟩)
              go_ret
              exact ret_bv (by rw [HA.out, HS.out, if_pos HT.out, HX.out]) (by repeat (first | exact Below.refl _ _ | assumption | refine bstep ?_ (by assumption) | refine Below.drew ?_ | refine balloc ?_ _ | refine Below.setCell ?_ (by first | omega | (simp <;> omega)) _))
            · subst e3
              have HX := Lib.hid (show ldVal l (f1, f2) (t1, t2) k = inA (f1, g2) (f1, f2) (n1, n2) (t1, t2) by simp [ldVal, HN.out, HG.out, HP.out, e4])
              go_wp2_with (go_at_call 81; refine Calls.mono (inAngle_c _ _ _ _ _ _ _ _ _ (by assumption) (by assumption) (by assumption) (by assumption)) ?_; rintro e w3 ⟨rfl, hb3⟩)
              go_ret
              exact ret_bv (by rw [HA.out, HS.out, if_pos HT.out, HX.out]) (by repeat (first | exact Below.refl _ _ | assumption | refine bstep ?_ (by assumption) | refine Below.drew ?_ | refine balloc ?_ _ | refine Below.setCell ?_ (by first | omega | (simp <;> omega)) _))
          · have HX := Lib.hid (show ldVal l (f1, f2) (t1, t2) k = inA (g1, g2) (f1, f2) (n1, n2) (t1, t2) by simp [ldVal, HN.out, HG.out, HP.out, e3])
            go_wp2_with (go_at_call 81; refine Calls.mono (inAngle_c _ _ _ _ _ _ _ _ _ (by assumption) (by assumption) (by assumption) (by assumption)) ?_; rintro e w3 ⟨rfl, hb3⟩)
            go_ret
            exact ret_bv (by rw [HA.out, HS.out, if_pos HT.out, HX.out]) (by repeat (first | exact Below.refl _ _ | assumption | refine bstep ?_ (by assumption) | refine Below.drew ?_ | refine balloc ?_ _ | refine Below.setCell ?_ (by first | omega | (simp <;> omega)) _))
    · obtain rfl : k = l.length := by omega
      go_wp2
      go_ret
      exact ret_bv (by rw [HA.out]; simp [leadsF]) hbel


end Go.Proofs.Ytphcmdmfjhjidaa.Po

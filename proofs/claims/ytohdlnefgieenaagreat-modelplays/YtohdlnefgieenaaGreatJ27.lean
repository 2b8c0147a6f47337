/-
  What the reference's Of (layer 7) comes to.
-/
import Derived.Test.YtohdlnefgieenaaGreatJ7
import Derived.Test.YtohdlnefgieenaaGreatJ9
import Derived.Deep.QuietTactic
import Derived.BigQuiet
import Derived.StillTailTactics
import Derived.Test.YtohdlnefgieenaaGreatJ26
import Derived.Test.YtohdlnefgieenaaGreatJ13
namespace Go.Law
def FirstTo (l : List Sn) (i k : Nat) : Prop := ∀ (n : Nat) p q, n < k → l[n]? = some p → l[i]? = some q → beats n i p q = false
theorem FirstTo.snoc {l : List Sn} {i k : Nat} (hk : k < l.length) (hi : i < l.length) (h : FirstTo l i k) (hb : beats k i l[k] l[i] = false) : FirstTo l i (k + 1) := fun n p q hn hp hq => by
 rcases Nat.lt_or_ge n k with h1 | h1
 ·exact h n p q h1 hp hq
 ·obtain rfl : n = k := by omega
  rw [List.getElem?_eq_getElem hk] at hp
  rw [List.getElem?_eq_getElem hi] at hq
  rw [← Option.some.inj hp, ← Option.some.inj hq]
  exact hb
theorem FirstTo.picks {l : List Sn} {i : Nat} (h : FirstTo l i l.length) : Picks l i := fun k p q hp hq => h k p q (List.getElem?_eq_some_iff.1 hp).1 hp hq
theorem not_picks {l : List Sn} {i k : Nat} (hk : k < l.length) (hi : i < l.length) (hb : beats k i l[k] l[i] = true) : ¬ Picks l i := fun h => by
 have := h k _ _ (List.getElem?_eq_getElem hk) (List.getElem?_eq_getElem hi)
 rw [hb] at this
 cases this
end Go.Law
namespace Go.Proofs.YtohdlnefgieenaaGreat
open Go.RowKit
namespace Aggr
open Go.Law

set_option maxRecDepth 100000 in
set_option maxHeartbeats 4000000 in
theorem refOf (now : Int) (zs : List Sn) (A : Option Addr) (c : Nat) (w : World) (hs : Seq w 0 w.heap.size A (flatS zs)) (hl : zs.length ≤ 900) :
  Calls Tryz.prog 70 #[.slice A zs.length c, .int .u64 now] w fun e w' => e = .returned (PV (live now zs)) ∧ Below w.heap.size w w' := by
 have HS := Lib.hid hs
 clear hs
 have B0 := (Below.refl w.heap.size w).alloc (Nat.le_refl _) (.cells #[.int .i64 0, .int .i64 0, .int .i64 0] 57)
 have I0 := Is.new w 57 #[.int .i64 0, .int .i64 0, .int .i64 0] rfl
 have S0 := Lib.hid ((HS.out.alloc (Nat.le_refl _) (.cells #[.int .i64 0, .int .i64 0, .int .i64 0] 57)).more (Nat.le_of_lt I0.lt))
 have hll := live_length now zs
 have hlv : (live now zs).length ≤ 900 := by omega
 clear hll
 go_enter Tryz.func70, Tryz.ntmps70
 go_wp2_with fail
 generalize w.alloc (.cells #[.int .i64 0, .int .i64 0, .int .i64 0] 57) = w0 at *
 refine (Sess.refPurge now zs A c w0 S0.out hl).mono ?_
 rintro e w1 ⟨A1, c1, rfl, r1, b1⟩
 have S1 := Lib.hid ((Seq.own r1).from_ (Nat.zero_le _))
 have B1 := Lib.hid (B0.trans (b1.mono B0.size))
 have I1 := Lib.hid (I0.below b1 I0.lt)
 clear r1 b1 B0 I0 S0 HS
 obtain ⟨lv, hlvE⟩ : ∃ lv, live now zs = lv := ⟨_, rfl⟩
 rw [hlvE] at S1 hlv ⊢
 have HLV := Lib.hid hlvE
 clear hlvE
 go_wp2_with fail
 go_loopw [6] (fun i wr => ∃ j : Nat, j ≤ lv.length ∧ i = .int .i64 j ∧ (∀ i', i' < j → ¬ Picks lv i') ∧ Drawn w1 wr) (fun i _ => lv.length - (intOf i).toNat)
 case atStart => exact ⟨0, Nat.zero_le _, rfl, fun i' h => by omega, Drawn.refl _⟩
 case round =>
  obtain ⟨j, hj, rfl, hN, hD⟩ := hrel
  have HN := Lib.hid hN
  have HD := Lib.hid hD
  clear hN hD
  by_cases hlt : j < lv.length
  ·obtain ⟨b, off, rfl, _, hb, q0, q1, q2, q3⟩ := S1.out.ses hlt
   have HQ : Hid (Picks lv j → lv[j] = top lv) := fun h => picks_top (List.getElem?_eq_getElem hlt) h
   have HF : Hid (∀ k (hk : k < lv.length), FirstTo lv j k → beats k j lv[k] lv[j] = false → FirstTo lv j (k + 1)) := fun k hk h hb => h.snoc hk hlt hb
   have HX : Hid (∀ k (hk : k < lv.length), beats k j lv[k] lv[j] = true → ¬ Picks lv j) := fun k hk hb => not_picks hk hlt hb
   generalize lv[j] = q at *
   obtain ⟨x0, x1, x2, x3⟩ := q
   simp only at q0 q1 q2 q3
   go_wp2_with fail
   go_loopw [7, 8] (fun f k wr' => ∃ (n : Nat) (bf : Bool), n ≤ lv.length ∧ k = .int .i64 n ∧ f = .bool bf ∧ (bf = true → FirstTo lv j n) ∧ (bf = false → ¬ Picks lv j) ∧ Drawn w1 wr') (fun _ k _ => lv.length - (intOf k).toNat)
   case atStart => exact ⟨0, true, Nat.zero_le _, rfl, rfl, fun _ n p q h => by omega, (fun h => by cases h), HD.out⟩
   case round =>
    obtain ⟨n, bf, hn, rfl, rfl, hY, hNo, hD2⟩ := hrel
    have HY := Lib.hid hY
    have HNo := Lib.hid hNo
    have HD2 := Lib.hid hD2
    clear hY hNo hD2
    by_cases hlt2 : n < lv.length
    ·obtain ⟨b', off', e', _, hb', u0, u1, u2, u3⟩ := (HD2.out.seq S1.out).ses hlt2
     obtain ⟨rfl, rfl⟩ : b = b' ∧ off = off' := by simpa using e'
     have k0 := (HD2.out.cell _).trans q0
     have k2 := (HD2.out.cell _).trans q2
     have HF2 := Lib.hid (HF.out n hlt2)
     have HX2 := Lib.hid (HX.out n hlt2)
     clear e' hb'
     generalize lv[n] = y at *
     obtain ⟨p0, p1, p2, p3⟩ := y
     simp only at u0 u1 u2 u3
     clear u1 u3
     rcases (by omega : x2 < p2 ∨ p2 < x2 ∨ (p2 = x2 ∧ p0 < x0) ∨ (p2 = x2 ∧ x0 < p0) ∨ (p2 = x2 ∧ p0 = x0 ∧ n < j) ∨ (p2 = x2 ∧ p0 = x0 ∧ j ≤ n)) with h1 | h1 | h1 | h1 | h1 | h1
     ·have hbt : beats n j (p0, p1, p2, p3) (x0, x1, x2, x3) = true := by simp [beats]; omega
      have g1 : decide (x2 < p2) = true := by simpa using h1
      have HBT := Lib.hid hbt
      have H1 := Lib.hid h1
      clear hbt h1
      go_wp2_with fail
      go_quiet (fail)
      go_wp2_with fail
      go_roundw
      case rel => exact ⟨n + 1, false, by omega, by go_num, rfl, (fun h => by cases h), (fun _ => HX2.out HBT.out), HD2.out.drewN _⟩
      case measure => simp [intOf]; omega
     ·have hbt : beats n j (p0, p1, p2, p3) (x0, x1, x2, x3) = false := by simp [beats]; omega
      have g1 : decide (x2 < p2) = false := by simp; omega
      have g2 : (p2 == x2) = false := by simp; omega
      have HBT := Lib.hid hbt
      have H1 := Lib.hid h1
      clear hbt h1
      go_wp2_with fail
      go_quiet (fail)
      go_wp2_with fail
      go_roundw
      case rel => exact ⟨n + 1, bf, by omega, by go_num, rfl, (fun h => HF2.out (HY.out h) HBT.out), HNo.out, HD2.out.drewN _⟩
      case measure => simp [intOf]; omega
     ·have hbt : beats n j (p0, p1, p2, p3) (x0, x1, x2, x3) = true := by simp [beats]; omega
      have g1 : decide (x2 < p2) = false := by simp; omega
      have g2 : (p2 == x2) = true := by simpa using h1.1
      have g3 : decide (p0 < x0) = true := by simpa using h1.2
      have HBT := Lib.hid hbt
      have H1 := Lib.hid h1
      clear hbt h1
      go_wp2_with fail
      go_quiet (fail)
      go_wp2_with fail
      go_roundw
      case rel => exact ⟨n + 1, false, by omega, by go_num, rfl, (fun h => by cases h), (fun _ => HX2.out HBT.out), HD2.out.drewN _⟩
      case measure => simp [intOf]; omega
     ·have hbt : beats n j (p0, p1, p2, p3) (x0, x1, x2, x3) = false := by simp [beats]; omega
      have g1 : decide (x2 < p2) = false := by simp; omega
      have g2 : (p2 == x2) = true := by simpa using h1.1
      have g3 : decide (p0 < x0) = false := by simp; omega
      have g4 : (p0 == x0) = false := by simp; omega
      have HBT := Lib.hid hbt
      have H1 := Lib.hid h1
      clear hbt h1
      go_wp2_with fail
      go_quiet (fail)
      go_wp2_with fail
      go_roundw
      case rel => exact ⟨n + 1, bf, by omega, by go_num, rfl, (fun h => HF2.out (HY.out h) HBT.out), HNo.out, HD2.out.drewN _⟩
      case measure => simp [intOf]; omega
     ·have hbt : beats n j (p0, p1, p2, p3) (x0, x1, x2, x3) = true := by simp [beats]; omega
      have g1 : decide (x2 < p2) = false := by simp; omega
      have g2 : (p2 == x2) = true := by simpa using h1.1
      have g3 : decide (p0 < x0) = false := by simp; omega
      have g4 : (p0 == x0) = true := by simpa using h1.2.1
      have g5 : decide ((n : Int) < (j : Int)) = true := by simp; omega
      have g6 : decide (n < j) = true := by simp; omega
      have HBT := Lib.hid hbt
      have H1 := Lib.hid h1
      clear hbt h1
      go_wp2_with fail
      go_quiet (fail)
      go_wp2_with fail
      go_roundw
      case rel => exact ⟨n + 1, false, by omega, by go_num, rfl, (fun h => by cases h), (fun _ => HX2.out HBT.out), HD2.out.drewN _⟩
      case measure => simp [intOf]; omega
     ·have hbt : beats n j (p0, p1, p2, p3) (x0, x1, x2, x3) = false := by simp [beats]; omega
      have g1 : decide (x2 < p2) = false := by simp; omega
      have g2 : (p2 == x2) = true := by simpa using h1.1
      have g3 : decide (p0 < x0) = false := by simp; omega
      have g4 : (p0 == x0) = true := by simpa using h1.2.1
      have g5 : decide ((n : Int) < (j : Int)) = false := by simp; omega
      have g6 : decide (n < j) = false := by simp; omega
      have HBT := Lib.hid hbt
      have H1 := Lib.hid h1
      clear hbt h1
      go_wp2_with fail
      go_quiet (fail)
      go_wp2_with fail
      go_roundw
      case rel => exact ⟨n + 1, bf, by omega, by go_num, rfl, (fun h => HF2.out (HY.out h) HBT.out), HNo.out, HD2.out.drewN _⟩
      case measure => simp [intOf]; omega
    ·cases bf with
     | true =>
       have ht : (x0, x1, x2, x3) = top lv := HQ.out (FirstTo.picks (by have h := HY.out rfl; rwa [show n = lv.length by omega] at h))
       have HP : Hid (PV lv = .agg #[.int .i64 x1, .int .i64 x2, .int .i64 (lv.length : Int)]) := by show _ = _; unfold PV; rw [← ht]
       obtain ⟨d, hd⟩ := HD2.out
       have I2 : Is wr w.heap.size 57 #[.int .i64 0, .int .i64 0, .int .i64 0] := by rw [hd]; exact I1.out.drewN d
       have k1 := (HD2.out.cell _).trans q1
       have k2 := (HD2.out.cell _).trans q2
       have B2 := HD2.out.below B1.out
       have k1' : wr.drew.cell? ⟨b, off + j * 4 + 1, none⟩ = some (.int .i64 x1) := k1
       have hz := I2.lt
       clear ht hd HF HX HQ HN HD HY HNo HD2 S1 I1 B1 q0 q1 q2 q3
       go_wp2_with fail
       go_still_tail 13, (by kernel_rfl)
       change wpList _ _ _ _ _ wr.drew
       have I3 : Is wr.drew w.heap.size 57 #[.int .i64 0, .int .i64 0, .int .i64 0] := I2.drew
       have B3 : Below w.heap.size w wr.drew := B2.drew
       clear I2 B2 k1 k2 k1' hz
       generalize wr.drew = w2 at *
       have c40 : w2.cell? ⟨w.heap.size, 0, none⟩ = some (.int .i64 0) := I3.cell' rfl
       have c41 : w2.cell? ⟨w.heap.size, 1, none⟩ = some (.int .i64 0) := I3.cell' rfl
       have c42 : w2.cell? ⟨w.heap.size, 2, none⟩ = some (.int .i64 0) := I3.cell' rfl
       have f40 := I3.frozen 0
       have f41 := I3.frozen 1
       have f42 := I3.frozen 2
       have HI := Lib.hid I3
       have HB3 := Lib.hid B3
       clear I3 B3
       go_wp2_with fail
       have J : Is (((w2.setCell ⟨w.heap.size, 0, none⟩ (.int .i64 x1)).setCell ⟨w.heap.size, 1, none⟩ (.int .i64 x2)).setCell ⟨w.heap.size, 2, none⟩ (.int .i64 (lv.length : Int))) w.heap.size 57 #[.int .i64 x1, .int .i64 x2, .int .i64 (lv.length : Int)] := ((HI.out.set 0 _ rfl).set 1 _ rfl).set 2 _ rfl
       have hB' := ((HB3.out.setCell (p := ⟨w.heap.size, 0, none⟩) (Nat.le_refl _) (.int .i64 x1)).setCell (p := ⟨w.heap.size, 1, none⟩) (Nat.le_refl _) (.int .i64 x2)).setCell (p := ⟨w.heap.size, 2, none⟩) (Nat.le_refl _) (.int .i64 (lv.length : Int))
       clear c40 c41 c42 f40 f41 f42
       generalize ((w2.setCell ⟨w.heap.size, 0, none⟩ (.int .i64 x1)).setCell ⟨w.heap.size, 1, none⟩ (.int .i64 x2)).setCell ⟨w.heap.size, 2, none⟩ (.int .i64 (lv.length : Int)) = w3 at *
       have c0 : w3.cell? ⟨w.heap.size, 0, none⟩ = some (.int .i64 x1) := J.cell' rfl
       have c1' : w3.cell? ⟨w.heap.size, 1, none⟩ = some (.int .i64 x2) := J.cell' rfl
       have c2 : w3.cell? ⟨w.heap.size, 2, none⟩ = some (.int .i64 (lv.length : Int)) := J.cell' rfl
       exact bodyPost_ret (v := .agg #[.int .i64 x1, .int .i64 x2, .int .i64 (lv.length : Int)]) (by simp [results, Tryz.results70, go_sem, c0, c1', c2]) rfl ⟨by rw [HLV.out, HP.out], hB'⟩
     | false =>
       have hno := HNo.out rfl
       have HNP := Lib.hid hno
       clear hno
       go_wp2_with fail
       go_roundw
       case rel => exact ⟨j + 1, by omega, by go_num, (fun i' h => by rcases Nat.lt_or_ge i' j with h' | h'; exact HN.out i' h'; obtain rfl : i' = j := (by omega); exact HNP.out), HD2.out⟩
       case measure => simp [intOf]; omega
  ·have h0 : lv = [] := Classical.byContradiction fun h => by
    obtain ⟨i, hi, hp⟩ := some_picks h
    exact HN.out i (by omega) hp
   subst h0
   obtain ⟨d, hd⟩ := HD.out
   have I2 : Is wr w.heap.size 57 #[.int .i64 0, .int .i64 0, .int .i64 0] := by rw [hd]; exact I1.out.drewN d
   have B2 := HD.out.below B1.out
   have c40 : wr.cell? ⟨w.heap.size, 0, none⟩ = some (.int .i64 0) := I2.cell' rfl
   have c41 : wr.cell? ⟨w.heap.size, 1, none⟩ = some (.int .i64 0) := I2.cell' rfl
   have c42 : wr.cell? ⟨w.heap.size, 2, none⟩ = some (.int .i64 0) := I2.cell' rfl
   have f40 := I2.frozen 0
   have f41 := I2.frozen 1
   have f42 := I2.frozen 2
   have HI := Lib.hid I2
   have HB3 := Lib.hid B2
   clear I2 B2 hd HN HD S1 I1 B1
   go_wp2_with fail
   have J : Is (((wr.setCell ⟨w.heap.size, 0, none⟩ (.int .i64 0)).setCell ⟨w.heap.size, 1, none⟩ (.int .i64 0)).setCell ⟨w.heap.size, 2, none⟩ (.int .i64 0)) w.heap.size 57 #[.int .i64 0, .int .i64 0, .int .i64 0] := ((HI.out.set 0 _ rfl).set 1 _ rfl).set 2 _ rfl
   have hB' := ((HB3.out.setCell (p := ⟨w.heap.size, 0, none⟩) (Nat.le_refl _) (.int .i64 0)).setCell (p := ⟨w.heap.size, 1, none⟩) (Nat.le_refl _) (.int .i64 0)).setCell (p := ⟨w.heap.size, 2, none⟩) (Nat.le_refl _) (.int .i64 0)
   clear c40 c41 c42 f40 f41 f42
   generalize ((wr.setCell ⟨w.heap.size, 0, none⟩ (.int .i64 0)).setCell ⟨w.heap.size, 1, none⟩ (.int .i64 0)).setCell ⟨w.heap.size, 2, none⟩ (.int .i64 0) = w3 at *
   have c0 : w3.cell? ⟨w.heap.size, 0, none⟩ = some (.int .i64 0) := J.cell' rfl
   have c1' : w3.cell? ⟨w.heap.size, 1, none⟩ = some (.int .i64 0) := J.cell' rfl
   have c2 : w3.cell? ⟨w.heap.size, 2, none⟩ = some (.int .i64 0) := J.cell' rfl
   exact bodyPost_ret (v := .agg #[.int .i64 0, .int .i64 0, .int .i64 0]) (by simp [results, Tryz.results70, go_sem, c0, c1', c2]) rfl ⟨by rw [HLV.out]; rfl, hB'⟩
end Aggr
end Go.Proofs.YtohdlnefgieenaaGreat
namespace Go.Proofs.YtohdlnefgieenaaGreat
open Go.RowKit
namespace Bk
open Go.Law Go.Proofs.YtohdlnefgieenaaGreat.OmapB Door

theorem UsersAt.keeps {w w' : World} {A : Option Addr} {b : List (ByteArray × En)} (h : UsersAt w A b) (h1 : Keeps 107 w w') (h2 : Keeps 138 w w') : UsersAt w' A b := by
 obtain ⟨xs, a1, a2, a3⟩ := h
 exact ⟨xs, a1.keeps h1, fun q hq => (a2 q hq).keeps h2, a3⟩
theorem UsersAt.now {w w' : World} {A : Option Addr} {b : List (ByteArray × En)} (h : UsersAt w A b) (hb : Below w.heap.size w w') : UsersAt w' A b := h.keeps (Keeps.of_below hb) (Keeps.of_below hb)

set_option maxRecDepth 100000 in
set_option maxHeartbeats 4000000 in
theorem refFind (u : ByteArray) {w : World} {A : Option Addr} {c : Nat} {b : List (ByteArray × En)} {ss : List Sn} {t0 t1 t2 : Int} (hss : sesK u b = ss) (ht : toldK u b = (t0, t1, t2)) (h : UsersAt w A b) (hR : Rises lt b) (hl : b.length ≤ 900) :
  Calls Tryz.prog 62 #[.slice A b.length c, .string u] w fun e w' => ∃ A' c', e = .returned (.agg #[.string u, .slice A' ss.length c', .int .i64 t0, .int .i64 t1, .int .i64 t2]) ∧ Lain 138 w' A' (flatS ss) ∧ Below w.heap.size w w' := by
 obtain ⟨xs, h1, h2, h3⟩ := h
 have hxl : b.length = xs.length := by rw [← h3, mapV_length]
 have HX := Lib.hid h1
 have HIN := Lib.hid h2
 have HRX : Hid (Rises lt xs) := (mapV_rises lt (f := EnV.en)).1 (by rw [h3]; exact hR)
 have HGS : Hid (((getK u xs).getD EnV.zero).ss = ss) := by show _ = _; rw [get_ses, h3, hss]
 have HGT : Hid (((getK u xs).getD EnV.zero).told = (t0, t1, t2)) := by show _ = _; rw [get_told, h3, ht]
 have HB := Lib.hid (Below.refl w.heap.size w)
 rw [hxl] at hl ⊢
 clear h1 h2 h3 hss ht hR hxl
 go_enter Tryz.func62, Tryz.ntmps62
 go_wp2_with fail
 have hin0 : Hid (∀ q ∈ xs, q.2.In 138 (w.alloc (.cells #[.string ⟨#[]⟩, .slice none 0 0, .int .i64 0, .int .i64 0, .int .i64 0] 107))) := fun q hq => (HIN.out q hq).keeps (Keeps.alloc _)
 have bx := ((Below.refl w.heap.size w).alloc (Nat.le_refl _) (.cells #[.string ⟨#[]⟩, .slice none 0 0, .int .i64 0, .int .i64 0, .int .i64 0] 107))
 have HI0 := Lib.hid (Is.new w 107 #[.string ⟨#[]⟩, .slice none 0 0, .int .i64 0, .int .i64 0, .int .i64 0] rfl)
 replace HB := Lib.hid (HB.out.trans (bx.mono HB.out.size))
 replace HX := Lib.hid (HX.out.now bx)
 generalize (w.alloc (.cells #[.string ⟨#[]⟩, .slice none 0 0, .int .i64 0, .int .i64 0, .int .i64 0] 107)) = w0 at *
 clear bx
 have m0 : w0.cell? ⟨w.heap.size, 0, none⟩ = some (.string ⟨#[]⟩) := HI0.out.cell' rfl
 have m1 : w0.cell? ⟨w.heap.size, 1, none⟩ = some (.slice none 0 0) := HI0.out.cell' rfl
 have m2 : w0.cell? ⟨w.heap.size, 2, none⟩ = some (.int .i64 0) := HI0.out.cell' rfl
 have m3 : w0.cell? ⟨w.heap.size, 3, none⟩ = some (.int .i64 0) := HI0.out.cell' rfl
 have m4 : w0.cell? ⟨w.heap.size, 4, none⟩ = some (.int .i64 0) := HI0.out.cell' rfl
 have f0 := HI0.out.frozen 0
 have f1 := HI0.out.frozen 1
 have f2 := HI0.out.frozen 2
 have f3 := HI0.out.frozen 3
 have f4 := HI0.out.frozen 4
 have l0 := HI0.out.lt
 go_loop [5] (fun iv => ∃ j : Nat, j ≤ xs.length ∧ iv = .int .i64 j ∧ ∀ (i : Nat) (hi : i < xs.length), i < j → xs[i].1 ≠ u) (fun iv => xs.length - (intOf iv).toNat)
 case atStart => exact ⟨0, Nat.zero_le _, rfl, fun i _ h => by omega⟩
 case round =>
  obtain ⟨j, hj, rfl, hno⟩ := hrel
  have HNO := Lib.hid hno
  clear hno
  by_cases hlt : j < xs.length
  ·obtain ⟨b', off, rfl, _, lb, q0, q1, q2, q3, q4⟩ := HX.out.seq.us hlt
   by_cases he : xs[j].1 = u
   ·have hg : getK u xs = some xs[j].2 := getK_of lt tri HRX.out (by rw [← he]; exact List.getElem_mem hlt)
    have hgs := HGS.out
    have hgt := HGT.out
    rw [hg] at hgs hgt
    simp only [Option.getD_some] at hgs hgt
    have hin := hin0.out _ (List.getElem_mem hlt)
    rw [he] at q0
    generalize xs[j].2 = v at *
    obtain ⟨vA, vn, vc, vs, vp, vl, vss⟩ := v
    simp only [EnV.told, Prod.mk.injEq] at hgs hgt q1 q2 q3 q4
    obtain ⟨rfl, rfl, rfl⟩ := hgt
    subst hgs
    have hvn : vn = vss.length := hin.1
    subst hvn
    have HL0 : Hid (Lain 138 w0 vA (flatS vss)) := hin.2
    have HIZ := Lib.hid (((((HI0.out.set 0 (.string u) rfl).set 1 (.slice vA vss.length vc) rfl).set 2 (.int .i64 vs) rfl).set 3 (.int .i64 vp) rfl).set 4 (.int .i64 vl) rfl)
    have HLZ : Hid (Lain 138 (((((w0.setCell ⟨w.heap.size, 0, none⟩ (.string u)).setCell ⟨w.heap.size, 1, none⟩ (.slice vA vss.length vc)).setCell ⟨w.heap.size, 2, none⟩ (.int .i64 vs)).setCell ⟨w.heap.size, 3, none⟩ (.int .i64 vp)).setCell ⟨w.heap.size, 4, none⟩ (.int .i64 vl)) vA (flatS vss)) :=
     HL0.out.keeps (((((Keeps.store (i := 0) HI0.out (by decide) _).trans (Keeps.store (i := 1) (HI0.out.set 0 _ rfl) (by decide) _)).trans (Keeps.store (i := 2) ((HI0.out.set 0 _ rfl).set 1 _ rfl) (by decide) _)).trans (Keeps.store (i := 3) (((HI0.out.set 0 _ rfl).set 1 _ rfl).set 2 _ rfl) (by decide) _)).trans (Keeps.store (i := 4) ((((HI0.out.set 0 _ rfl).set 1 _ rfl).set 2 _ rfl).set 3 _ rfl) (by decide) _))
    have HBZ := Lib.hid (((((HB.out.setCell (p := ⟨w.heap.size, 0, none⟩) (Nat.le_refl _) (.string u)).setCell (p := ⟨w.heap.size, 1, none⟩) (Nat.le_refl _) (.slice vA vss.length vc)).setCell (p := ⟨w.heap.size, 2, none⟩) (Nat.le_refl _) (.int .i64 vs)).setCell (p := ⟨w.heap.size, 3, none⟩) (Nat.le_refl _) (.int .i64 vp)).setCell (p := ⟨w.heap.size, 4, none⟩) (Nat.le_refl _) (.int .i64 vl))
    clear hin hg he
    go_wp2_with fail
    generalize ((((w0.setCell ⟨w.heap.size, 0, none⟩ (.string u)).setCell ⟨w.heap.size, 1, none⟩ (.slice vA vss.length vc)).setCell ⟨w.heap.size, 2, none⟩ (.int .i64 vs)).setCell ⟨w.heap.size, 3, none⟩ (.int .i64 vp)).setCell ⟨w.heap.size, 4, none⟩ (.int .i64 vl) = wz at *
    have k0 := HIZ.out.cell' (i := 0) rfl
    have k1 := HIZ.out.cell' (i := 1) rfl
    have k2 := HIZ.out.cell' (i := 2) rfl
    have k3 := HIZ.out.cell' (i := 3) rfl
    have k4 := HIZ.out.cell' (i := 4) rfl
    exact bodyPost_ret (v := .agg #[.string u, .slice vA vss.length vc, .int .i64 vs, .int .i64 vp, .int .i64 vl]) (by simp [results, Tryz.results62, go_sem, k0, k1, k2, k3, k4]) rfl ⟨vA, ⟨vc, rfl⟩, HLZ.out, HBZ.out⟩
   ·have d1 : (xs[j].1.toList == u.toList) = false := by simpa using fun e => he (OmapB.ext e)
    have HHE : Hid (∀ (i : Nat) (hi : i < xs.length), i = j → xs[i].1 ≠ u) := fun i hi e => by subst e; exact he
    clear he q1 q2 q3 q4
    generalize xs[j].1 = nm at *
    go_wp2_with fail
    go_round
    case rel =>
     refine ⟨j + 1, by omega, by go_num, fun i hi hl => ?_⟩
     by_cases hlm : i < j
     ·exact HNO.out i hi hlm
     ·exact HHE.out i hi (by omega)
    case measure => simp [intOf]; omega
  ·have hg : getK u xs = none := getK_none fun p hp => by
    obtain ⟨i, hi, rfl⟩ := List.getElem_of_mem hp
    exact HNO.out i hi (by omega)
   have hgs := HGS.out
   have hgt := HGT.out
   rw [hg] at hgs hgt
   simp only [Option.getD_none, EnV.told, Prod.mk.injEq] at hgs hgt
   obtain ⟨rfl, rfl, rfl⟩ := hgt
   subst hgs
   clear hg
   have HIZ := Lib.hid (((((HI0.out.set 0 (.string u) rfl).set 1 (.slice none 0 0) rfl).set 2 (.int .i64 0) rfl).set 3 (.int .i64 0) rfl).set 4 (.int .i64 0) rfl)
   have HBZ := Lib.hid (((((HB.out.setCell (p := ⟨w.heap.size, 0, none⟩) (Nat.le_refl _) (.string u)).setCell (p := ⟨w.heap.size, 1, none⟩) (Nat.le_refl _) (.slice none 0 0)).setCell (p := ⟨w.heap.size, 2, none⟩) (Nat.le_refl _) (.int .i64 0)).setCell (p := ⟨w.heap.size, 3, none⟩) (Nat.le_refl _) (.int .i64 0)).setCell (p := ⟨w.heap.size, 4, none⟩) (Nat.le_refl _) (.int .i64 0))
   go_wp2_with fail
   generalize ((((w0.setCell ⟨w.heap.size, 0, none⟩ (.string u)).setCell ⟨w.heap.size, 1, none⟩ (.slice none 0 0)).setCell ⟨w.heap.size, 2, none⟩ (.int .i64 0)).setCell ⟨w.heap.size, 3, none⟩ (.int .i64 0)).setCell ⟨w.heap.size, 4, none⟩ (.int .i64 0) = wz at *
   have k0 := HIZ.out.cell' (i := 0) rfl
   have k1 := HIZ.out.cell' (i := 1) rfl
   have k2 := HIZ.out.cell' (i := 2) rfl
   have k3 := HIZ.out.cell' (i := 3) rfl
   have k4 := HIZ.out.cell' (i := 4) rfl
   exact bodyPost_ret (v := .agg #[.string u, .slice none 0 0, .int .i64 0, .int .i64 0, .int .i64 0]) (by simp [results, Tryz.results62, go_sem, k0, k1, k2, k3, k4]) rfl ⟨none, ⟨0, rfl⟩, Lain.nil, HBZ.out⟩

theorem refOfP {now : Int} {zs : List Sn} {s0 s1 s2 : Int} (hp : presS now zs = (s0, s1, s2)) {A : Option Addr} {c : Nat} {w : World} (hs : Seq w 0 w.heap.size A (flatS zs)) (hl : zs.length ≤ 900) :
  Calls Tryz.prog 70 #[.slice A zs.length c, .int .u64 now] w fun e w' => e = .returned (.agg #[.int .i64 s0, .int .i64 s1, .int .i64 s2]) ∧ Below w.heap.size w w' := by
 refine (Aggr.refOf now zs A c w hs hl).mono fun e w' ⟨h1, h2⟩ => ⟨?_, h2⟩
 rw [h1]
 unfold presS at hp
 injection hp with f0 f1
 injection f1 with f1 f2
 rw [Aggr.PV, f0, f1, f2]
end Bk
end Go.Proofs.YtohdlnefgieenaaGreat
namespace Go.Law
section
variable {κ ν : Type} (lt : κ → κ → Prop) [DecidableRel lt]
theorem putK_end (ht : Tri lt) {k : κ} {v : ν} : ∀ {xs : List (κ × ν)}, (∀ p ∈ xs, lt p.1 k) → putK lt k v xs = xs ++ [(k, v)]
 | [], _ => rfl
 | p :: r, h => by
   have hp := h p (by simp)
   rw [putK, if_neg (ht.asym hp), if_pos hp, putK_end ht fun q hq => h q (by simp [hq])]
   rfl
end
end Go.Law
namespace Go.Proofs.YtohdlnefgieenaaGreat
open Go.RowKit
namespace Bk
open Go.Law Go.Proofs.YtohdlnefgieenaaGreat.OmapB Door

@[go_sem] theorem run_fieldU1 (a b c d e : Value) (w : World) : Sem.run Tryz.prog (Instr.field 107 (.agg #[a, b, c, d, e]) 1) w = .ok b w := by kernel_rfl

set_option maxRecDepth 100000 in
set_option maxHeartbeats 4000000 in
theorem refPresence (u : ByteArray) (now : Int) {s0 s1 s2 : Int} {w : World} {A : Option Addr} {c : Nat} {b : List (ByteArray × En)} (hp : presS now (sesK u b) = (s0, s1, s2)) (h : UsersAt w A b) (hR : Rises lt b) (hl : (sesK u b).length ≤ 900) (hn : b.length ≤ 900) :
  Calls Tryz.prog 43 #[.slice A b.length c, .string u, .int .u64 now] w fun e w' => e = .returned (.agg #[.int .i64 s0, .int .i64 s1, .int .i64 s2]) ∧ Below w.heap.size w w' := by
 obtain ⟨t0, t1, t2, ht⟩ : ∃ t0 t1 t2, toldK u b = (t0, t1, t2) := ⟨_, _, _, rfl⟩
 have H := Lib.hid h
 have HR := Lib.hid hR
 have HT := Lib.hid ht
 have HP := Lib.hid hp
 have HB := Lib.hid (Below.refl w.heap.size w)
 clear h hR ht hp
 generalize hss : sesK u b = ss at *
 have HSS := Lib.hid hss
 clear hss
 go_enter Tryz.func43, Tryz.ntmps43
 go_wp2_with fail
 have bx := ((Below.refl w.heap.size w).alloc (Nat.le_refl _) (.cells #[.int .i64 0, .int .i64 0, .int .i64 0] 57))
 have HI1 := Lib.hid (Is.new w 57 #[.int .i64 0, .int .i64 0, .int .i64 0] rfl)
 replace HB := Lib.hid (HB.out.trans (bx.mono HB.out.size))
 replace H := Lib.hid (H.out.now bx)
 generalize (w.alloc (.cells #[.int .i64 0, .int .i64 0, .int .i64 0] 57)) = w0 at *
 clear bx
 refine (refFind u HSS.out HT.out H.out HR.out hn).mono ?_
 rintro e w1 ⟨A1, c1, rfl, sq, b1⟩
 have HS := Lib.hid sq
 replace HI1 := Lib.hid (HI1.out.below b1 HI1.out.lt)
 replace HB := Lib.hid (HB.out.trans (b1.mono HB.out.size))
 clear b1 sq H
 go_wp2_with fail
 refine (refOfP HP.out HS.out.seq hl).mono ?_
 rintro e w3 ⟨rfl, b1⟩
 replace HI1 := Lib.hid (HI1.out.below b1 HI1.out.lt)
 replace HB := Lib.hid (HB.out.trans (b1.mono HB.out.size))
 have l1 := HI1.out.lt
 have f0 := HI1.out.frozen 0
 have f1 := HI1.out.frozen 1
 have f2 := HI1.out.frozen 2
 have m0 := HI1.out.cell' (i := 0) rfl
 have m1 := HI1.out.cell' (i := 1) rfl
 have m2 := HI1.out.cell' (i := 2) rfl
 have HI3 := Lib.hid (((HI1.out.set 0 (.int .i64 s0) rfl).set 1 (.int .i64 s1) rfl).set 2 (.int .i64 s2) rfl)
 have HB3 := Lib.hid (((HB.out.setCell (p := ⟨w.heap.size, 0, none⟩) (Nat.le_refl _) (.int .i64 s0)).setCell (p := ⟨w.heap.size, 1, none⟩) (Nat.le_refl _) (.int .i64 s1)).setCell (p := ⟨w.heap.size, 2, none⟩) (Nat.le_refl _) (.int .i64 s2))
 clear b1 HS
 go_wp2_with fail
 generalize ((w3.setCell ⟨w.heap.size, 0, none⟩ (.int .i64 s0)).setCell ⟨w.heap.size, 1, none⟩ (.int .i64 s1)).setCell ⟨w.heap.size, 2, none⟩ (.int .i64 s2) = w4 at *
 have n0 := HI3.out.cell' (i := 0) rfl
 have n1 := HI3.out.cell' (i := 1) rfl
 have n2 := HI3.out.cell' (i := 2) rfl
 exact bodyPost_ret (v := .agg #[.int .i64 s0, .int .i64 s1, .int .i64 s2]) (by simp [results, Tryz.results43, go_sem, n0, n1, n2]) rfl ⟨rfl, HB3.out⟩

end Bk
end Go.Proofs.YtohdlnefgieenaaGreat

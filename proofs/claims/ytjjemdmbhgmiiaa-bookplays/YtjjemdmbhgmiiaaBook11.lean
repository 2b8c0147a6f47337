/-
  What the reference's Same of layer 6 comes to at any two lists; the reference's (layer 8) Find, Presence.
-/
import Derived.Test.YtjjemdmbhgmiiaaBook05
import Derived.Test.YtjjemdmbhgmiiaaBook06
import Derived.Test.YtjjemdmbhgmiiaaAggr05
namespace Go.Proofs.Ytjjemdmbhgmiiaa
open Go.RowKit
namespace Bk
open Go.Law Go.Proofs.Ytjjemdmbhgmiiaa.OmapB Door

set_option maxRecDepth 100000 in
set_option maxHeartbeats 4000000 in
theorem refSame6 (zs us : List Sn) (A B : Option Addr) (c d : Nat) (w : World) (hs : Seq w 0 w.heap.size A (flatS zs)) (ht : Seq w 0 w.heap.size B (flatS us)) (hl : zs.length ≤ 1000) (hm : us.length ≤ 1000) (r : Bool) (hr : decide (zs = us) = r) :
    Calls Try.prog 38 #[.slice A zs.length c, .slice B us.length d] w fun e w' => e = .returned (.bool r) ∧ Below w.heap.size w w' := by
  have HS := Lib.hid hs
  have HT := Lib.hid ht
  have HR := Lib.hid hr
  clear hs ht hr
  by_cases hlen : zs.length = us.length
  · have d0 : ((zs.length : Int) != (us.length : Int)) = false := by simp; omega
    go_enter Try.func38, Try.ntmps38
    go_wp2_with fail
    go_loopw [5] (fun i wr => ∃ j : Nat, j ≤ zs.length ∧ i = .int .i64 j ∧ zs.take j = us.take j ∧ Drawn w wr) (fun i _ => zs.length - (intOf i).toNat)
    case atStart => exact ⟨0, Nat.zero_le _, rfl, by simp, Drawn.refl _⟩
    case round =>
      obtain ⟨j, hj, rfl, hta, hD⟩ := hrel
      have HD := Lib.hid hD
      have HTA := Lib.hid hta
      clear hta
      by_cases hlt : j < zs.length
      · have hlu : j < us.length := by omega
        obtain ⟨b, off, rfl, _, hb, q0, q1, q2, q3⟩ := (hD.seq HS.out).ses hlt
        obtain ⟨b', off', rfl, _, hb', p0, p1, p2, p3⟩ := (hD.seq HT.out).ses hlu
        have HTZ := Lib.hid (List.take_succ_eq_append_getElem hlt)
        have HTU := Lib.hid (List.take_succ_eq_append_getElem hlu)
        have HNE : Hid (zs[j] ≠ us[j] → r = false) := fun hne => by
          rw [← HR.out]
          simp only [decide_eq_false_iff_not]
          intro e
          subst e
          exact hne rfl
        clear hD
        generalize zs[j] = q at *
        generalize us[j] = p at *
        obtain ⟨x0, x1, x2, x3⟩ := q
        obtain ⟨y0, y1, y2, y3⟩ := p
        simp only at q0 q1 q2 q3 p0 p1 p2 p3
        by_cases h0 : x0 = y0
        · by_cases h1 : x1 = y1
          · by_cases h2 : x2 = y2
            · by_cases h3 : x3 = y3
              · have e0 : (x0 == y0) = true := by simpa using h0
                have e1 : (x1 == y1) = true := by simpa using h1
                have e2 : (x2 == y2) = true := by simpa using h2
                have e3 : (x3 == y3) = true := by simpa using h3
                have HEQ : Hid (zs.take (j + 1) = us.take (j + 1)) := by show _ = _; rw [HTZ.out, HTU.out, HTA.out, h0, h1, h2, h3]
                clear h0 h1 h2 h3
                go_wp2_with fail
                go_quiet (fail)
                go_wp2_with fail
                go_roundw
                case rel => exact ⟨j + 1, by omega, by go_num, HEQ.out, HD.out.drewN _⟩
                case measure => simp [intOf]; omega
              · have e0 : (x0 == y0) = true := by simpa using h0
                have e1 : (x1 == y1) = true := by simpa using h1
                have e2 : (x2 == y2) = true := by simpa using h2
                have e3 : (x3 == y3) = false := by simpa using h3
                have HF := Lib.hid (HNE.out (by intro e; simp only [Prod.mk.injEq] at e; exact h3 e.2.2.2))
                clear h0 h1 h2 h3
                go_wp2_with fail
                go_quiet (fail)
                go_wp2_with fail
                go_ret
                exact ⟨by rw [HF.out]; rfl, below_drewN (HD.out.below (Below.refl _ _)) _⟩
            · have e0 : (x0 == y0) = true := by simpa using h0
              have e1 : (x1 == y1) = true := by simpa using h1
              have e2 : (x2 == y2) = false := by simpa using h2
              have HF := Lib.hid (HNE.out (by intro e; simp only [Prod.mk.injEq] at e; exact h2 e.2.2.1))
              clear h0 h1 h2
              go_wp2_with fail
              go_quiet (fail)
              go_wp2_with fail
              go_ret
              exact ⟨by rw [HF.out]; rfl, below_drewN (HD.out.below (Below.refl _ _)) _⟩
          · have e0 : (x0 == y0) = true := by simpa using h0
            have e1 : (x1 == y1) = false := by simpa using h1
            have HF := Lib.hid (HNE.out (by intro e; simp only [Prod.mk.injEq] at e; exact h1 e.2.1))
            clear h0 h1
            go_wp2_with fail
            go_quiet (fail)
            go_wp2_with fail
            go_ret
            exact ⟨by rw [HF.out]; rfl, below_drewN (HD.out.below (Below.refl _ _)) _⟩
        · have e0 : (x0 == y0) = false := by simpa using h0
          have HF := Lib.hid (HNE.out (by intro e; simp only [Prod.mk.injEq] at e; exact h0 e.1))
          clear h0
          go_wp2_with fail
          go_quiet (fail)
          go_wp2_with fail
          go_ret
          exact ⟨by rw [HF.out]; rfl, below_drewN (HD.out.below (Below.refl _ _)) _⟩
      · have HT2 : Hid (r = true) := by
          show _ = _
          rw [← HR.out]
          have h1 := HTA.out
          rw [List.take_of_length_le (by omega), List.take_of_length_le (by omega)] at h1
          simpa using h1
        clear hD
        go_wp2_with fail
        go_ret
        exact ⟨by rw [HT2.out]; rfl, HD.out.below (Below.refl _ _)⟩
  · have d0 : ((zs.length : Int) != (us.length : Int)) = true := by simp; omega
    have d1 : ((zs.length : Int) == (us.length : Int)) = false := by simp; omega
    have HF : Hid (r = false) := by show _ = _; rw [← HR.out]; simp; intro e; exact hlen (by rw [e])
    go_enter Try.func38, Try.ntmps38
    go_wp2_with fail
    go_ret
    exact ⟨by rw [HF.out]; rfl, Below.refl _ _⟩

theorem UsersAt.keeps {w w' : World} {A : Option Addr} {b : List (ByteArray × En)} (h : UsersAt w A b) (h1 : Keeps 55 w w') (h2 : Keeps 63 w w') : UsersAt w' A b := by
  obtain ⟨xs, a1, a2, a3⟩ := h
  exact ⟨xs, a1.keeps h1, fun q hq => (a2 q hq).keeps h2, a3⟩
theorem UsersAt.now {w w' : World} {A : Option Addr} {b : List (ByteArray × En)} (h : UsersAt w A b) (hb : Below w.heap.size w w') : UsersAt w' A b := h.keeps (Keeps.of_below hb) (Keeps.of_below hb)

set_option maxRecDepth 100000 in
set_option maxHeartbeats 4000000 in
theorem refFind (u : ByteArray) {w : World} {A : Option Addr} {c : Nat} {b : List (ByteArray × En)} {ss : List Sn} {t0 t1 t2 : Int} (hss : sesK u b = ss) (ht : toldK u b = (t0, t1, t2)) (h : UsersAt w A b) (hR : Rises lt b) (hl : b.length ≤ 900) :
    Calls Try.prog 32 #[.slice A b.length c, .string u] w fun e w' => ∃ A' c', e = .returned (.agg #[.string u, .slice A' ss.length c', .int .i64 t0, .int .i64 t1, .int .i64 t2]) ∧ Lain 63 w' A' (flatS ss) ∧ Below w.heap.size w w' := by
  obtain ⟨xs, h1, h2, h3⟩ := h
  have hxl : b.length = xs.length := by rw [← h3, mapV_length]
  have HX := Lib.hid h1
  have HIN := Lib.hid h2
  have HRX : Hid (Rises lt xs) := (mapV_rises lt (f := EnV.en)).1 (by rw [h3]; exact hR)
  have HGS : Hid (((getK u xs).getD EnV.zero).ss = ss) := by show _ = _; rw [get_ses, h3, hss]
  have HGT : Hid (((getK u xs).getD EnV.zero).told = (t0, t1, t2)) := by show _ = _; rw [get_told, h3, ht]
  have HB := Lib.hid (Below.refl w.heap.size w)
  rw [hxl] at hl ⊢
  clear h1 h2 h3 hss ht hR hxl
  go_enter Try.func32, Try.ntmps32
  go_wp2_with fail
  have hin0 : Hid (∀ q ∈ xs, q.2.In 63 (w.alloc (.cells #[.string ⟨#[]⟩, .slice none 0 0, .int .i64 0, .int .i64 0, .int .i64 0] 55))) := fun q hq => (HIN.out q hq).keeps (Keeps.alloc _)
  have bx := ((Below.refl w.heap.size w).alloc (Nat.le_refl _) (.cells #[.string ⟨#[]⟩, .slice none 0 0, .int .i64 0, .int .i64 0, .int .i64 0] 55))
  have HI0 := Lib.hid (Is.new w 55 #[.string ⟨#[]⟩, .slice none 0 0, .int .i64 0, .int .i64 0, .int .i64 0] rfl)
  replace HB := Lib.hid (HB.out.trans (bx.mono HB.out.size))
  replace HX := Lib.hid (HX.out.now bx)
  generalize (w.alloc (.cells #[.string ⟨#[]⟩, .slice none 0 0, .int .i64 0, .int .i64 0, .int .i64 0] 55)) = w0 at *
  clear bx
  have m0 : w0.cell? ⟨w.heap.size, 0, none⟩ = some (.string ⟨#[]⟩) := HI0.out.cell' rfl
  have m1 : w0.cell? ⟨w.heap.size, 1, none⟩ = some (.slice none 0 0) := HI0.out.cell' rfl
  have m2 : w0.cell? ⟨w.heap.size, 2, none⟩ = some (.int .i64 0) := HI0.out.cell' rfl
  have m3 : w0.cell? ⟨w.heap.size, 3, none⟩ = some (.int .i64 0) := HI0.out.cell' rfl
  have m4 : w0.cell? ⟨w.heap.size, 4, none⟩ = some (.int .i64 0) := HI0.out.cell' rfl
  have f0 := HI0.out.frozen 0
  have f1 := HI0.out.frozen 1
  have f2 := HI0.out.frozen 2
  have f3 := HI0.out.frozen 3
  have f4 := HI0.out.frozen 4
  have l0 := HI0.out.lt
  go_loop [5] (fun iv => ∃ j : Nat, j ≤ xs.length ∧ iv = .int .i64 j ∧ ∀ (i : Nat) (hi : i < xs.length), i < j → xs[i].1 ≠ u) (fun iv => xs.length - (intOf iv).toNat)
  case atStart => exact ⟨0, Nat.zero_le _, rfl, fun i _ h => by omega⟩
  case round =>
    obtain ⟨j, hj, rfl, hno⟩ := hrel
    have HNO := Lib.hid hno
    clear hno
    by_cases hlt : j < xs.length
    · obtain ⟨b', off, rfl, _, lb, q0, q1, q2, q3, q4⟩ := HX.out.seq.us hlt
      by_cases he : xs[j].1 = u
      · have hg : getK u xs = some xs[j].2 := getK_of lt tri HRX.out (by rw [← he]; exact List.getElem_mem hlt)
        have hgs := HGS.out
        have hgt := HGT.out
        rw [hg] at hgs hgt
        simp only [Option.getD_some] at hgs hgt
        have hin := hin0.out _ (List.getElem_mem hlt)
        rw [he] at q0
        generalize xs[j].2 = v at *
        obtain ⟨vA, vn, vc, vs, vp, vl, vss⟩ := v
        simp only [EnV.told, Prod.mk.injEq] at hgs hgt q1 q2 q3 q4
        obtain ⟨rfl, rfl, rfl⟩ := hgt
        subst hgs
        have hvn : vn = vss.length := hin.1
        subst hvn
        have HL0 : Hid (Lain 63 w0 vA (flatS vss)) := hin.2
        have HIZ := Lib.hid (((((HI0.out.set 0 (.string u) rfl).set 1 (.slice vA vss.length vc) rfl).set 2 (.int .i64 vs) rfl).set 3 (.int .i64 vp) rfl).set 4 (.int .i64 vl) rfl)
        have HLZ : Hid (Lain 63 (((((w0.setCell ⟨w.heap.size, 0, none⟩ (.string u)).setCell ⟨w.heap.size, 1, none⟩ (.slice vA vss.length vc)).setCell ⟨w.heap.size, 2, none⟩ (.int .i64 vs)).setCell ⟨w.heap.size, 3, none⟩ (.int .i64 vp)).setCell ⟨w.heap.size, 4, none⟩ (.int .i64 vl)) vA (flatS vss)) :=
          HL0.out.keeps (((((Keeps.store (i := 0) HI0.out (by decide) _).trans (Keeps.store (i := 1) (HI0.out.set 0 _ rfl) (by decide) _)).trans (Keeps.store (i := 2) ((HI0.out.set 0 _ rfl).set 1 _ rfl) (by decide) _)).trans (Keeps.store (i := 3) (((HI0.out.set 0 _ rfl).set 1 _ rfl).set 2 _ rfl) (by decide) _)).trans (Keeps.store (i := 4) ((((HI0.out.set 0 _ rfl).set 1 _ rfl).set 2 _ rfl).set 3 _ rfl) (by decide) _))
        have HBZ := Lib.hid (((((HB.out.setCell (p := ⟨w.heap.size, 0, none⟩) (Nat.le_refl _) (.string u)).setCell (p := ⟨w.heap.size, 1, none⟩) (Nat.le_refl _) (.slice vA vss.length vc)).setCell (p := ⟨w.heap.size, 2, none⟩) (Nat.le_refl _) (.int .i64 vs)).setCell (p := ⟨w.heap.size, 3, none⟩) (Nat.le_refl _) (.int .i64 vp)).setCell (p := ⟨w.heap.size, 4, none⟩) (Nat.le_refl _) (.int .i64 vl))
        clear hin hg he
        go_wp2_with fail
        generalize ((((w0.setCell ⟨w.heap.size, 0, none⟩ (.string u)).setCell ⟨w.heap.size, 1, none⟩ (.slice vA vss.length vc)).setCell ⟨w.heap.size, 2, none⟩ (.int .i64 vs)).setCell ⟨w.heap.size, 3, none⟩ (.int .i64 vp)).setCell ⟨w.heap.size, 4, none⟩ (.int .i64 vl) = wz at *
        have k0 := HIZ.out.cell' (i := 0) rfl
        have k1 := HIZ.out.cell' (i := 1) rfl
        have k2 := HIZ.out.cell' (i := 2) rfl
        have k3 := HIZ.out.cell' (i := 3) rfl
        have k4 := HIZ.out.cell' (i := 4) rfl
        exact bodyPost_ret (v := .agg #[.string u, .slice vA vss.length vc, .int .i64 vs, .int .i64 vp, .int .i64 vl]) (by simp [results, Try.results32, go_sem, k0, k1, k2, k3, k4]) rfl ⟨vA, ⟨vc, rfl⟩, HLZ.out, HBZ.out⟩
      · have d1 : (xs[j].1.toList == u.toList) = false := by simpa using fun e => he (OmapB.ext e)
        have HHE : Hid (∀ (i : Nat) (hi : i < xs.length), i = j → xs[i].1 ≠ u) := fun i hi e => by subst e; exact he
        clear he q1 q2 q3 q4
        generalize xs[j].1 = nm at *
        go_wp2_with fail
        go_round
        case rel =>
          refine ⟨j + 1, by omega, by go_num, fun i hi hl => ?_⟩
          by_cases hlm : i < j
          · exact HNO.out i hi hlm
          · exact HHE.out i hi (by omega)
        case measure => simp [intOf]; omega
    · have hg : getK u xs = none := getK_none fun p hp => by
        obtain ⟨i, hi, rfl⟩ := List.getElem_of_mem hp
        exact HNO.out i hi (by omega)
      have hgs := HGS.out
      have hgt := HGT.out
      rw [hg] at hgs hgt
      simp only [Option.getD_none, EnV.told, Prod.mk.injEq] at hgs hgt
      obtain ⟨rfl, rfl, rfl⟩ := hgt
      subst hgs
      clear hg
      have HIZ := Lib.hid (((((HI0.out.set 0 (.string u) rfl).set 1 (.slice none 0 0) rfl).set 2 (.int .i64 0) rfl).set 3 (.int .i64 0) rfl).set 4 (.int .i64 0) rfl)
      have HBZ := Lib.hid (((((HB.out.setCell (p := ⟨w.heap.size, 0, none⟩) (Nat.le_refl _) (.string u)).setCell (p := ⟨w.heap.size, 1, none⟩) (Nat.le_refl _) (.slice none 0 0)).setCell (p := ⟨w.heap.size, 2, none⟩) (Nat.le_refl _) (.int .i64 0)).setCell (p := ⟨w.heap.size, 3, none⟩) (Nat.le_refl _) (.int .i64 0)).setCell (p := ⟨w.heap.size, 4, none⟩) (Nat.le_refl _) (.int .i64 0))
      go_wp2_with fail
      generalize ((((w0.setCell ⟨w.heap.size, 0, none⟩ (.string u)).setCell ⟨w.heap.size, 1, none⟩ (.slice none 0 0)).setCell ⟨w.heap.size, 2, none⟩ (.int .i64 0)).setCell ⟨w.heap.size, 3, none⟩ (.int .i64 0)).setCell ⟨w.heap.size, 4, none⟩ (.int .i64 0) = wz at *
      have k0 := HIZ.out.cell' (i := 0) rfl
      have k1 := HIZ.out.cell' (i := 1) rfl
      have k2 := HIZ.out.cell' (i := 2) rfl
      have k3 := HIZ.out.cell' (i := 3) rfl
      have k4 := HIZ.out.cell' (i := 4) rfl
      exact bodyPost_ret (v := .agg #[.string u, .slice none 0 0, .int .i64 0, .int .i64 0, .int .i64 0]) (by simp [results, Try.results32, go_sem, k0, k1, k2, k3, k4]) rfl ⟨none, ⟨0, rfl⟩, Lain.nil, HBZ.out⟩

theorem refOfP {now : Int} {zs : List Sn} {s0 s1 s2 : Int} (hp : presS now zs = (s0, s1, s2)) {A : Option Addr} {c : Nat} {w : World} (hs : Seq w 0 w.heap.size A (flatS zs)) (hl : zs.length ≤ 900) :
    Calls Try.prog 42 #[.slice A zs.length c, .int .u64 now] w fun e w' => e = .returned (.agg #[.int .i64 s0, .int .i64 s1, .int .i64 s2]) ∧ Below w.heap.size w w' := by
  refine (Aggr.refOf now zs A c w hs hl).mono fun e w' ⟨h1, h2⟩ => ⟨?_, h2⟩
  rw [h1]
  unfold presS at hp
  injection hp with f0 f1
  injection f1 with f1 f2
  rw [Aggr.PV, f0, f1, f2]
end Bk
end Go.Proofs.Ytjjemdmbhgmiiaa

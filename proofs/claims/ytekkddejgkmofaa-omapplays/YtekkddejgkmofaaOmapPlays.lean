/-
  OmapPlays: whatever the acts and the key, the statement's function returns true, and the arguments read as before. No condition.
-/
import Derived.Test.YtekkddejgkmofaaOmap05
namespace Go.Law
open Go.RowKit
theorem Prs.far {w : World} {B : Nat} {A : Option Addr} {l : List (ByteArray × Int)} (h : Prs w B A l) {g : Nat} {t : TypeId} {q : Option Addr} (hg : Is w g t #[.pointer q]) (u : Value) : Prs (w.setCell ⟨g, 0, none⟩ u) B A l := fun hn => by
  obtain ⟨b, off, e, hlt, hc⟩ := h hn
  have hne : b ≠ g := by
    intro e'
    subst e'
    cases l with
    | nil => exact hn rfl
    | cons y r =>
      have h1 := (hc 0 y rfl).1
      rw [hg.cell] at h1
      simp at h1
      rcases Nat.eq_zero_or_pos off with h0 | h0
      · subst h0; simp at h1
      · rw [List.getElem?_eq_none (by simp; omega)] at h1; cases h1
  refine ⟨b, off, e, hlt, fun i y hy => ?_⟩
  obtain ⟨h0, h1⟩ := hc i y hy
  exact ⟨(World.cell?_setCell_other w _ _ _ (fun e => by have := congrArg Addr.block e; simp at this; omega)).trans h0, (World.cell?_setCell_other w _ _ _ (fun e => by have := congrArg Addr.block e; simp at this; omega)).trans h1⟩
theorem getK_snoc {κ ν : Type} {lt : κ → κ → Prop} [DecidableEq κ] (ht : Tri lt) {k : κ} {xs : List (κ × ν)} {q : κ × ν} (hr : Rises lt (xs ++ [q])) : getK k (xs ++ [q]) = if q.1 = k then some q.2 else getK k xs := by
  obtain ⟨a, b⟩ := q
  by_cases h : a = k
  · subst h
    rw [if_pos rfl]
    exact getK_same lt ht hr
  · rw [if_neg h]
    induction xs with
    | nil => simp [getK, h]
    | cons p r ih => rw [List.cons_append, getK, getK, ih hr.tail]
end Go.Law
namespace Go.Proofs.Ytekkddejgkmofaa.omapPlays
open Go.ChangeShapes Go.WideShapes Go.ChangeAt Go.RowKit
open Omap

set_option maxRecDepth 100000 in
set_option maxHeartbeats 400000 in
/-- what comes when there is more than is looked at -/
theorem more (l : List (Bool × ByteArray × Int)) (A : Option Addr) (c : Nat) (key : ByteArray) (w : World) (hs : Law.Acts w w.heap.size A l) (hl : l.length ≤ maxLen) (hz : ∀ q ∈ l, q.2.1.size ≤ maxLen) (hk : ¬ key.size ≤ 200) :
    Calls Try.prog 3 #[.slice A l.length c, .string key] w fun e w' => e = .returned (.bool true) ∧ Below w.heap.size w w' := by
  have HS := Lib.hid hs
  have HL := Lib.hid hl
  have HZ := Lib.hid hz
  have d1 : decide ((200 : Int) < (key.size : Int)) = true := by simp; omega
  clear hs hl hz hk
  go_enter Try.func3, Try.ntmps3
  go_wp2_with fail
  refine (awake _).mono ?_
  rintro e w1 ⟨rfl, b1⟩
  have HB := Lib.hid b1
  clear b1
  go_wp2_with fail
  refine (long l A c _ ((HS.out.below HB.out).wide HB.out.size) HL.out HZ.out).mono ?_
  rintro e w' ⟨b, rfl, hb, rfl⟩
  clear hb
  cases b <;>
  · go_wp2_with fail
    refine (awake _).mono ?_
    rintro e w2 ⟨rfl, b2⟩
    have B2 := Lib.hid (HB.out.trans (b2.mono HB.out.size))
    clear b2
    go_wp2_with fail
    go_ret
    exact ⟨rfl, B2.out⟩

/-- behind an act: the new variable and the new list hold zs, the old ones xs -/
def Then (w : World) (bm bn : Nat) (xs : List (ByteArray × Int)) (A : Option Addr) (k : Nat) (v9 : Value) (wx : World) : Prop :=
  ∃ zs A' c', v9 = .slice A' zs.length c' ∧ zs.length ≤ k + 1 ∧ Var wx bn zs ∧ Law.Prs wx wx.heap.size A' zs ∧ Var wx bm xs ∧ Law.Prs wx wx.heap.size A xs ∧ Below w.heap.size w wx
theorem size_set (w : World) (p : Addr) (u : Value) : (w.setCell p u).heap.size = w.heap.size := by simp
theorem Then.of {w v2 : World} {bm bn : Nat} {xs zs : List (ByteArray × Int)} {A A' : Option Addr} {k c' : Nat} {p p1 q : Option Addr} (hz : zs.length ≤ k + 1) (t1 : OmapS.At v2 v2.heap.size p1 zs) (hr : Law.Rises OmapS.lt zs) (s2 : Law.Prs v2 v2.heap.size A' zs) (i_n : Law.Is v2 bn 27 #[.pointer q])
    (im : Law.Is v2 bm 27 #[.pointer p]) (tm : OmapS.At v2 v2.heap.size p xs) (hrx : Law.Rises OmapS.lt xs) (sx : Law.Prs v2 v2.heap.size A xs) (hmn : bm ≠ bn) (hw : w.heap.size ≤ bn) (hb : Below w.heap.size w v2) :
    Then w bm bn xs A k (.slice A' zs.length c') (v2.setCell ⟨bn, 0, none⟩ (.pointer p1)) :=
  ⟨zs, A', c', rfl, hz, Var.of i_n t1 hr, by rw [size_set]; exact s2.far i_n _, Var.far ⟨p, im, tm, hrx⟩ i_n (by decide) hmn _, by rw [size_set]; exact sx.far i_n _, hb.setCell (p := ⟨bn, 0, none⟩) hw _⟩

set_option maxRecDepth 100000 in
set_option maxHeartbeats 8000000 in
theorem walk (l : List (Bool × ByteArray × Int)) (A : Option Addr) (c : Nat) (key : ByteArray) (w : World) (hs : Law.Acts w w.heap.size A l) (hl : l.length ≤ maxLen) (hz : ∀ q ∈ l, q.2.1.size ≤ maxLen) (hk : key.size ≤ 200) :
    Calls Try.prog 3 #[.slice A l.length c, .string key] w fun e w' => e = .returned (.bool true) ∧ Below w.heap.size w w' := by
  have HS := Lib.hid hs
  have HL := Lib.hid hl
  have HZ := Lib.hid hz
  have d1 : decide ((200 : Int) < (key.size : Int)) = false := by simp; omega
  clear hs hl hz hk
  go_enter Try.func3, Try.ntmps3
  go_wp2_with fail
  refine (awake _).mono ?_
  rintro e w1 ⟨rfl, b1⟩
  have HB := Lib.hid b1
  clear b1
  go_wp2_with fail
  refine (long l A c _ ((HS.out.below HB.out).wide HB.out.size) HL.out HZ.out).mono ?_
  rintro e w' ⟨b, rfl, hb, rfl⟩
  cases b with
  | true =>
    go_wp2_with fail
    refine (awake _).mono ?_
    rintro e w2 ⟨rfl, b2⟩
    have B2 := Lib.hid (HB.out.trans (b2.mono HB.out.size))
    clear b2
    go_wp2_with fail
    go_ret
    exact ⟨rfl, B2.out⟩
  | false =>
    have hl := hb rfl
    clear hb
    have sw := HB.out.size
    have V0 : Hid (Var (w1.alloc (.cells #[.pointer none] 27)) w1.heap.size [] ∧ Below w.heap.size w (w1.alloc (.cells #[.pointer none] 27))) := ⟨Var.new w1 rfl, HB.out.alloc sw _⟩
    go_wp2_with fail
    generalize w1.alloc (.cells #[.pointer none] 27) = w2 at *
    go_loopw [6, 7] (fun wv i wr => ∃ (k : Nat) (xs : List (ByteArray × Int)) (X : Option Addr) (cx : Nat), k ≤ l.length ∧ i = .int .i64 k ∧ wv = .slice X xs.length cx ∧ xs.length ≤ k ∧ Var wr w1.heap.size xs ∧ Law.Prs wr wr.heap.size X xs ∧ Below w.heap.size w wr) (fun _ i _ => l.length - (intOf i).toNat)
    case atStart => exact ⟨0, [], none, 0, Nat.zero_le _, rfl, rfl, Nat.le_refl _, V0.out.1, Law.Prs.nil, V0.out.2⟩
    case round =>
      obtain ⟨k, xs, X, cx, hk, rfl, rfl, hx, hV, hP, hB⟩ := hrel
      clear V0
      by_cases hlt : k < l.length
      · have lV := hV.lt
        obtain ⟨p, hi, ht, hr⟩ := hV
        have K0 : Below wr.heap.size wr (wr.alloc (.cells #[.pointer none] 27)) := (Below.refl _ wr).alloc (Nat.le_refl _) _
        have HV := Lib.hid (hi.alloc (.cells #[.pointer none] 27))
        have HT := Lib.hid ((ht.under K0).wide K0.size)
        have HR := Lib.hid hr
        have HP := Lib.hid ((hP.below K0).wide K0.size)
        have HN : Hid (Law.Is (wr.alloc (.cells #[.pointer none] 27)) wr.heap.size 27 #[.pointer none]) := Law.Is.new _ _ _ rfl
        have HB' := Lib.hid (hB.trans (K0.mono hB.size))
        have sb := hB.size
        have hmn : w1.heap.size ≠ wr.heap.size := Nat.ne_of_lt lV
        clear hi ht hr hP hB K0
        obtain ⟨b, off, rfl, hb, q0, q1, q2⟩ := (HS.out.below HB'.out).at hlt
        generalize l[k].2.1 = ky at *
        generalize l[k].2.2 = vl at *
        generalize l[k].1 = out at *
        go_upto_if 37 with (fail)
        generalize wr.alloc (.cells #[.pointer none] 27) = w3 at *
        generalize wr.heap.size = bn at *
        have cm : w3.cell? ⟨w1.heap.size, 0, none⟩ = some (.pointer p) := HV.out.cell' rfl
        have lm := HV.out.lt
        have hbn : w.heap.size ≤ bn := sb
        have hbb : b ≠ bn := by omega
        have lb : b < w3.heap.size := Nat.lt_of_lt_of_le hb HB'.out.size
        go_cut [9] (fun v9 wx => Then w w1.heap.size bn xs X k v9 wx)
        case first =>
          cases out with
          | true =>
            go_wp2_with fail
            go_region_held3 (fun w' => w'.cell? ⟨w1.heap.size, 0, none⟩ = some (.pointer p) ∧ w'.cell? ⟨b, off + k * 3 + 1, none⟩ = some (.string ky)) (first | (go_simp; done) | (exact ⟨by assumption, by assumption⟩) | (exact ⟨by assumption, by assumption, by assumption⟩)) (first
              | (go_at_call 10; refine (OmapS.withoutM ky (HT.out.drewN 1) (Nat.le_refl _) HR.out (by omega)).mono ?_; rintro e v1 ⟨p1, rfl, t1, b0⟩; have b1 := (Law.below_drewN (Below.refl w3.heap.size w3) 1).trans b0; have T1 := Lib.hid t1; have B1 := Lib.hid b1; have cm1 : v1.cell? ⟨w1.heap.size, 0, none⟩ = some (.pointer p) := (b1.cell (p := ⟨w1.heap.size, 0, none⟩) lm).trans cm; have q11 : v1.cell? ⟨b, off + k * 3 + 1, none⟩ = some (.string ky) := (b1.cell (p := ⟨b, off + k * 3 + 1, none⟩) lb).trans q1; have P1 := Lib.hid (((HP.out.below b1)).wide b1.size); clear t1 b1 b0)
              | (go_at_call 11; refine (refWithout ky xs X cx v1 P1.out (by omega)).mono ?_; rintro e v2 ⟨A2, c2, rfl, s2, b2⟩; have KK : Below w3.heap.size w3 v2 := (B1.out.trans (b2.mono B1.out.size)); have S2 := Lib.hid s2; have cm2 : v2.cell? ⟨w1.heap.size, 0, none⟩ = some (.pointer p) := (KK.cell (p := ⟨w1.heap.size, 0, none⟩) lm).trans cm; have q12 : v2.cell? ⟨b, off + k * 3 + 1, none⟩ = some (.string ky) := (KK.cell (p := ⟨b, off + k * 3 + 1, none⟩) lb).trans q1; have IN := HN.out.below KK HN.out.lt; have cn2 : v2.cell? ⟨bn, 0, none⟩ = some (.pointer none) := IN.cell' rfl; have fn2 := IN.frozen 0; have ln2 := IN.lt; have HF := Lib.hid (Then.of (k := k) (c' := c2) (Nat.le_trans (Law.outK_length ky xs) (by omega)) ((T1.out.under b2).wide b2.size) (Law.outK_rises OmapS.lt HR.out) s2 IN (HV.out.below KK lm) ((HT.out.under KK).wide KK.size) HR.out ((HP.out.below KK).wide KK.size) hmn hbn (HB'.out.trans (KK.mono HB'.out.size))); clear s2 b2 KK IN))
            go_wp2_with fail
            go_meet
            exact HF.out
          | false =>
            go_wp2_with fail
            go_region_held3 (fun w' => w'.cell? ⟨w1.heap.size, 0, none⟩ = some (.pointer p) ∧ w'.cell? ⟨b, off + k * 3 + 1, none⟩ = some (.string ky) ∧ w'.cell? ⟨b, off + k * 3 + 2, none⟩ = some (.int .i64 vl)) (first | (go_simp; done) | (exact ⟨by assumption, by assumption⟩) | (exact ⟨by assumption, by assumption, by assumption⟩)) (first
              | (go_at_call 12; refine (OmapS.withM ky vl (HT.out.drewN 1) (Nat.le_refl _) HR.out (by omega)).mono ?_; rintro e v1 ⟨p1, rfl, t1, b0⟩; have b1 := (Law.below_drewN (Below.refl w3.heap.size w3) 1).trans b0; have T1 := Lib.hid t1; have B1 := Lib.hid b1; have cm1 : v1.cell? ⟨w1.heap.size, 0, none⟩ = some (.pointer p) := (b1.cell (p := ⟨w1.heap.size, 0, none⟩) lm).trans cm; have q11 : v1.cell? ⟨b, off + k * 3 + 1, none⟩ = some (.string ky) := (b1.cell (p := ⟨b, off + k * 3 + 1, none⟩) lb).trans q1; have q21 : v1.cell? ⟨b, off + k * 3 + 2, none⟩ = some (.int .i64 vl) := (b1.cell (p := ⟨b, off + k * 3 + 2, none⟩) lb).trans q2; have P1 := Lib.hid (((HP.out.below b1)).wide b1.size); clear t1 b1 b0)
              | (go_at_call 13; refine (refWith ky vl xs X cx v1 P1.out HR.out (by omega)).mono ?_; rintro e v2 ⟨A2, c2, rfl, s2, b2⟩; have KK : Below w3.heap.size w3 v2 := (B1.out.trans (b2.mono B1.out.size)); have S2 := Lib.hid s2; have cm2 : v2.cell? ⟨w1.heap.size, 0, none⟩ = some (.pointer p) := (KK.cell (p := ⟨w1.heap.size, 0, none⟩) lm).trans cm; have q12 : v2.cell? ⟨b, off + k * 3 + 1, none⟩ = some (.string ky) := (KK.cell (p := ⟨b, off + k * 3 + 1, none⟩) lb).trans q1; have q22 : v2.cell? ⟨b, off + k * 3 + 2, none⟩ = some (.int .i64 vl) := (KK.cell (p := ⟨b, off + k * 3 + 2, none⟩) lb).trans q2; have IN := HN.out.below KK HN.out.lt; have cn2 : v2.cell? ⟨bn, 0, none⟩ = some (.pointer none) := IN.cell' rfl; have fn2 := IN.frozen 0; have ln2 := IN.lt; have HF := Lib.hid (Then.of (k := k) (c' := c2) (Nat.le_trans (Law.putK_length OmapS.lt ky vl xs).1 (by omega)) ((T1.out.under b2).wide b2.size) (Law.putK_rises OmapS.lt OmapS.tri HR.out) s2 IN (HV.out.below KK lm) ((HT.out.under KK).wide KK.size) HR.out ((HP.out.below KK).wide KK.size) hmn hbn (HB'.out.trans (KK.mono HB'.out.size))); clear s2 b2 KK IN))
            go_wp2_with fail
            go_meet
            exact HF.out
        case rest =>
          obtain ⟨zs, Z, cz, rfl, hzl, hVn, hPz, hVm, hPx, hBx⟩ := hcut
          have hz9 : zs.length ≤ 900 := by omega
          have hx9 : xs.length ≤ 900 := by omega
          have lm' := hVm.lt
          have ln' := hVn.lt
          obtain ⟨pm, im, tm, _⟩ := hVm
          obtain ⟨pn, i_n, tn, rn⟩ := hVn
          have c1 : wc.cell? ⟨w1.heap.size, 0, none⟩ = some (.pointer pm) := im.cell' rfl
          have c2 : wc.cell? ⟨bn, 0, none⟩ = some (.pointer pn) := i_n.cell' rfl
          have TM := Lib.hid tm
          have TN := Lib.hid tn
          have IM := Lib.hid im
          have IN := Lib.hid i_n
          have RN := Lib.hid rn
          have PZ := Lib.hid hPz
          have PX := Lib.hid hPx
          have HBX := Lib.hid hBx
          clear tm tn im i_n rn hPz hPx hBx HT HV HR HP HN HB' cm lm q0 q1 q2
          go_wp2_with fail
          refine (is_ xs pm X cx wc TM.out PX.out hx9).mono ?_
          rintro e w4 ⟨rfl, b4⟩
          have c24 : w4.cell? ⟨bn, 0, none⟩ = some (.pointer pn) := (b4.cell (p := ⟨bn, 0, none⟩) ln').trans c2
          have B4 := Lib.hid b4
          clear b4 c2
          go_wp2_with fail
          refine (is_ zs pn Z cz w4 ((TN.out.under B4.out).wide B4.out.size) ((PZ.out.below B4.out).wide B4.out.size) hz9).mono ?_
          rintro e w5 ⟨rfl, b5⟩
          have K5 : Below wc.heap.size wc w5 := B4.out.trans (b5.mono B4.out.size)
          have i5 := IM.out.below K5 lm'
          have c15 : w5.cell? ⟨w1.heap.size, 0, none⟩ = some (.pointer pm) := i5.cell' rfl
          have f15 := i5.frozen 0
          have l15 := i5.lt
          have c25 : w5.cell? ⟨bn, 0, none⟩ = some (.pointer pn) := (b5.cell (p := ⟨bn, 0, none⟩) (Nat.lt_of_lt_of_le ln' B4.out.size)).trans c24
          have H5 : Hid (Var (w5.setCell ⟨w1.heap.size, 0, none⟩ (.pointer pn)) w1.heap.size zs ∧ Law.Prs (w5.setCell ⟨w1.heap.size, 0, none⟩ (.pointer pn)) (w5.setCell ⟨w1.heap.size, 0, none⟩ (.pointer pn)).heap.size Z zs ∧ Below w.heap.size w (w5.setCell ⟨w1.heap.size, 0, none⟩ (.pointer pn))) :=
            ⟨Var.of i5 ((TN.out.under K5).wide K5.size) RN.out, by rw [size_set]; exact ((PZ.out.below K5).wide K5.size).far i5 _, (HBX.out.trans (K5.mono HBX.out.size)).setCell (p := ⟨w1.heap.size, 0, none⟩) sw _⟩
          clear i5 K5 b5 B4 TM TN IM IN PZ PX HBX c1 c24
          go_upto_region 16 with (fail)
          generalize w5.setCell ⟨w1.heap.size, 0, none⟩ (.pointer pn) = w6 at *
          obtain ⟨⟨p6, i6, t6, _⟩, hP6, hB6⟩ := H5.out
          have c6 : w6.cell? ⟨w1.heap.size, 0, none⟩ = some (.pointer p6) := i6.cell' rfl
          have T6 := Lib.hid t6
          clear i6 t6 c15 f15 l15 c25
          go_wp2_with fail
          refine (OmapS.get key T6.out (Nat.le_refl _) RN.out).mono ?_
          rintro e w7 ⟨rfl, b7⟩
          have H7 : Hid (Var w7 w1.heap.size zs ∧ Law.Prs w7 w7.heap.size Z zs ∧ Below w.heap.size w w7) := ⟨H5.out.1.below b7, (H5.out.2.1.below b7).wide b7.size, H5.out.2.2.trans (b7.mono H5.out.2.2.size)⟩
          clear b7 hP6 hB6 H5 T6 c6
          go_wp2_with fail
          go_loop [12, 13, 14] (fun a h n => ∃ q : Nat, q ≤ zs.length ∧ n = .int .i64 q ∧ a = .int .i64 ((Law.getK key (zs.take q)).getD 0) ∧ h = .bool (Law.getK key (zs.take q)).isSome) (fun _ _ n => zs.length - (intOf n).toNat)
          case atStart => exact ⟨0, Nat.zero_le _, rfl, rfl, rfl⟩
          case round =>
            obtain ⟨q, hq, rfl, rfl, rfl⟩ := hrel
            by_cases hqz : q < zs.length
            · obtain ⟨bz, oz, rfl, _, z0, z1⟩ := H7.out.2.1.at hqz
              have HT := Lib.hid (List.take_succ_eq_append_getElem hqz)
              have HG : Hid (Law.getK key (zs.take (q + 1)) = if zs[q].1 = key then some zs[q].2 else Law.getK key (zs.take q)) := by
                show _ = _
                rw [HT.out]
                exact Law.getK_snoc OmapS.tri (by rw [← HT.out]; exact RN.out.prefix (List.take_prefix _ _))
              clear HT
              generalize Law.getK key (zs.take q) = gq at *
              generalize hzq : zs[q] = y at *
              obtain ⟨ky', vl'⟩ := y
              simp only at z0 z1 HG
              by_cases hk' : ky' = key
              · subst hk'
                go_wp2_with fail
                go_round
                case rel => exact ⟨q + 1, by omega, by go_num, by rw [HG.out]; simp, by rw [HG.out]; simp⟩
                case measure => simp [intOf]; omega
              · have d3 : (ky'.toList == key.toList) = false := by simpa using fun e => hk' (OmapS.ext e)
                go_wp2_with fail
                go_round
                case rel => exact ⟨q + 1, by omega, by go_num, by rw [HG.out, if_neg hk'], by rw [HG.out, if_neg hk']⟩
                case measure => simp [intOf]; omega
            · have e9 : zs.take q = zs := List.take_of_length_le (by omega)
              rw [e9]
              generalize Law.getK key zs = gq at *
              go_wp2_with fail
              go_roundw
              case rel => exact ⟨k + 1, zs, Z, cz, by omega, by go_num, rfl, hzl, H7.out⟩
              case measure => simp [intOf]; omega
      · have HB' := Lib.hid hB
        go_wp2_with fail
        go_ret
        exact ⟨rfl, HB'.out⟩

theorem walk0 (l : List (Bool × ByteArray × Int)) (A : Option Addr) (c : Nat) (key : ByteArray) (w : World) (hs : Law.Acts w w.heap.size A l) (hl : l.length ≤ maxLen) (hz : ∀ q ∈ l, q.2.1.size ≤ maxLen) :
    Calls Try.prog 3 #[.slice A l.length c, .string key] w fun e w' => e = .returned (.bool true) ∧ Below w.heap.size w w' := by
  by_cases h : key.size ≤ 200
  · exact walk l A c key w hs hl hz h
  · exact more l A c key w hs hl hz h

set_option maxRecDepth 100000 in
theorem lifted (os : Os) (started : os.Started) (H : Type) (enc : TypeId × Value → H) :
    ReturnsInHanded {} Try.checked os 3 .any (Rows.omapPlaysSpec.pre6 enc Try.prog Try.f3 Rows.omapPlaysRow.domain false) (Rows.omapPlaysSpec.post enc Try.prog Try.f3 false true false false) := by
  refine returnsInHanded_of_change (C := Try.checked) own started (by kernel_rfl) Try.func3
    (ChangeSpec.witness6 (enc := enc) (C := Try.checked) false ⟨#[], #[.slice none 0 0, .string ⟨#[]⟩], []⟩ 8 (by kernel_rfl) (by kernel_rfl) (by kernel_rfl) (by kernel_rfl)) ?_
  intro W base args ds gs before hval0 hW hcnd _
  have hval : ∀ (j : Nat) t v, Try.f3.params[j]? = some t → args[j]? = some v → Value.okWide Try.prog W .any base t v := hval0
  have hW' := hW
  obtain ⟨p, q, hA0, hV, rfl, hfz, hnd⟩ := hW
  have hA : DataW.TrodAll enc Try.prog W 0 (fun _ => true) true Try.f3.params.toList args.toList ds p := hA0
  rw [Try.params3] at hA hval
  obtain ⟨v0, vs0, d0, ds0, p0, q0, hargs, rfl, rfl, h0, r0⟩ := trodAll_cons hA
  obtain ⟨v1, vs1, d1, ds1, p1, q1, rfl, rfl, rfl, h1, r1⟩ := trodAll_cons r0
  obtain ⟨rfl, rfl, rfl⟩ := trodAll_nil r1
  obtain rfl : args = #[v0, v1] := by cases args; simp_all
  obtain ⟨A, c, l, rfl, hs, hl, hz⟩ := Law.open_acts Try.underlying22 Try.underlying30 (by kernel_rfl) rfl rfl rfl (by kernel_rfl) (by kernel_rfl) (by kernel_rfl) (by kernel_rfl) (by kernel_rfl) (by kernel_rfl) (hval 0 22 v0 rfl rfl) h0
  obtain ⟨a1, rfl, rfl, rfl, w1⟩ := Go.ChangeMaps.open_string Try.underlying9 (hval 1 9 v1 rfl rfl) h1
  refine (walk0 l A c a1 W hs hl hz).mono fun e W' ⟨he, bel⟩ => ?_
  subst he
  exact ⟨_, rfl, Law.post_law laidOut (by kernel_rfl) (by kernel_rfl) Try.underlying4 rfl (fun ds h => by match ds, h with | [_, _], _ => rfl) hW' bel⟩

theorem proved : Rows.OmapPlaysSaid :=
  OpenClaim.holds_of_wide 3 Try.f3 rfl rfl rfl rfl rfl rfl rfl ⟨rfl, rfl, rfl, rfl, rfl⟩ rfl rfl rfl rfl rfl (by kernel_rfl) Try.func3 (by kernel_rfl)
    (of_decide_eq_true (by kernel_rfl)) (by unfold Func.isWrapper; rw [if_neg (by decide +kernel)]; exact ⟨rfl, rfl⟩)
    (fun os started H enc _ => lifted os started H enc)
#print axioms proved
end Go.Proofs.Ytekkddejgkmofaa.omapPlays

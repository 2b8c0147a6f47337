/-
  OmapNumbers: whatever the numbers, the statement's function returns true, and the argument reads as before. No condition.
-/
import Derived.Test.YtekkddejgkmofaaOmapNP
namespace Go.Proofs.Ytekkddejgkmofaa.omapNumbers
open Go.ChangeShapes Go.WideShapes Go.ChangeAt Go.RowKit
open Omap

/-- block b is a variable that holds a map of these pairs -/
def VarN (w : World) (b : Nat) (xs : List (Int × Int)) : Prop := ∃ p, Law.Is w b 50 #[.pointer p] ∧ OmapN.At w w.heap.size p xs
theorem VarN.below {w w' : World} {b : Nat} {xs : List (Int × Int)} (h : VarN w b xs) (hb : Below w.heap.size w w') : VarN w' b xs := by
  obtain ⟨p, hi, ht⟩ := h
  exact ⟨p, hi.below hb hi.lt, (ht.under hb).wide hb.size⟩
theorem VarN.new (w : World) {b : Nat} (hb : b = w.heap.size) : VarN (w.alloc (.cells #[.pointer none] 50)) b [] := ⟨none, Law.Is.new _ _ _ hb, .nil⟩
theorem VarN.of {w : World} {b : Nat} {p0 p : Option Addr} {zs : List (Int × Int)} (h : Law.Is w b 50 #[.pointer p0]) (ht : OmapN.At w w.heap.size p zs) : VarN (w.setCell ⟨b, 0, none⟩ (.pointer p)) b zs :=
  ⟨p, h.set 0 _ rfl, by have := ht.far (i := 0) h (by decide) (.pointer p); rwa [show w.heap.size = (w.setCell ⟨b, 0, none⟩ (.pointer p)).heap.size by simp] at this⟩
theorem VarN.far {w : World} {b : Nat} {xs : List (Int × Int)} (h : VarN w b xs) {g i : Nat} {t : TypeId} {cs : Array Value} (hg : Law.Is w g t cs) (h1 : 77 ≠ t) (h2 : b ≠ g) (u : Value) : VarN (w.setCell ⟨g, i, none⟩ u) b xs := by
  obtain ⟨p, hi, ht⟩ := h
  exact ⟨p, hi.far (p := ⟨g, i, none⟩) h2 u, by have := ht.far (i := i) hg h1 u; rwa [show w.heap.size = (w.setCell ⟨g, i, none⟩ u).heap.size by simp] at this⟩
theorem VarN.lt {w : World} {b : Nat} {xs : List (Int × Int)} (h : VarN w b xs) : b < w.heap.size := by
  obtain ⟨p, hi, _⟩ := h
  exact hi.lt
theorem VarN.drewN {w : World} {b : Nat} {xs : List (Int × Int)} (h : VarN w b xs) (n : Nat) : VarN (w.drewN n) b xs := h.below (Law.below_drewN (Below.refl _ w) n)
theorem getD_at {zs : List Int} {k : Nat} (h : k < zs.length) : zs[k]?.getD 0 = zs[k] := by rw [List.getElem?_eq_getElem h]; rfl
theorem mL_next (zs : List Int) {k : Nat} (h : k < zs.length) : mL zs (k + 1) = Law.putK OmapN.lt zs[k] (k : Int) (mL zs k) := by rw [mL, getD_at h]
theorem tL_next (zs : List Int) {k j : Nat} (hj : zs.length - 1 - k = j) (h : j < zs.length) : tL zs (k + 1) = Law.putK OmapN.lt zs[j] (j : Int) (tL zs k) := by rw [tL, hj, getD_at h]

/-- between two rounds of the second loop -/
def Two (w : World) (bm bt : Nat) (zs : List Int) (k : Nat) (W : World) : Prop := VarN W bm (mL zs k) ∧ VarN W bt (tL zs k) ∧ Below w.heap.size w W
theorem Two.drewN {w : World} {bm bt : Nat} {zs : List Int} {k : Nat} {W : World} (h : Two w bm bt zs k W) (n : Nat) : Two w bm bt zs k (W.drewN n) := ⟨h.1.drewN n, h.2.1.drewN n, Law.below_drewN h.2.2 n⟩
theorem Two.below {w : World} {bm bt : Nat} {zs : List Int} {k : Nat} {W W' : World} (h : Two w bm bt zs k W) (hb : Below W.heap.size W W') : Two w bm bt zs k W' := ⟨h.1.below hb, h.2.1.below hb, h.2.2.trans (hb.mono h.2.2.size)⟩

/-- two variables hold these maps -/
def Held (w : World) (bm bt : Nat) (ms ts : List (Int × Int)) (W : World) : Prop := VarN W bm ms ∧ VarN W bt ts ∧ Below w.heap.size w W
theorem Held.below {w : World} {bm bt : Nat} {ms ts : List (Int × Int)} {W W' : World} (h : Held w bm bt ms ts W) (hb : Below W.heap.size W W') : Held w bm bt ms ts W' := ⟨h.1.below hb, h.2.1.below hb, h.2.2.trans (hb.mono h.2.2.size)⟩
theorem lastI_succ (zs : List Int) (x : Int) {q : Nat} (h : q < zs.length) : lastI zs x (q + 1) = if zs[q] = x then (q : Int) else lastI zs x q := by rw [lastI, getD_at h]
theorem firstI_next (zs : List Int) (x : Int) {q : Nat} (h : q < zs.length) : firstI zs x (q + 1) = if zs[q] = x ∧ firstI zs x q < 0 then (q : Int) else firstI zs x q := by rw [firstI_succ, getD_at h]
theorem get_of (k : Int) {W w : World} {p : Option Addr} {xs : List (Int × Int)} {v : Int} (h : OmapN.At W W.heap.size p xs) (hr : Law.Rises OmapN.lt xs) (hg : Law.getK k xs = some v) (K : Below W.heap.size W w) :
    Calls Try.prog 21 #[OmapN.M p, .int .u64 k] w fun e w' => e = .returned (.tuple #[.int .i64 v, .bool true]) ∧ Hid (Below W.heap.size W w') :=
  (OmapN.get k (h.under K) K.size hr).mono fun _ _ ⟨he, hb⟩ => ⟨by rw [he, hg]; rfl, K.trans (hb.mono K.size)⟩

set_option maxRecDepth 100000 in
set_option maxHeartbeats 8000000 in
theorem walk (zs : List Int) (A : Option Addr) (c : Nat) (w : World) (hs : Law.Seq w 0 w.heap.size A (zs.map (.int .u64))) (hl : zs.length ≤ 200) :
    Calls Try.prog 5 #[.slice A zs.length c] w fun e w' => e = .returned (.bool true) ∧ Below w.heap.size w w' := by
  have HS := Lib.hid hs
  have d1 : decide ((200 : Int) < (zs.length : Int)) = false := by simp; omega
  clear hs
  go_enter Try.func5, Try.ntmps5
  go_wp2_with fail
  refine (awake _).mono ?_
  rintro e w1 ⟨rfl, b1⟩
  have HB := Lib.hid b1
  have sw := b1.size
  clear b1
  have V0 : Hid (Two w w1.heap.size (w1.heap.size + 1) zs 0 ((w1.alloc (.cells #[.pointer none] 50)).alloc (.cells #[.pointer none] 50))) :=
    ⟨(VarN.new w1 rfl).below ((Below.refl _ _).alloc (Nat.le_refl _) _), VarN.new _ (by simp), (HB.out.alloc sw _).alloc (by simp; omega) _⟩
  go_wp2_with fail
  generalize (w1.alloc (.cells #[.pointer none] 50)).alloc (.cells #[.pointer none] 50) = w2 at *
  go_loopw [5] (fun i wr => ∃ k : Nat, k ≤ zs.length ∧ i = .int .i64 k ∧ Two w w1.heap.size (w1.heap.size + 1) zs k wr) (fun i _ => zs.length - (intOf i).toNat)
  case atStart => exact ⟨0, Nat.zero_le _, rfl, V0.out⟩
  case round =>
    obtain ⟨k, hk, rfl, hV, hV', hB⟩ := hrel
    clear V0
    have lV := hV.lt
    obtain ⟨p, hi, ht⟩ := hV
    have c0 : wr.cell? ⟨w1.heap.size, 0, none⟩ = some (.pointer p) := hi.cell' rfl
    have HT := Lib.hid ht
    have HV := Lib.hid hi
    have HN := Lib.hid hV'
    have HB' := Lib.hid hB
    have hml := mL_len zs k
    have htl := tL_len zs k
    clear ht hi hV' hB
    by_cases hlt : k < zs.length
    · obtain ⟨j, hj⟩ : ∃ j, zs.length - 1 - k = j := ⟨_, rfl⟩
      have hjl : j < zs.length := by omega
      have hj2 : (zs.length : Int) - 1 - (k : Int) = (j : Int) := by omega
      obtain ⟨b, off, rfl, _, hb, q1⟩ := (HS.out.below HB'.out).int hlt
      obtain ⟨b', off', e', _, _, q2⟩ := (HS.out.below HB'.out).int hjl
      obtain ⟨rfl, rfl⟩ : b = b' ∧ off = off' := by injection e' with e'; injection e' with e1 e2; exact ⟨e1, e2⟩
      have HM := Lib.hid (mL_next zs hlt)
      have HJ := Lib.hid (tL_next zs hj hjl)
      clear e'
      generalize zs[k] = x at *
      generalize zs[j] = y at *
      go_wp2_with fail
      go_still_tail 6, (by kernel_rfl)
      change wpList _ _ _ _ _ wr.drew
      have HT' : Hid (OmapN.At wr.drew wr.drew.heap.size p (mL zs k)) := HT.out.drewN 1
      have HV' : Hid (Law.Is wr.drew w1.heap.size 50 #[.pointer p]) := HV.out.drewN 1
      have HN' : Hid (VarN wr.drew (w1.heap.size + 1) (tL zs k)) := HN.out.drewN 1
      have HB2 : Hid (Below w.heap.size w wr.drew) := Law.below_drewN HB'.out 1
      have q2' : wr.drew.cell? ⟨b, off + j, none⟩ = some (.int .u64 y) := q2
      clear HT HV HN HB' c0 q1 q2 lV
      generalize wr.drew = wd at *
      go_wp2_with fail
      refine (OmapN.withM x (k : Int) HT'.out (Nat.le_refl _) (mL_rises zs k) (by omega)).mono ?_
      rintro e w3 ⟨p3, rfl, t3, b3⟩
      rw [← HM.out] at t3
      have i3 := HV'.out.below b3 HV'.out.lt
      have c3 : w3.cell? ⟨w1.heap.size, 0, none⟩ = some (.pointer p) := i3.cell' rfl
      have f3 := i3.frozen 0
      have l3 := i3.lt
      have H3 : Hid (VarN (w3.setCell ⟨w1.heap.size, 0, none⟩ (.pointer p3)) w1.heap.size (mL zs (k + 1)) ∧ VarN (w3.setCell ⟨w1.heap.size, 0, none⟩ (.pointer p3)) (w1.heap.size + 1) (tL zs k) ∧ Below w.heap.size w (w3.setCell ⟨w1.heap.size, 0, none⟩ (.pointer p3))) :=
        ⟨VarN.of i3 t3, (HN'.out.below b3).far i3 (by decide) (by omega) _, (HB2.out.trans (b3.mono HB2.out.size)).setCell (p := ⟨w1.heap.size, 0, none⟩) sw _⟩
      have hbw : b ≠ w1.heap.size := by omega
      have q3 : (w3.setCell ⟨w1.heap.size, 0, none⟩ (.pointer p3)).cell? ⟨b, off + j, none⟩ = some (.int .u64 y) := (World.cell?_setCell_other w3 _ _ _ (fun e => by have := congrArg Addr.block e; simp at this; omega)).trans ((b3.cell (p := ⟨b, off + j, none⟩) (Nat.lt_of_lt_of_le hb HB2.out.size)).trans q2')
      clear i3 t3 b3 HT' HV' HN' HB2 HM q2'
      go_upto_region 8 with (fail)
      generalize w3.setCell ⟨w1.heap.size, 0, none⟩ (.pointer p3) = w4 at *
      obtain ⟨hV4, ⟨pt, it, tt⟩, hB4⟩ := H3.out
      have c4 : w4.cell? ⟨w1.heap.size + 1, 0, none⟩ = some (.pointer pt) := it.cell' rfl
      have l4 := it.lt
      have HV4 := Lib.hid hV4
      have HI4 := Lib.hid it
      have HT4 := Lib.hid tt
      have HB4 := Lib.hid hB4
      have hw1 : IntKind.i64.wrap ((zs.length : Int) - 1) = (zs.length : Int) - 1 := IntWalk.i64_in _ (by omega)
      have hw2 : IntKind.i64.wrap (j : Int) = (j : Int) := IntWalk.i64_in _ (by omega)
      have q3i : (0 : Int) ≤ (j : Int) ∧ (j : Int) < (zs.length : Int) := by omega
      clear hV4 it tt hB4 H3 c3 f3 l3
      go_wp2_with fail
      go_still_tail 14, (by kernel_rfl)
      change wpList _ _ _ _ _ w4.drew
      have T5 : Hid (OmapN.At w4.drew w4.drew.heap.size pt (tL zs k)) := HT4.out.drewN 1
      have I5 : Hid (Law.Is w4.drew (w1.heap.size + 1) 50 #[.pointer pt]) := HI4.out.drewN 1
      have M5 : Hid (VarN w4.drew w1.heap.size (mL zs (k + 1))) := HV4.out.drewN 1
      have B5 : Hid (Below w.heap.size w w4.drew) := Law.below_drewN HB4.out 1
      clear HT4 HI4 HV4 HB4 c4 q3 l4
      generalize w4.drew = w5 at *
      go_wp2_with fail
      refine (OmapN.withM y (j : Int) T5.out (Nat.le_refl _) (tL_rises zs k) (by omega)).mono ?_
      rintro e w6 ⟨p6, rfl, t6, b6⟩
      rw [← HJ.out] at t6
      have i6 := I5.out.below b6 I5.out.lt
      have c6 : w6.cell? ⟨w1.heap.size + 1, 0, none⟩ = some (.pointer pt) := i6.cell' rfl
      have f6 := i6.frozen 0
      have l6 := i6.lt
      have H6 : Hid (Two w w1.heap.size (w1.heap.size + 1) zs (k + 1) (w6.setCell ⟨w1.heap.size + 1, 0, none⟩ (.pointer p6))) :=
        ⟨(M5.out.below b6).far i6 (by decide) (by omega) _, VarN.of i6 t6, (B5.out.trans (b6.mono B5.out.size)).setCell (p := ⟨w1.heap.size + 1, 0, none⟩) (by show _ ≤ w1.heap.size + 1; omega) _⟩
      clear i6 t6 b6 T5 I5 M5 B5 HJ
      go_wp2_with fail
      go_roundw
      case rel => exact ⟨k + 1, by omega, by go_num, H6.out⟩
      case measure => simp [intOf]; omega
    · have hkl : k = zs.length := by omega
      subst hkl
      clear hlt
      have HKM := Lib.hid (fun x v (h : (x, v) ∈ mL zs zs.length) => at_key zs ⟨v, h⟩)
      have hRm := Lib.hid (mL_rises zs zs.length)
      have hRt := Lib.hid (tL_rises zs zs.length)
      have hLS := Lib.hid (len_same zs)
      go_wp2_with fail
      refine (OmapN.keys HT.out (Nat.le_refl _) (by omega)).mono ?_
      rintro e w3 ⟨K, ck, rfl, hck, s3, b3⟩
      have S3 := Lib.hid s3
      have J3 : Hid (Held w w1.heap.size (w1.heap.size + 1) (mL zs zs.length) (tL zs zs.length) w3) := ⟨VarN.below (show VarN wr w1.heap.size (mL zs zs.length) from ⟨p, HV.out, HT.out⟩) b3, HN.out.below b3, HB'.out.trans (b3.mono HB'.out.size)⟩
      clear s3 b3 HT HV HN HB' c0 lV htl
      generalize hmm : mL zs zs.length = ms at *
      generalize htt : tL zs zs.length = ts at *
      have hml' : ms.length ≤ 1000 := by omega
      have S3' := Lib.hid (S3.out.from_ (Nat.zero_le _))
      clear S3
      go_wp2_with fail
      go_loopw [7] (fun i wr => ∃ j : Nat, j ≤ ms.length ∧ i = .int .i64 j ∧ Below w3.heap.size w3 wr) (fun i _ => ms.length - (intOf i).toNat)
      case atStart => exact ⟨0, Nat.zero_le _, rfl, Below.refl _ _⟩
      case round =>
        obtain ⟨j, hj, rfl, hB3⟩ := hrel
        have B3 := Lib.hid hB3
        clear hB3
        by_cases hlt : j < ms.length
        · obtain ⟨b2, off2, rfl, _, hb2, k0⟩ := (S3'.out.below B3.out).at (i := j) (by simpa using hlt)
          simp only [List.getElem_map] at k0
          have HX := Lib.hid (HKM.out ms[j].1 ms[j].2 (List.getElem_mem hlt))
          have HD : Hid (∀ q, j = q + 1 → ∀ hq : q < ms.length, wr.cell? ⟨b2, off2 + q, none⟩ = some (.int .u64 ms[q].1) ∧ ms[q].1 < ms[j].1) := fun q e hq => by
            obtain ⟨b', off', e', _, _, k1⟩ := (S3'.out.below B3.out).at (i := q) (by simpa using hq)
            injection e' with e'
            injection e' with e1 e2
            subst e1 e2
            exact ⟨by simpa using k1, List.pairwise_iff_getElem.1 hRm.out q j hq hlt (by omega)⟩
          generalize ms[j].1 = x at *
          generalize ms[j].2 = v0 at *
          go_upto_region 13 with (fail)
          go_cut [72] (fun v wx => v = .bool false ∧ Law.Drawn wr wx)
          case first =>
            cases j with
            | zero =>
              go_quiet (fail)
              go_wp2_with fail
              go_meet
              exact ⟨rfl, (Law.Drawn.refl _).drewN _⟩
            | succ q =>
              obtain ⟨k1, hlx⟩ := HD.out q rfl (by omega)
              generalize ms[q].1 = y at *
              have d2 : decide (x ≤ y) = false := by simp; omega
              have hw : IntKind.i64.wrap (q : Int) = (q : Int) := IntWalk.i64_in _ (by omega)
              have hq1 : (q : Int) < (ms.length : Int) := by omega
              clear HD
              go_quiet (fail)
              go_wp2_with fail
              go_meet
              exact ⟨rfl, (Law.Drawn.refl _).drewN _⟩
          case rest =>
            obtain ⟨rfl, hdr⟩ := hcut
            clear HD
            have BC := Lib.hid (hdr.below B3.out)
            have k2 : wc.cell? ⟨b2, off2 + j, none⟩ = some (.int .u64 x) := (hdr.cell _).trans k0
            have HC : Hid (Law.Seq wc 0 w.heap.size A (zs.map (.int .u64))) := HS.out.below (J3.out.2.2.trans (BC.out.mono J3.out.2.2.size))
            clear hdr B3 k0
            go_wp2_with fail
            go_loopw [8, 9, 10] (fun a b n wq => ∃ q : Nat, q ≤ zs.length ∧ a = .int .i64 (lastI zs x q) ∧ b = .int .i64 (firstI zs x q) ∧ n = .int .i64 q ∧ Law.Drawn wc wq) (fun _ _ n _ => zs.length - (intOf n).toNat)
            case atStart => exact ⟨0, Nat.zero_le _, rfl, rfl, rfl, Law.Drawn.refl _⟩
            case round =>
              obtain ⟨q, hq, rfl, rfl, rfl, hdr⟩ := hrel
              have HDR := Lib.hid hdr
              have k3 : wr.cell? ⟨b2, off2 + j, none⟩ = some (.int .u64 x) := (hdr.cell _).trans k2
              clear hdr
              by_cases hqz : q < zs.length
              · obtain ⟨b1, off1, rfl, _, _, q1⟩ := (HDR.out.seq HC.out).int hqz
                have HLn := Lib.hid (lastI_succ zs x hqz)
                have HFn := Lib.hid (firstI_next zs x hqz)
                generalize zs[q] = z at *
                generalize lastI zs x q = la at *
                generalize hfi : firstI zs x q = fi at *
                by_cases hzx : z = x
                · subst hzx
                  by_cases hf : fi < 0
                  · have d3 : decide (fi < 0) = true := by simpa using hf
                    go_wp2_with fail
                    go_quiet (fail)
                    go_wp2_with fail
                    go_roundw
                    case rel => exact ⟨q + 1, by omega, by rw [HLn.out]; simp, by rw [HFn.out]; simp [hf], by go_num, HDR.out.drewN _⟩
                    case measure => simp [intOf]; omega
                  · have d3 : decide (fi < 0) = false := by simpa using hf
                    go_wp2_with fail
                    go_quiet (fail)
                    go_wp2_with fail
                    go_roundw
                    case rel => exact ⟨q + 1, by omega, by rw [HLn.out]; simp, by rw [HFn.out, if_neg (fun h => by have := h.2; omega)], by go_num, HDR.out.drewN _⟩
                    case measure => simp [intOf]; omega
                · have d4 : (z == x) = false := by simpa using hzx
                  go_wp2_with fail
                  go_quiet (fail)
                  go_wp2_with fail
                  go_roundw
                  case rel => exact ⟨q + 1, by omega, by rw [HLn.out, if_neg hzx], by rw [HFn.out, if_neg (fun h => hzx h.1)], by go_num, HDR.out.drewN _⟩
                  case measure => simp [intOf]; omega
              · have hqe : q = zs.length := by omega
                subst hqe
                have H4 := J3.out.below (BC.out.trans (Below.mono (HDR.out.below (Below.refl _ _)) BC.out.size))
                have BW := Lib.hid (HDR.out.below BC.out)
                obtain ⟨⟨pm, im, tm⟩, ⟨pt, it, tt⟩, hbw⟩ := H4
                have cm : wr.cell? ⟨w1.heap.size, 0, none⟩ = some (.pointer pm) := im.cell' rfl
                have ct : wr.cell? ⟨w1.heap.size + 1, 0, none⟩ = some (.pointer pt) := it.cell' rfl
                have TM := Lib.hid tm
                have TT := Lib.hid tt
                have lm := im.lt
                have lt' := it.lt
                have lk : b2 < wr.heap.size := World.block_lt_of_cell? wr _ k3
                have HX1 := Lib.hid HX.out.1
                have HX2 := Lib.hid HX.out.2
                clear im it tm tt hbw HX k2
                generalize lastI zs x zs.length = la at *
                generalize firstI zs x zs.length = fi at *
                go_upto_region 23 with (fail)
                go_region_held3 (fun w' => w'.cell? ⟨w1.heap.size, 0, none⟩ = some (.pointer pm) ∧ w'.cell? ⟨b2, off2 + j, none⟩ = some (.int .u64 x)) (first | (go_simp; done) | (exact ⟨by assumption, by assumption⟩)) (first
                  | (go_at_call 21; refine (get_of x TM.out hRm.out HX1.out (Below.refl _ wr).drew).mono ?_; rintro e w5 ⟨rfl, K5⟩; have cm5 := (K5.out.cell (p := ⟨w1.heap.size, 0, none⟩) lm).trans cm; have k5 := (K5.out.cell (p := ⟨b2, off2 + j, none⟩) lk).trans k3; have ct5 := (K5.out.cell (p := ⟨w1.heap.size + 1, 0, none⟩) lt').trans ct; have T5 := Lib.hid ((TT.out.under K5.out).wide K5.out.size); have l5 := Nat.lt_of_lt_of_le lt' K5.out.size; have lk5 := Nat.lt_of_lt_of_le lk K5.out.size))
                go_upto_region 24 with (fail)
                go_region_held3 (fun w' => w'.cell? ⟨w1.heap.size + 1, 0, none⟩ = some (.pointer pt) ∧ w'.cell? ⟨b2, off2 + j, none⟩ = some (.int .u64 x)) (first | (go_simp; done) | (exact ⟨by assumption, by assumption⟩)) (first
                  | (go_at_call 21; refine (get_of x T5.out hRt.out HX2.out (Below.refl _ w5).drew).mono ?_; rintro e w6 ⟨rfl, K6⟩; have ct6 := (K6.out.cell (p := ⟨w1.heap.size + 1, 0, none⟩) l5).trans ct5; have k6 := (K6.out.cell (p := ⟨b2, off2 + j, none⟩) lk5).trans k5))
                go_wp2_with fail
                go_roundw
                case rel => exact ⟨j + 1, by omega, by go_num, BW.out.trans ((K5.out.trans (K6.out.mono K5.out.size)).mono BW.out.size)⟩
                case measure => simp [intOf]; omega
        · obtain ⟨⟨pm, im, tm⟩, ⟨pt, it, tt⟩, hbw⟩ := J3.out.below B3.out
          have cm : wr.cell? ⟨w1.heap.size, 0, none⟩ = some (.pointer pm) := im.cell' rfl
          have ct : wr.cell? ⟨w1.heap.size + 1, 0, none⟩ = some (.pointer pt) := it.cell' rfl
          have TM := Lib.hid tm
          have TT := Lib.hid tt
          have HW := Lib.hid hbw
          have lm := im.lt
          have sb := hbw.size
          have LS : Hid (ts.length = ms.length) := hLS.out
          clear im it tm tt hbw
          go_wp2_with fail
          refine (OmapN.len TT.out (Nat.le_refl _)).mono ?_
          rintro e w5 ⟨rfl, rfl⟩
          rw [LS.out]
          go_wp2_with fail
          refine (OmapN.len (TM.out.under ((Below.refl _ wr).alloc (Nat.le_refl _) _)) (by simp)).mono ?_
          rintro e w6 ⟨rfl, rfl⟩
          go_wp2_with fail
          go_ret
          exact ⟨rfl, (HW.out.alloc sb _).alloc (by simp; omega) _⟩

set_option maxHeartbeats 400000 in
theorem walkLong (n : Nat) (A : Option Addr) (c : Nat) (w : World) (hl : 200 < n) :
    Calls Try.prog 5 #[.slice A n c] w fun e w' => e = .returned (.bool true) ∧ Below w.heap.size w w' := by
  have d1 : decide ((200 : Int) < (n : Int)) = true := by simp; omega
  clear hl
  go_enter Try.func5, Try.ntmps5
  go_wp2_with fail
  refine (awake _).mono ?_
  rintro e w1 ⟨rfl, b1⟩
  have HB := Lib.hid b1
  clear b1
  go_wp2_with fail
  refine (awake _).mono ?_
  rintro e w2 ⟨rfl, b2⟩
  have HB2 := Lib.hid (HB.out.trans (b2.mono HB.out.size))
  clear b2
  go_wp2_with fail
  go_ret
  exact ⟨rfl, HB2.out⟩
theorem walk0 (zs : List Int) (A : Option Addr) (c : Nat) (w : World) (hs : Law.Seq w 0 w.heap.size A (zs.map (.int .u64))) :
    Calls Try.prog 5 #[.slice A zs.length c] w fun e w' => e = .returned (.bool true) ∧ Below w.heap.size w w' := by
  by_cases h : zs.length ≤ 200
  · exact walk zs A c w hs h
  · exact walkLong _ A c w (by omega)

set_option maxRecDepth 100000 in
theorem lifted (os : Os) (started : os.Started) (H : Type) (enc : TypeId × Value → H) :
    ReturnsInHanded {} Try.checked os 5 .any (Rows.omapNumbersSpec.pre6 enc Try.prog Try.f5 Rows.omapNumbersRow.domain false) (Rows.omapNumbersSpec.post enc Try.prog Try.f5 false true false false) := by
  refine returnsInHanded_of_change (C := Try.checked) own started (by kernel_rfl) Try.func5
    (ChangeSpec.witness6 (enc := enc) (C := Try.checked) false ⟨#[], #[.slice none 0 0], []⟩ 8 (by kernel_rfl) (by kernel_rfl) (by kernel_rfl) (by kernel_rfl)) ?_
  intro W base args ds gs before hval0 hW hcnd _
  have hval : ∀ (j : Nat) t v, Try.f5.params[j]? = some t → args[j]? = some v → Value.okWide Try.prog W .any base t v := hval0
  have hW' := hW
  obtain ⟨p, q, hA0, hV, rfl, hfz, hnd⟩ := hW
  have hA : DataW.TrodAll enc Try.prog W 0 (fun _ => true) true Try.f5.params.toList args.toList ds p := hA0
  rw [Try.params5] at hA hval
  obtain ⟨v0, vs0, d0, ds0, p0, q0, hargs, rfl, rfl, h0, r0⟩ := trodAll_cons hA
  obtain ⟨rfl, rfl, rfl⟩ := trodAll_nil r0
  obtain rfl : args = #[v0] := by cases args; simp_all
  obtain ⟨A, c, zs, rfl, hs, hl, hc, hz⟩ := Law.open_nums Try.underlying47 Try.underlying52 (by kernel_rfl) (hval 0 47 v0 rfl rfl) h0
  refine (walk0 zs A c W hs).mono fun e W' ⟨he, bel⟩ => ?_
  subst he
  exact ⟨_, rfl, Law.post_law laidOut (by kernel_rfl) (by kernel_rfl) Try.underlying4 rfl (fun ds h => by match ds, h with | [_], _ => rfl) hW' bel⟩

theorem proved : Rows.OmapNumbersSaid :=
  OpenClaim.holds_of_wide 5 Try.f5 rfl rfl rfl rfl rfl rfl rfl ⟨rfl, rfl, rfl, rfl, rfl⟩ rfl rfl rfl rfl rfl (by kernel_rfl) Try.func5 (by kernel_rfl)
    (of_decide_eq_true (by kernel_rfl)) (by unfold Func.isWrapper; rw [if_neg (by decide +kernel)]; exact ⟨rfl, rfl⟩)
    (fun os started H enc _ => lifted os started H enc)
#print axioms proved
end Go.Proofs.Ytekkddejgkmofaa.omapNumbers

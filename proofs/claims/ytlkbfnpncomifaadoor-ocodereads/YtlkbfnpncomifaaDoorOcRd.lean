/-
  The reference's Read (layer 12).
-/
import Derived.Test.YtlkbfnpncomifaaDoorOcSame
import Derived.Test.YtlkbfnpncomifaaDoorRoundHeld
namespace Go.Proofs.YtlkbfnpncomifaaDoor
open Go.RowKit Go.Lib
attribute [local go_sem] Oper.semAt_some
namespace Opx
open Go.Law
theorem opsPos_le {b : List Int} (hb : Bytes b) (i : Nat) : ∀ k, opsPos b i k ≤ i + 12 * k
  | 0 => by show i ≤ _; omega
  | k + 1 => by
    have h1 := opsPos_le hb i k
    have h2 := opLen_le hb (opsPos b i k)
    show opsPos b i k + opLen b (opsPos b i k) ≤ _
    omega
theorem clPos_le {b : List Int} (hb : Bytes b) : ∀ k, clPos b k ≤ 8 + 481 * k
  | 0 => by show 8 ≤ _; omega
  | k + 1 => by
    have h1 := clPos_le hb k
    have h2 := opsPos_le hb (clPos b k + 1) (manyAt b (clPos b k))
    have h3 := manyAt_le hb (clPos b k)
    show opsPos b (clPos b k + 1) (manyAt b (clPos b k)) ≤ _
    omega
/-- an op on the way to a client's row: its box at gx, the row so far, from the world wy on -/
structure MidR (w wy wv : World) (gx j : Nat) (D2 : Option Addr) (cap2 : Nat) (qs : List OpW) (cs : Array Value) : Prop where
  box : Is wv gx 49 cs
  row : wv.ownsRow wy.heap.size 49 7 (.slice D2 j cap2) j (flatW qs)
  far : ∀ g, Value.ownBlock (.slice D2 j cap2) = some g → g ≠ gx
  us : ∀ q ∈ qs, Lain 9 wv q.A (q.us.map .string)
  inn : Below wy.heap.size wy wv
  all : Below w.heap.size w wv
  ge : wy.heap.size ≤ gx
  gew : w.heap.size ≤ gx
theorem MidR.touch {w wy wv wc : World} {gx j : Nat} {D2 : Option Addr} {cap2 : Nat} {qs : List OpW} {cs cs' : Array Value} (h : MidR w wy wv gx j D2 cap2 qs cs) (ht : Law.Touch wv wc (fun k => k = gx)) (hb : Is wc gx 49 cs') : MidR w wy wc gx j D2 cap2 qs cs' :=
  ⟨hb, ht.own h.row (fun g hg => h.far g hg), h.far, fun q hq => (h.us q hq).keeps (Keeps.touch1 ht h.box (by decide)), ht.below h.inn (fun k e => by rw [e]; exact h.ge) h.inn.size, ht.below h.all (fun k e => by rw [e]; exact h.gew) h.all.size, h.ge, h.gew⟩
set_option maxRecDepth 100000 in
set_option maxHeartbeats 8000000 in
theorem refRead {w : World} {A : Option Addr} {c : Nat} {b : List Int} (hb : Bytes b) (hs : Seq w 0 w.heap.size A (b.map (.int .u8))) (hl : b.length ≤ 50000) :
    Calls Tryd.prog 12 #[.slice A b.length c] w fun e w' => ∃ C cC ls Kp cK, e = .returned (.agg #[.int .i64 (1 + at_ b 0 % 8), .int .i64 (1 + at_ b 1 % 8), .int .i64 (1 + at_ b 2 % 16), .int .i64 (1 + at_ b 3 % 8), .int .i64 (at_ b 4 % 5), .int .u64 (at_ b 5), .int .u64 (longI (at_ b 6)), .slice C ls.length cC, .slice Kp (picks b).length cK]) ∧ plainC ls = clients b ∧ Cls w' C ls ∧ Lain 34 w' Kp (flatPk (picks b)) ∧ Below w.heap.size w w' := by
  have HAT : Hid (∀ W, Below w.heap.size w W → ∀ (n : Int) (i : Nat), n = (i : Int) → ∀ x, at_ b i = x → Calls Tryd.prog 23 #[.slice A b.length c, .int .i64 n] W fun e w' => e = .returned (.int .i64 x) ∧ w' = W) := Lib.hid (fun W hB n i hn x hx => by rw [hn]; exact rAt ((hs.below hB).more hB.size) hb i hx)
  have HBY := Lib.hid hb
  obtain ⟨iO, hEO⟩ := elemO
  have HEO := Lib.hid hEO
  clear hEO
  obtain ⟨iC, hEC⟩ := elemC
  have HEC := Lib.hid hEC
  clear hEC
  obtain ⟨iP, hEP⟩ := elemP
  have HEP := Lib.hid hEP
  clear hEP
  obtain ⟨iS, hES⟩ := elemS
  have HES := Lib.hid hES
  clear hES
  have e0 := hb.at 0
  have e1 := hb.at 1
  have e2 := hb.at 2
  have e3 := hb.at 3
  have e4 := hb.at 4
  have e5 := hb.at 5
  have e6 := hb.at 6
  have m0 := rem_pos (n := 8) e0.1
  have m1 := rem_pos (n := 8) e1.1
  have m2 := rem_pos (n := 16) e2.1
  have m3 := rem_pos (n := 8) e3.1
  have m4 := rem_pos (n := 5) e4.1
  have b1 := (Below.refl w.heap.size w).alloc (Nat.le_refl _) (.cells #[.int .i64 0, .int .i64 0, .int .i64 0, .int .i64 0, .int .i64 0, .int .u64 0, .int .u64 0, .slice none 0 0, .slice none 0 0] 31)
  have HB1 := Lib.hid b1
  have HR1 := Lib.hid (Is.new w 31 #[.int .i64 0, .int .i64 0, .int .i64 0, .int .i64 0, .int .i64 0, .int .u64 0, .int .u64 0, .slice none 0 0, .slice none 0 0] rfl)
  clear hs hb b1
  go_enter Tryd.func12, Tryd.ntmps12
  go_wp2_with fail
  generalize w.alloc (.cells #[.int .i64 0, .int .i64 0, .int .i64 0, .int .i64 0, .int .i64 0, .int .u64 0, .int .u64 0, .slice none 0 0, .slice none 0 0] 31) = w1 at *
  refine (HAT.out w1 HB1.out _ 0 rfl _ rfl).mono ?_
  rintro e wx0 ⟨rfl, rfl⟩
  go_wp2_with fail
  refine (HAT.out wx0 HB1.out _ 1 rfl _ rfl).mono ?_
  rintro e wx1 ⟨rfl, rfl⟩
  go_wp2_with fail
  refine (HAT.out wx1 HB1.out _ 2 rfl _ rfl).mono ?_
  rintro e wx2 ⟨rfl, rfl⟩
  go_wp2_with fail
  refine (HAT.out wx2 HB1.out _ 3 rfl _ rfl).mono ?_
  rintro e wx3 ⟨rfl, rfl⟩
  go_wp2_with fail
  refine (HAT.out wx3 HB1.out _ 4 rfl _ rfl).mono ?_
  rintro e wx4 ⟨rfl, rfl⟩
  go_wp2_with fail
  refine (HAT.out wx4 HB1.out _ 5 rfl _ rfl).mono ?_
  rintro e wx5 ⟨rfl, rfl⟩
  go_wp2_with fail
  refine (HAT.out wx5 HB1.out _ 6 rfl _ rfl).mono ?_
  rintro e wx6 ⟨rfl, rfl⟩
  go_wp2_with fail
  refine (rLong _ e6 wx6 rfl).mono ?_
  rintro e w8 ⟨rfl, rfl⟩
  go_wp2_with fail
  have ba := (Below.refl w8.heap.size w8).alloc (Nat.le_refl _) (.cells #[.int .i64 (1 + at_ b 0 % 8), .int .i64 (1 + at_ b 1 % 8), .int .i64 (1 + at_ b 2 % 16), .int .i64 (1 + at_ b 3 % 8), .int .i64 (at_ b 4 % 5), .int .u64 (at_ b 5), .int .u64 (longI (at_ b 6)), .slice none 0 0, .slice none 0 0] 31)
  have HB2 := Lib.hid (HB1.out.trans (ba.mono HB1.out.size))
  have HR2 := Lib.hid (HR1.out.below ba HR1.out.lt)
  have HS2 := Lib.hid (Is.new w8 31 #[.int .i64 (1 + at_ b 0 % 8), .int .i64 (1 + at_ b 1 % 8), .int .i64 (1 + at_ b 2 % 16), .int .i64 (1 + at_ b 3 % 8), .int .i64 (at_ b 4 % 5), .int .u64 (at_ b 5), .int .u64 (longI (at_ b 6)), .slice none 0 0, .slice none 0 0] rfl)
  have hgs := HR1.out.lt
  obtain ⟨gs, hgs0⟩ : ∃ gs, w8.heap.size = gs := ⟨_, rfl⟩
  rw [hgs0] at HS2 hgs
  have hwgs : w.heap.size < gs := hgs
  clear ba HR1 HB1
  generalize w8.alloc (.cells #[.int .i64 (1 + at_ b 0 % 8), .int .i64 (1 + at_ b 1 % 8), .int .i64 (1 + at_ b 2 % 16), .int .i64 (1 + at_ b 3 % 8), .int .i64 (at_ b 4 % 5), .int .u64 (at_ b 5), .int .u64 (longI (at_ b 6)), .slice none 0 0, .slice none 0 0] 31) = w2 at *
  simp only [hgs0] at *
  clear hgs0
  have e7 := HBY.out.at 7
  refine (HAT.out w2 HB2.out _ 7 rfl _ rfl).mono ?_
  rintro e w3 ⟨rfl, rfl⟩
  obtain ⟨mm, hmm⟩ := Int.eq_ofNat_of_zero_le (show 0 ≤ at_ b 7 % 8 by omega)
  have m7 : (at_ b 7).tmod 8 = (mm : Int) := (rem_pos (n := 8) e7.1).trans hmm
  have hmm8 : mm ≤ 7 := by omega
  obtain ⟨N, hN⟩ : ∃ N, clN b = N := ⟨_, rfl⟩
  have hNm : N = 1 + mm := by unfold clN at hN; omega
  have HNM := Lib.hid hNm
  have HN := Lib.hid hN
  have hN8 : N ≤ 8 := by omega
  clear hN hNm hmm e7 m0 m1 m2 m3 m4 e0 e1 e2 e3 e4 e5 e6
  go_wp2_with fail
  go_loopw [4, 5] (fun s4 s5 wr => ∃ (k : Nat) (D : Option Addr) (cap : Nat) (ls : List Cl), k ≤ N ∧ s4 = .int .i64 ((clPos b k : Nat) : Int) ∧ s5 = .int .i64 ((N - k : Nat) : Int) ∧ plainC ls = clTo b k ∧ Is wr gs 31 #[.int .i64 (1 + at_ b 0 % 8), .int .i64 (1 + at_ b 1 % 8), .int .i64 (1 + at_ b 2 % 16), .int .i64 (1 + at_ b 3 % 8), .int .i64 (at_ b 4 % 5), .int .u64 (at_ b 5), .int .u64 (longI (at_ b 6)), .slice D k cap, .slice none 0 0] ∧ wr.ownsRow w.heap.size 43 1 (.slice D k cap) k (ls.map cellC) ∧ (∀ r ∈ ls, Ops wr r.1 r.2.2) ∧ Is wr w.heap.size 31 #[.int .i64 0, .int .i64 0, .int .i64 0, .int .i64 0, .int .i64 0, .int .u64 0, .int .u64 0, .slice none 0 0, .slice none 0 0] ∧ Below w.heap.size w wr) (fun _ s5 _ => (RowKit.intOf s5).toNat)
  case atStart => exact ⟨0, none, 0, [], Nat.zero_le _, rfl, congrArg _ (by have := HNM.out; omega), rfl, HS2.out, own_nil _ _ _ _, (fun _ h => by cases h), HR2.out, HB2.out⟩
  case round =>
    clear HS2 HR2 HB2
    obtain ⟨k, D, cap, ls, hk, rfl, rfl, hpl, hS, hO, hU, hR, hB⟩ := hrel
    have HPL := Lib.hid hpl
    have HS := Lib.hid hS
    have HO := Lib.hid hO
    have HU := Lib.hid hU
    have HR := Lib.hid hR
    have HB := Lib.hid hB
    clear hpl hS hO hU hR hB
    by_cases hlt : k < N
    · have d1 : decide ((0 : Int) < ((N - k : Nat) : Int)) = true := decide_eq_true (by omega)
      have hpp := clPos_le HBY.out k
      have HPS : Hid (clPos b (k + 1) = opsEnd b (clPos b k)) := Lib.hid rfl
      have HTS := Lib.hid (clTo_snoc b k)
      generalize clPos b k = p at *
      have ep := HBY.out.at p
      obtain ⟨M, hM⟩ : ∃ M, manyAt b p = M := ⟨_, rfl⟩
      have hM40 := manyAt_le HBY.out p
      rw [hM] at hM40
      have mp : (at_ b p).tmod 41 = (M : Int) := by rw [rem_pos ep.1]; unfold manyAt at hM; omega
      have HOA : Hid (opsAt b p = opsTo b (p + 1) M) := by show _ = _; unfold opsAt; rw [hM]
      have HOE : Hid (opsEnd b p = opsPos b (p + 1) M) := by show _ = _; unfold opsEnd; rw [hM]
      clear hM
      go_wp2_with fail
      refine (HAT.out wr HB.out _ p rfl _ rfl).mono ?_
      rintro e wy ⟨rfl, rfl⟩
      go_wp2_with fail
      clear d1 ep mp
      go_loopw [4, 6, 8] (fun s4 s6 s8 wz => ∃ (j : Nat) (D2 : Option Addr) (cap2 : Nat) (qs : List OpW), j ≤ M ∧ s4 = .int .i64 ((opsPos b (p + 1) j : Nat) : Int) ∧ s6 = .slice D2 j cap2 ∧ s8 = .int .i64 ((j : Nat) : Int) ∧ qs.map plain = opsTo b (p + 1) j ∧ wz.ownsRow wy.heap.size 49 7 (.slice D2 j cap2) j (flatW qs) ∧ (∀ q ∈ qs, Lain 9 wz q.A (q.us.map .string)) ∧ Below wy.heap.size wy wz) (fun _ _ s8 _ => M - (RowKit.intOf s8).toNat)
      case atStart => exact ⟨0, none, 0, [], Nat.zero_le _, rfl, rfl, rfl, rfl, own_nil _ _ _ _, (fun _ h => by cases h), Below.refl _ _⟩
      case round =>
        obtain ⟨j, D2, cap2, qs, hj, rfl, rfl, rfl, hq, hO2, hU2, hW⟩ := hrel
        have HQ := Lib.hid hq
        have HO2 := Lib.hid hO2
        have HU2 := Lib.hid hU2
        have HW := Lib.hid hW
        have HBz := Lib.hid (HB.out.trans (hW.mono HB.out.size))
        clear hq hO2 hU2 hW
        by_cases hlj : j < M
        · have d2 : decide (((j : Nat) : Int) < ((M : Nat) : Int)) = true := decide_eq_true (by omega)
          have hzz := opsPos_le HBY.out (p + 1) j
          have HZS : Hid (opsPos b (p + 1) (j + 1) = opsPos b (p + 1) j + opLen b (opsPos b (p + 1) j)) := Lib.hid rfl
          have HZT := Lib.hid (opsTo_snoc b (p + 1) j)
          generalize opsPos b (p + 1) j = z at *
          have z0 := HBY.out.at z
          have z1 := HBY.out.at (z + 1)
          have z2 := HBY.out.at (z + 2)
          have z3 := HBY.out.at (z + 3)
          have z4 := HBY.out.at (z + 4)
          have z5 := HBY.out.at (z + 5)
          have k0 := rem_pos (n := 11) z0.1
          have k24 := rem_pos (n := 4) z2.1
          have k210 := rem_pos (n := 10) z2.1
          have k311 := rem_pos (n := 11) z3.1
          have k410 := rem_pos (n := 10) z4.1
          go_wp2_with fail
          refine (HAT.out wr HBz.out _ z rfl _ rfl).mono ?_
          rintro e wa ⟨rfl, rfl⟩
          go_wp2_with fail
          refine (HAT.out wa HBz.out _ (z + 1) (by omega) _ rfl).mono ?_
          rintro e wb ⟨rfl, rfl⟩
          go_wp2_with fail
          refine (rUser _ z1 wb rfl).mono ?_
          rintro e wu ⟨rfl, bu⟩
          have HWu := Lib.hid (HW.out.trans (bu.mono HW.out.size))
          have HBu := Lib.hid (HBz.out.trans (bu.mono HBz.out.size))
          have HOu := Lib.hid (own_below HO2.out bu)
          have HUu := Lib.hid (fun q hq => (HU2.out q hq).now bu)
          have HGu : Hid (∀ g, Value.ownBlock (.slice D2 j cap2) = some g → g < wu.heap.size) := Lib.hid (fun g hg => (HOu.out.lt g hg).2)
          clear bu HO2 HU2 HW HBz
          go_upto_region 13 with (fail)
          have ba := (Below.refl wu.heap.size wu).alloc (Nat.le_refl _) (.cells #[.int .i64 (at_ b z % 11), .string (userB (at_ b (z + 1))), .int .i64 0, .int .i64 0, .int .i64 0, .int .u64 0, .slice none 0 0] 49)
          have hm0 : MidR w wy (wu.alloc (.cells #[.int .i64 (at_ b z % 11), .string (userB (at_ b (z + 1))), .int .i64 0, .int .i64 0, .int .i64 0, .int .u64 0, .slice none 0 0] 49)) wu.heap.size j D2 cap2 qs #[.int .i64 (at_ b z % 11), .string (userB (at_ b (z + 1))), .int .i64 0, .int .i64 0, .int .i64 0, .int .u64 0, .slice none 0 0] := ⟨Is.new wu _ _ rfl, own_below HOu.out ba, (fun g hg => Nat.ne_of_lt (HGu.out g hg)), (fun q hq => (HUu.out q hq).now ba), HWu.out.trans (ba.mono HWu.out.size), HBu.out.trans (ba.mono HBu.out.size), HWu.out.size, HBu.out.size⟩
          obtain ⟨gx, hgx⟩ : ∃ gx, wu.heap.size = gx := ⟨_, rfl⟩
          rw [hgx] at hm0
          have HM0 := Lib.hid hm0
          clear hm0 ba HOu HUu HGu HWu HBu
          generalize wu.alloc (.cells #[.int .i64 (at_ b z % 11), .string (userB (at_ b (z + 1))), .int .i64 0, .int .i64 0, .int .i64 0, .int .u64 0, .slice none 0 0] 49) = wv at *
          simp only [hgx] at *
          clear hgx
          by_cases q1 : at_ b z % 11 = 1
          · have HLN : Hid (opLen b z = 6) := by show _ = _; unfold opLen;  rw [if_pos q1]
            have HOP : Hid (⟨at_ b z % 11, userB (at_ b (z + 1)), at_ b (z + 2) % 4, at_ b (z + 3) % 11, at_ b (z + 4) % 10, longI (at_ b (z + 5)), []⟩ = Law.opAt b z) := by show _ = _; unfold Law.opAt;  rw [if_pos q1]
            have g1 : (at_ b z % 11 == 1) = true := beq_iff_eq.2 q1
            clear q1
            have c0 := HM0.out.box.cell' (i := 0) (v := .int .i64 (at_ b z % 11)) rfl
            have l0 := HM0.out.box.lt
            have c2 := HM0.out.box.cell' (i := 2) (v := .int .i64 0) rfl
            have f2 := HM0.out.box.frozen 2
            have c3 := HM0.out.box.cell' (i := 3) (v := .int .i64 0) rfl
            have f3 := HM0.out.box.frozen 3
            have c4 := HM0.out.box.cell' (i := 4) (v := .int .i64 0) rfl
            have f4 := HM0.out.box.frozen 4
            have c5 := HM0.out.box.cell' (i := 5) (v := .int .u64 0) rfl
            have f5 := HM0.out.box.frozen 5
            go_wp2_with fail
            refine (HAT.out wv HM0.out.all _ (z + 2) (by omega) _ rfl).mono ?_
            rintro e wk0 ⟨rfl, rfl⟩
            go_wp2_with fail
            refine (HAT.out wk0 HM0.out.all _ (z + 3) (by omega) _ rfl).mono ?_
            rintro e wk1 ⟨rfl, rfl⟩
            go_wp2_with fail
            refine (HAT.out wk1 HM0.out.all _ (z + 4) (by omega) _ rfl).mono ?_
            rintro e wk2 ⟨rfl, rfl⟩
            go_wp2_with fail
            refine (HAT.out wk2 HM0.out.all _ (z + 5) (by omega) _ rfl).mono ?_
            rintro e wk3 ⟨rfl, rfl⟩
            go_wp2_with fail
            refine (rLong _ z5 wk3 rfl).mono ?_
            rintro e wl ⟨rfl, rfl⟩
            go_upto_region 32 with (fail)
            have HMc : Hid (MidR w wy ((((wl.setCell ⟨gx, 2, none⟩ (.int .i64 (at_ b (z + 2) % 4))).setCell ⟨gx, 3, none⟩ (.int .i64 (at_ b (z + 3) % 11))).setCell ⟨gx, 4, none⟩ (.int .i64 (at_ b (z + 4) % 10))).setCell ⟨gx, 5, none⟩ (.int .u64 (longI (at_ b (z + 5))))) gx j D2 cap2 qs #[.int .i64 (at_ b z % 11), .string (userB (at_ b (z + 1))), .int .i64 (at_ b (z + 2) % 4), .int .i64 (at_ b (z + 3) % 11), .int .i64 (at_ b (z + 4) % 10), .int .u64 (longI (at_ b (z + 5))), .slice none 0 0]) := Lib.hid (HM0.out.touch ((((Law.Touch.store wl ⟨gx, 2, none⟩ (.int .i64 (at_ b (z + 2) % 4)) rfl : Law.Touch wl _ (fun k => k = gx)).trans (Law.Touch.store (wl.setCell ⟨gx, 2, none⟩ (.int .i64 (at_ b (z + 2) % 4))) ⟨gx, 3, none⟩ (.int .i64 (at_ b (z + 3) % 11)) rfl : Law.Touch (wl.setCell ⟨gx, 2, none⟩ (.int .i64 (at_ b (z + 2) % 4))) _ (fun k => k = gx)) (fun _ e => .inl e)).trans (Law.Touch.store ((wl.setCell ⟨gx, 2, none⟩ (.int .i64 (at_ b (z + 2) % 4))).setCell ⟨gx, 3, none⟩ (.int .i64 (at_ b (z + 3) % 11))) ⟨gx, 4, none⟩ (.int .i64 (at_ b (z + 4) % 10)) rfl : Law.Touch ((wl.setCell ⟨gx, 2, none⟩ (.int .i64 (at_ b (z + 2) % 4))).setCell ⟨gx, 3, none⟩ (.int .i64 (at_ b (z + 3) % 11))) _ (fun k => k = gx)) (fun _ e => .inl e)).trans (Law.Touch.store (((wl.setCell ⟨gx, 2, none⟩ (.int .i64 (at_ b (z + 2) % 4))).setCell ⟨gx, 3, none⟩ (.int .i64 (at_ b (z + 3) % 11))).setCell ⟨gx, 4, none⟩ (.int .i64 (at_ b (z + 4) % 10))) ⟨gx, 5, none⟩ (.int .u64 (longI (at_ b (z + 5)))) rfl : Law.Touch (((wl.setCell ⟨gx, 2, none⟩ (.int .i64 (at_ b (z + 2) % 4))).setCell ⟨gx, 3, none⟩ (.int .i64 (at_ b (z + 3) % 11))).setCell ⟨gx, 4, none⟩ (.int .i64 (at_ b (z + 4) % 10))) _ (fun k => k = gx)) (fun _ e => .inl e)) ((((HM0.out.box.set 2 (.int .i64 (at_ b (z + 2) % 4)) rfl).set 3 (.int .i64 (at_ b (z + 3) % 11)) rfl).set 4 (.int .i64 (at_ b (z + 4) % 10)) rfl).set 5 (.int .u64 (longI (at_ b (z + 5)))) rfl))
            clear c0 l0 HM0 c2 f2 c3 f3 c4 f4 c5 f5
            generalize ((((wl.setCell ⟨gx, 2, none⟩ (.int .i64 (at_ b (z + 2) % 4))).setCell ⟨gx, 3, none⟩ (.int .i64 (at_ b (z + 3) % 11))).setCell ⟨gx, 4, none⟩ (.int .i64 (at_ b (z + 4) % 10))).setCell ⟨gx, 5, none⟩ (.int .u64 (longI (at_ b (z + 5))))) = wc at *
            have y0 := HMc.out.box.cell' (i := 0) (v := .int .i64 (at_ b z % 11)) rfl
            have y1 := HMc.out.box.cell' (i := 1) (v := .string (userB (at_ b (z + 1)))) rfl
            have y2 := HMc.out.box.cell' (i := 2) (v := .int .i64 (at_ b (z + 2) % 4)) rfl
            have y3 := HMc.out.box.cell' (i := 3) (v := .int .i64 (at_ b (z + 3) % 11)) rfl
            have y4 := HMc.out.box.cell' (i := 4) (v := .int .i64 (at_ b (z + 4) % 10)) rfl
            have y5 := HMc.out.box.cell' (i := 5) (v := .int .u64 (longI (at_ b (z + 5)))) rfl
            have y6 := HMc.out.box.cell' (i := 6) (v := .slice none 0 0) rfl
            have ly := HMc.out.box.lt
            have HNU := Lib.hid ((Lain.nil : Lain 9 wc none []))
            go_wp2_with (at_builtin; refine wpList_append_own _ rfl _ _ 43 rfl wy.heap.size 49 iO (.agg #[.int .i64 0, .string ⟨#[]⟩, .int .i64 0, .int .i64 0, .int .i64 0, .int .u64 0, .slice none 0 0]) 7 80 HEO.out.ut HEO.out.info HEO.out.zero HEO.out.sz HEO.out.by_ HEO.out.cells HEO.out.pos _ _ _ rfl (HMc.out.row.alloc _) ⟨wc.heap.size, 0, none⟩ 1 1 (cellsW ⟨at_ b z % 11, userB (at_ b (z + 1)), at_ b (z + 2) % 4, at_ b (z + 3) % 11, at_ b (z + 4) % 10, longI (at_ b (z + 5)), none, 0, []⟩) rfl rfl (new_cells _ _ _ rfl) (seven_one _) (by unfold maxLen; omega) (by omega) (by have := HMc.out.inn.size; simp; omega) ?_; intro v' w6 hown hg6 _; have HW6 := Lib.hid ((HMc.out.inn.alloc HMc.out.inn.size _).grown hg6 (by have := HMc.out.inn.size; simp; omega) (fun k hk => (HMc.out.row.lt k hk).1)); have HK6 := Lib.hid ((Keeps.alloc (t := 9) (w := wc) _).trans (Keeps.grown (HMc.out.row.alloc _) hg6 (by decide))); have HO6 := Lib.hid hown; obtain ⟨D', cap', rfl, _⟩ := own_shape hown; clear hown hg6)
            go_roundw
            case rel => exact ⟨j + 1, D', cap', qs ++ [⟨at_ b z % 11, userB (at_ b (z + 1)), at_ b (z + 2) % 4, at_ b (z + 3) % 11, at_ b (z + 4) % 10, longI (at_ b (z + 5)), none, 0, []⟩], by omega, congrArg _ (by rw [HZS.out, HLN.out]; omega), rfl, by go_num, by rw [HZT.out, List.map_append, HQ.out, ← HOP.out]; rfl, by rw [flatW_snoc]; exact HO6.out, fun q' hq' => by
              rcases List.mem_append.1 hq' with h | h
              · exact (HMc.out.us q' h).keeps HK6.out
              · obtain rfl := List.mem_singleton.1 h
                exact HNU.out.keeps HK6.out, HW6.out⟩
            case measure => simp [RowKit.intOf]; omega
          · skip
            by_cases q2 : at_ b z % 11 = 2
            · have HLN : Hid (opLen b z = 4) := by show _ = _; unfold opLen; rw [if_neg q1]; rw [if_pos q2]
              have HOP : Hid (⟨at_ b z % 11, userB (at_ b (z + 1)), at_ b (z + 2) % 4, 0, 0, longI (at_ b (z + 3)), []⟩ = Law.opAt b z) := by show _ = _; unfold Law.opAt; rw [if_neg q1]; rw [if_pos q2]
              have g1 : (at_ b z % 11 == 1) = false := beq_eq_false_iff_ne.2 q1
              have g2 : (at_ b z % 11 == 2) = true := beq_iff_eq.2 q2
              clear q1 q2
              have c0 := HM0.out.box.cell' (i := 0) (v := .int .i64 (at_ b z % 11)) rfl
              have l0 := HM0.out.box.lt
              have c2 := HM0.out.box.cell' (i := 2) (v := .int .i64 0) rfl
              have f2 := HM0.out.box.frozen 2
              have c5 := HM0.out.box.cell' (i := 5) (v := .int .u64 0) rfl
              have f5 := HM0.out.box.frozen 5
              go_wp2_with fail
              refine (HAT.out wv HM0.out.all _ (z + 2) (by omega) _ rfl).mono ?_
              rintro e wk0 ⟨rfl, rfl⟩
              go_wp2_with fail
              refine (HAT.out wk0 HM0.out.all _ (z + 3) (by omega) _ rfl).mono ?_
              rintro e wk1 ⟨rfl, rfl⟩
              go_wp2_with fail
              refine (rLong _ z3 wk1 rfl).mono ?_
              rintro e wl ⟨rfl, rfl⟩
              go_upto_region 32 with (fail)
              have HMc : Hid (MidR w wy ((wl.setCell ⟨gx, 2, none⟩ (.int .i64 (at_ b (z + 2) % 4))).setCell ⟨gx, 5, none⟩ (.int .u64 (longI (at_ b (z + 3))))) gx j D2 cap2 qs #[.int .i64 (at_ b z % 11), .string (userB (at_ b (z + 1))), .int .i64 (at_ b (z + 2) % 4), .int .i64 0, .int .i64 0, .int .u64 (longI (at_ b (z + 3))), .slice none 0 0]) := Lib.hid (HM0.out.touch ((Law.Touch.store wl ⟨gx, 2, none⟩ (.int .i64 (at_ b (z + 2) % 4)) rfl : Law.Touch wl _ (fun k => k = gx)).trans (Law.Touch.store (wl.setCell ⟨gx, 2, none⟩ (.int .i64 (at_ b (z + 2) % 4))) ⟨gx, 5, none⟩ (.int .u64 (longI (at_ b (z + 3)))) rfl : Law.Touch (wl.setCell ⟨gx, 2, none⟩ (.int .i64 (at_ b (z + 2) % 4))) _ (fun k => k = gx)) (fun _ e => .inl e)) ((HM0.out.box.set 2 (.int .i64 (at_ b (z + 2) % 4)) rfl).set 5 (.int .u64 (longI (at_ b (z + 3)))) rfl))
              clear c0 l0 HM0 c2 f2 c5 f5
              generalize ((wl.setCell ⟨gx, 2, none⟩ (.int .i64 (at_ b (z + 2) % 4))).setCell ⟨gx, 5, none⟩ (.int .u64 (longI (at_ b (z + 3))))) = wc at *
              have y0 := HMc.out.box.cell' (i := 0) (v := .int .i64 (at_ b z % 11)) rfl
              have y1 := HMc.out.box.cell' (i := 1) (v := .string (userB (at_ b (z + 1)))) rfl
              have y2 := HMc.out.box.cell' (i := 2) (v := .int .i64 (at_ b (z + 2) % 4)) rfl
              have y3 := HMc.out.box.cell' (i := 3) (v := .int .i64 0) rfl
              have y4 := HMc.out.box.cell' (i := 4) (v := .int .i64 0) rfl
              have y5 := HMc.out.box.cell' (i := 5) (v := .int .u64 (longI (at_ b (z + 3)))) rfl
              have y6 := HMc.out.box.cell' (i := 6) (v := .slice none 0 0) rfl
              have ly := HMc.out.box.lt
              have HNU := Lib.hid ((Lain.nil : Lain 9 wc none []))
              go_wp2_with (at_builtin; refine wpList_append_own _ rfl _ _ 43 rfl wy.heap.size 49 iO (.agg #[.int .i64 0, .string ⟨#[]⟩, .int .i64 0, .int .i64 0, .int .i64 0, .int .u64 0, .slice none 0 0]) 7 80 HEO.out.ut HEO.out.info HEO.out.zero HEO.out.sz HEO.out.by_ HEO.out.cells HEO.out.pos _ _ _ rfl (HMc.out.row.alloc _) ⟨wc.heap.size, 0, none⟩ 1 1 (cellsW ⟨at_ b z % 11, userB (at_ b (z + 1)), at_ b (z + 2) % 4, 0, 0, longI (at_ b (z + 3)), none, 0, []⟩) rfl rfl (new_cells _ _ _ rfl) (seven_one _) (by unfold maxLen; omega) (by omega) (by have := HMc.out.inn.size; simp; omega) ?_; intro v' w6 hown hg6 _; have HW6 := Lib.hid ((HMc.out.inn.alloc HMc.out.inn.size _).grown hg6 (by have := HMc.out.inn.size; simp; omega) (fun k hk => (HMc.out.row.lt k hk).1)); have HK6 := Lib.hid ((Keeps.alloc (t := 9) (w := wc) _).trans (Keeps.grown (HMc.out.row.alloc _) hg6 (by decide))); have HO6 := Lib.hid hown; obtain ⟨D', cap', rfl, _⟩ := own_shape hown; clear hown hg6)
              go_roundw
              case rel => exact ⟨j + 1, D', cap', qs ++ [⟨at_ b z % 11, userB (at_ b (z + 1)), at_ b (z + 2) % 4, 0, 0, longI (at_ b (z + 3)), none, 0, []⟩], by omega, congrArg _ (by rw [HZS.out, HLN.out]; omega), rfl, by go_num, by rw [HZT.out, List.map_append, HQ.out, ← HOP.out]; rfl, by rw [flatW_snoc]; exact HO6.out, fun q' hq' => by
                rcases List.mem_append.1 hq' with h | h
                · exact (HMc.out.us q' h).keeps HK6.out
                · obtain rfl := List.mem_singleton.1 h
                  exact HNU.out.keeps HK6.out, HW6.out⟩
              case measure => simp [RowKit.intOf]; omega
            · skip
              by_cases q3 : at_ b z % 11 = 3
              · have HLN : Hid (opLen b z = 3) := by show _ = _; unfold opLen; rw [if_neg q1]; rw [if_neg q2]; rw [if_pos q3]
                have HOP : Hid (⟨at_ b z % 11, userB (at_ b (z + 1)), at_ b (z + 2) % 4, 0, 0, 0, []⟩ = Law.opAt b z) := by show _ = _; unfold Law.opAt; rw [if_neg q1]; rw [if_neg q2]; rw [if_pos q3]
                have g1 : (at_ b z % 11 == 1) = false := beq_eq_false_iff_ne.2 q1
                have g2 : (at_ b z % 11 == 2) = false := beq_eq_false_iff_ne.2 q2
                have g3 : (at_ b z % 11 == 3) = true := beq_iff_eq.2 q3
                clear q1 q2 q3
                have c0 := HM0.out.box.cell' (i := 0) (v := .int .i64 (at_ b z % 11)) rfl
                have l0 := HM0.out.box.lt
                have c2 := HM0.out.box.cell' (i := 2) (v := .int .i64 0) rfl
                have f2 := HM0.out.box.frozen 2
                go_wp2_with fail
                refine (HAT.out wv HM0.out.all _ (z + 2) (by omega) _ rfl).mono ?_
                rintro e wk0 ⟨rfl, rfl⟩
                go_upto_region 32 with (fail)
                have HMc : Hid (MidR w wy (wk0.setCell ⟨gx, 2, none⟩ (.int .i64 (at_ b (z + 2) % 4))) gx j D2 cap2 qs #[.int .i64 (at_ b z % 11), .string (userB (at_ b (z + 1))), .int .i64 (at_ b (z + 2) % 4), .int .i64 0, .int .i64 0, .int .u64 0, .slice none 0 0]) := Lib.hid (HM0.out.touch (Law.Touch.store wk0 ⟨gx, 2, none⟩ (.int .i64 (at_ b (z + 2) % 4)) rfl : Law.Touch wk0 _ (fun k => k = gx)) (HM0.out.box.set 2 (.int .i64 (at_ b (z + 2) % 4)) rfl))
                clear c0 l0 HM0 c2 f2
                generalize (wk0.setCell ⟨gx, 2, none⟩ (.int .i64 (at_ b (z + 2) % 4))) = wc at *
                have y0 := HMc.out.box.cell' (i := 0) (v := .int .i64 (at_ b z % 11)) rfl
                have y1 := HMc.out.box.cell' (i := 1) (v := .string (userB (at_ b (z + 1)))) rfl
                have y2 := HMc.out.box.cell' (i := 2) (v := .int .i64 (at_ b (z + 2) % 4)) rfl
                have y3 := HMc.out.box.cell' (i := 3) (v := .int .i64 0) rfl
                have y4 := HMc.out.box.cell' (i := 4) (v := .int .i64 0) rfl
                have y5 := HMc.out.box.cell' (i := 5) (v := .int .u64 0) rfl
                have y6 := HMc.out.box.cell' (i := 6) (v := .slice none 0 0) rfl
                have ly := HMc.out.box.lt
                have HNU := Lib.hid ((Lain.nil : Lain 9 wc none []))
                go_wp2_with (at_builtin; refine wpList_append_own _ rfl _ _ 43 rfl wy.heap.size 49 iO (.agg #[.int .i64 0, .string ⟨#[]⟩, .int .i64 0, .int .i64 0, .int .i64 0, .int .u64 0, .slice none 0 0]) 7 80 HEO.out.ut HEO.out.info HEO.out.zero HEO.out.sz HEO.out.by_ HEO.out.cells HEO.out.pos _ _ _ rfl (HMc.out.row.alloc _) ⟨wc.heap.size, 0, none⟩ 1 1 (cellsW ⟨at_ b z % 11, userB (at_ b (z + 1)), at_ b (z + 2) % 4, 0, 0, 0, none, 0, []⟩) rfl rfl (new_cells _ _ _ rfl) (seven_one _) (by unfold maxLen; omega) (by omega) (by have := HMc.out.inn.size; simp; omega) ?_; intro v' w6 hown hg6 _; have HW6 := Lib.hid ((HMc.out.inn.alloc HMc.out.inn.size _).grown hg6 (by have := HMc.out.inn.size; simp; omega) (fun k hk => (HMc.out.row.lt k hk).1)); have HK6 := Lib.hid ((Keeps.alloc (t := 9) (w := wc) _).trans (Keeps.grown (HMc.out.row.alloc _) hg6 (by decide))); have HO6 := Lib.hid hown; obtain ⟨D', cap', rfl, _⟩ := own_shape hown; clear hown hg6)
                go_roundw
                case rel => exact ⟨j + 1, D', cap', qs ++ [⟨at_ b z % 11, userB (at_ b (z + 1)), at_ b (z + 2) % 4, 0, 0, 0, none, 0, []⟩], by omega, congrArg _ (by rw [HZS.out, HLN.out]; omega), rfl, by go_num, by rw [HZT.out, List.map_append, HQ.out, ← HOP.out]; rfl, by rw [flatW_snoc]; exact HO6.out, fun q' hq' => by
                  rcases List.mem_append.1 hq' with h | h
                  · exact (HMc.out.us q' h).keeps HK6.out
                  · obtain rfl := List.mem_singleton.1 h
                    exact HNU.out.keeps HK6.out, HW6.out⟩
                case measure => simp [RowKit.intOf]; omega
              · skip
                by_cases q5 : at_ b z % 11 = 5
                · obtain ⟨nu, hnu⟩ : ∃ nu, (at_ b (z + 2) % 10).toNat = nu := ⟨_, rfl⟩
                  have HLN : Hid (opLen b z = 3 + nu) := by show _ = _; unfold opLen; rw [if_neg q1]; rw [if_neg q2]; rw [if_neg q3]; rw [if_pos q5, hnu]
                  have HOP : Hid (⟨at_ b z % 11, userB (at_ b (z + 1)), 0, 0, 0, 0, usersAt b (z + 3) nu⟩ = Law.opAt b z) := by show _ = _; unfold Law.opAt; rw [if_neg q1]; rw [if_neg q2]; rw [if_neg q3]; rw [if_pos q5, hnu]
                  have g1 : (at_ b z % 11 == 1) = false := beq_eq_false_iff_ne.2 q1
                  have g2 : (at_ b z % 11 == 2) = false := beq_eq_false_iff_ne.2 q2
                  have g3 : (at_ b z % 11 == 3) = false := beq_eq_false_iff_ne.2 q3
                  have g5 : (at_ b z % 11 == 5) = true := beq_iff_eq.2 q5
                  clear q1 q2 q3 q5
                  have c0 := HM0.out.box.cell' (i := 0) (v := .int .i64 (at_ b z % 11)) rfl
                  have l0 := HM0.out.box.lt
                  have hu10 : (at_ b (z + 2)).tmod 10 = (nu : Int) := by rw [rem_pos z2.1]; omega
                  have hnu9 : nu ≤ 9 := by omega
                  clear hnu k210
                  go_wp2_with fail
                  refine (HAT.out wv HM0.out.all _ (z + 2) (by omega) _ rfl).mono ?_
                  rintro e wk0 ⟨rfl, rfl⟩
                  go_wp2_with fail
                  go_loopw [4, 11] (fun s4 s11 wx => ∃ (u : Nat) (D3 : Option Addr) (cap3 : Nat), u ≤ nu ∧ s4 = .int .i64 ((z + 3 + u : Nat) : Int) ∧ s11 = .int .i64 ((u : Nat) : Int) ∧ Is wx gx 49 #[.int .i64 (at_ b z % 11), .string (userB (at_ b (z + 1))), .int .i64 0, .int .i64 0, .int .i64 0, .int .u64 0, .slice D3 u cap3] ∧ wx.ownsRow wk0.heap.size 9 1 (.slice D3 u cap3) u ((usersAt b (z + 3) u).map .string) ∧ Law.Touch wk0 wx (fun k => k = gx)) (fun _ s11 _ => nu - (RowKit.intOf s11).toNat)
                  case atStart => exact ⟨0, none, 0, Nat.zero_le _, congrArg _ (by omega), rfl, HM0.out.box, own_nil _ _ _ _, Law.Touch.refl _ _⟩
                  case round =>
                    clear c0 l0
                    obtain ⟨u, D3, cap3, hu, rfl, rfl, hx3, ho3, ht3⟩ := hrel
                    have HX0 := Lib.hid hx3
                    have HO0 := Lib.hid ho3
                    have HT0 := Lib.hid ht3
                    clear hx3 ho3 ht3
                    have lgx := HM0.out.box.lt
                    by_cases hlu : u < nu
                    · have d3 : decide (((u : Nat) : Int) < ((nu : Nat) : Int)) = true := decide_eq_true (by omega)
                      have zu := HBY.out.at (z + 3 + u)
                      have HUS := Lib.hid (usersAt_snoc b (z + 3) u)
                      go_wp2_with fail
                      refine wp_region_held_drew (S := fun _ => True) (by kernel_rfl) trivial (fun hS0 => ?_)
                      refine wpAnyH_take (i := 0) (oi := { dst := some 136, op := .fieldAddr 49 (.tmp 9) 6, type := _, pos := _, after := _, guard := _ }) (v := .pointer (some ⟨gx, 6, none⟩)) rfl (by kernel_rfl) (by kernel_rfl) (by kernel_rfl) (fun _ _ _ h => h) (Or.inl ⟨by rfl, ?_⟩) hS0 ?_
                      · intro w' hSw
                        go_simp
                      try simp only [Act.put, List.setIfInBounds_toArray, List.set_cons_zero, List.set_cons_succ]
                      refine wpAnyH_take (i := 2) (oi := { dst := some 138, op := .move (.tmp 0), type := _, pos := _, after := _, guard := _ }) (v := .slice A b.length c) rfl (by kernel_rfl) (by kernel_rfl) (by kernel_rfl) (fun _ _ _ h => h) (Or.inl ⟨by rfl, ?_⟩) hS0 ?_
                      · intro w' hSw
                        go_simp
                      try simp only [Act.put, List.setIfInBounds_toArray, List.set_cons_zero, List.set_cons_succ]
                      refine wpAnyH_take (i := 3) (oi := { dst := some 139, op := .move (.tmp 4), type := _, pos := _, after := _, guard := _ }) (v := .int .i64 ((z + 3 + u : Nat) : Int)) rfl (by kernel_rfl) (by kernel_rfl) (by kernel_rfl) (fun _ _ _ h => h) (Or.inl ⟨by rfl, ?_⟩) hS0 ?_
                      · intro w' hSw
                        go_simp
                      try simp only [Act.put, List.setIfInBounds_toArray, List.set_cons_zero, List.set_cons_succ]
                      have bd := Law.below_drewN (Below.refl wr.heap.size wr) 1
                      have HXa : Hid (Is wr.drew gx 49 #[.int .i64 (at_ b z % 11), .string (userB (at_ b (z + 1))), .int .i64 0, .int .i64 0, .int .i64 0, .int .u64 0, .slice D3 u cap3]) := HX0.out.drewN 1
                      have HOa : Hid (wr.drew.ownsRow wk0.heap.size 9 1 (.slice D3 u cap3) u ((usersAt b (z + 3) u).map .string)) := Lib.hid (own_below HO0.out bd)
                      have HTa : Hid (Law.Touch wk0 wr.drew (fun k => k = gx)) := Lib.hid (HT0.out.trans (Law.Touch.drewN wr 1 (fun _ => False)) (fun _ e => e.elim))
                      have HAa : Hid (Below w.heap.size w wr.drew) := Lib.hid (HTa.out.below HM0.out.all (fun k e => by rw [e]; exact HM0.out.gew) HM0.out.all.size)
                      clear bd
                      generalize wr.drew = w4 at *
                      refine wpAnyH_ready (rs := [1, 4]) (by kernel_rfl) (by simp) ?_
                      refine AllReadyH.cons (o := { dst := some 137, op := .load 47 (.tmp 136), type := _, pos := _, after := _, guard := _ }) rfl (fun K hK => ?_) ?_
                      · have cl := HXa.out.cell' (i := 6) (v := .slice D3 u cap3) rfl
                        have ll := HXa.out.lt
                        go_simp
                        refine hK.out _ _ trivial (fun _ => ?_)
                        clear hK K cl ll
                        try simp only [Act.put, List.setIfInBounds_toArray, List.set_cons_zero, List.set_cons_succ]
                        refine wpAnyH_ready (rs := [4]) (by kernel_rfl) (by simp) ?_
                        refine AllReadyH.cons (o := { dst := some 140, op := .call { callee := .value (.func 23), args := #[.tmp 138, .tmp 139], argTypes := _ }, type := _, pos := _, after := _, guard := _ }) rfl (fun K hK => ?_) AllReadyH.nil
                        go_simp
                        refine Calls.mono (HAT.out w4 HAa.out _ (z + 3 + u) rfl _ rfl) ?_
                        rintro e v1 ⟨rfl, hv⟩
                        subst hv
                        go_wp2_with fail
                        refine hK.out _ _ trivial (fun _ => ?_)
                        clear hK K
                        try simp only [Act.put, List.setIfInBounds_toArray, List.set_cons_zero, List.set_cons_succ]
                        refine wpAnyH_ready (rs := [5]) (by kernel_rfl) (by simp) ?_
                        refine AllReadyH.cons (o := { dst := some 141, op := .call { callee := .value (.func 16), args := #[.tmp 140], argTypes := _ }, type := _, pos := _, after := _, guard := _ }) rfl (fun K hK => ?_) AllReadyH.nil
                        go_simp
                        refine Calls.mono (rUser _ zu v1 rfl) ?_
                        rintro e u2 ⟨rfl, bx⟩
                        have HXn2 := Lib.hid (HXa.out.below bx HXa.out.lt)
                        have HOn2 := Lib.hid (own_below HOa.out bx)
                        have HTn2 := Lib.hid (HTa.out.trans (Law.Touch.of_below bx (fun _ => False)) (fun _ e => e.elim))
                        clear bx
                        go_wp2_with fail
                        refine hK.out _ _ trivial (fun _ => ?_)
                        clear hK K
                        try simp only [Act.put, List.setIfInBounds_toArray, List.set_cons_zero, List.set_cons_succ]
                        refine wpAnyH_ready (rs := [6]) (by kernel_rfl) (by simp) ?_
                        refine AllReadyH.cons (o := { dst := some 142, op := .buildSlice 47 1 #[(0, .tmp 141)], type := _, pos := _, after := _, guard := _ }) rfl (fun K hK => ?_) AllReadyH.nil
                        go_simp
                        have bx := (Below.refl u2.heap.size u2).alloc (Nat.le_refl _) (.cells #[.string (userB (at_ b (z + 3 + u)))] 9)
                        have HXn3 := Lib.hid (HXn2.out.below bx HXn2.out.lt)
                        have HOn3 := Lib.hid (own_below HOn2.out bx)
                        have HTn3 := Lib.hid (HTn2.out.trans (Law.Touch.of_below bx (fun _ => False)) (fun _ e => e.elim))
                        have HNn3 := Lib.hid (Is.new u2 9 #[.string (userB (at_ b (z + 3 + u)))] rfl)
                        have hgn3 : u2.heap.size < (u2.alloc (.cells #[.string (userB (at_ b (z + 3 + u)))] 9)).heap.size := by simp
                        clear bx
                        refine hK.out _ _ trivial (fun _ => ?_)
                        clear hK K
                        try simp only [Act.put, List.setIfInBounds_toArray, List.set_cons_zero, List.set_cons_succ]
                        generalize u2.alloc (.cells #[.string (userB (at_ b (z + 3 + u)))] 9) = x3 at *
                        generalize u2.heap.size = g3 at *
                        refine wpAnyH_ready (rs := [7]) (by kernel_rfl) (by simp) ?_
                        refine AllReadyH.cons (o := { dst := some 143, op := .call { callee := .builtin .append, args := #[.tmp 137, .tmp 142], argTypes := #[47, 47] }, type := _, pos := _, after := _, guard := _ }) rfl (fun K hK => ?_) AllReadyH.nil
                        refine Law.step_append_seq _ wk0.heap.size 47 rfl (.tmp 137) (.tmp 142) rfl HES.out (.slice D3 u cap3) u ((usersAt b (z + 3) u).map .string) (by simp [Act.eval]) (by exact HOn3.out) 0 x3.heap.size (some ⟨g3, 0, none⟩) 1 1 [.string (userB (at_ b (z + 3 + u)))] (by simp [Act.eval]) rfl (Lain.is HNn3.out rfl).seq (one_strv _) (by unfold maxLen; omega) (by omega) (by exact HTn3.out.size) ?_
                        intro v4 y4 own grow
                        have HXm4 := Lib.hid (HXn3.out.grown grow (fun e => by have := (HOn3.out.lt gx e).1; omega))
                        have HTm4 := Lib.hid (HTn3.out.trans (T' := fun k => Value.ownBlock (.slice D3 u cap3) = some k) (Law.Touch.grown grow fun _ e => e) (fun k e => .inr (HOn3.out.lt k e).1))
                        have HOm4 := Lib.hid own
                        obtain ⟨A4, k4, rfl, _⟩ := own_shape own
                        clear own grow
                        refine hK.out _ _ trivial (fun hSy => ?_)
                        clear hK K
                        try simp only [Act.put, List.setIfInBounds_toArray, List.set_cons_zero, List.set_cons_succ]
                        refine wpAnyH_take (i := 8) (oi := { dst := some 144, op := .fieldAddr 49 (.tmp 9) 6, type := _, pos := _, after := _, guard := _ }) (v := .pointer (some ⟨gx, 6, none⟩)) rfl (by kernel_rfl) (by kernel_rfl) (by kernel_rfl) (fun _ _ _ h => h) (Or.inl ⟨by rfl, ?_⟩) hSy ?_
                        · intro w' hSw
                          go_simp
                        try simp only [Act.put, List.setIfInBounds_toArray, List.set_cons_zero, List.set_cons_succ]
                        have c6 := HXm4.out.cell' (i := 6) (v := .slice D3 u cap3) rfl
                        have f6 := HXm4.out.frozen 6
                        have l6 := HXm4.out.lt
                        have st : Law.Touch y4 (y4.setCell ⟨gx, 6, none⟩ (.slice A4 (u + 1) k4)) (fun k => k = gx) := Law.Touch.store _ _ _ rfl
                        have HXs := Lib.hid (HXm4.out.set 6 (.slice A4 (u + 1) k4) rfl)
                        have HTs := Lib.hid (HTm4.out.trans st (fun _ e => .inl e))
                        have HOs := Lib.hid (st.own HOm4.out (fun k e => by have := (HOm4.out.lt k e).1; omega))
                        clear st
                        refine wpAnyH_ready (rs := [9]) (by kernel_rfl) (by simp) ?_
                        refine AllReadyH.cons (o := { dst := none, op := .store 47 (.tmp 144) (.tmp 143), type := _, pos := _, after := _, guard := _ }) rfl (fun K hK => ?_) AllReadyH.nil
                        go_simp
                        refine hK.out _ _ trivial (fun hSz => ?_)
                        clear hK K
                        try simp only [Act.put, List.setIfInBounds_toArray, List.set_cons_zero, List.set_cons_succ]
                        clear c6 f6 l6
                        refine wpAnyH_done (by kernel_rfl) ?_ _
                        generalize y4.setCell ⟨gx, 6, none⟩ (.slice A4 (u + 1) k4) = wz at *
                        go_wp2_with fail
                        go_roundw
                        case rel => exact ⟨u + 1, A4, k4, by omega, congrArg _ (by omega), by go_num, HXs.out, by rw [HUS.out, List.map_append]; exact HOs.out, HTs.out⟩
                        case measure => simp [RowKit.intOf]; omega
                      · refine AllReadyH.cons (o := { dst := some 140, op := .call { callee := .value (.func 23), args := #[.tmp 138, .tmp 139], argTypes := _ }, type := _, pos := _, after := _, guard := _ }) rfl (fun K hK => ?_) AllReadyH.nil
                        go_simp
                        refine Calls.mono (HAT.out w4 HAa.out _ (z + 3 + u) rfl _ rfl) ?_
                        rintro e v5 ⟨rfl, hv⟩
                        subst hv
                        go_wp2_with fail
                        refine hK.out _ _ trivial (fun _ => ?_)
                        clear hK K
                        try simp only [Act.put, List.setIfInBounds_toArray, List.set_cons_zero, List.set_cons_succ]
                        refine wpAnyH_ready (rs := [1, 5]) (by kernel_rfl) (by simp) ?_
                        refine AllReadyH.cons (o := { dst := some 137, op := .load 47 (.tmp 136), type := _, pos := _, after := _, guard := _ }) rfl (fun K hK => ?_) ?_
                        · have cl := HXa.out.cell' (i := 6) (v := .slice D3 u cap3) rfl
                          have ll := HXa.out.lt
                          go_simp
                          refine hK.out _ _ trivial (fun _ => ?_)
                          clear hK K cl ll
                          try simp only [Act.put, List.setIfInBounds_toArray, List.set_cons_zero, List.set_cons_succ]
                          refine wpAnyH_ready (rs := [5]) (by kernel_rfl) (by simp) ?_
                          refine AllReadyH.cons (o := { dst := some 141, op := .call { callee := .value (.func 16), args := #[.tmp 140], argTypes := _ }, type := _, pos := _, after := _, guard := _ }) rfl (fun K hK => ?_) AllReadyH.nil
                          go_simp
                          refine Calls.mono (rUser _ zu v5 rfl) ?_
                          rintro e u6 ⟨rfl, bx⟩
                          have HXn6 := Lib.hid (HXa.out.below bx HXa.out.lt)
                          have HOn6 := Lib.hid (own_below HOa.out bx)
                          have HTn6 := Lib.hid (HTa.out.trans (Law.Touch.of_below bx (fun _ => False)) (fun _ e => e.elim))
                          clear bx
                          go_wp2_with fail
                          refine hK.out _ _ trivial (fun _ => ?_)
                          clear hK K
                          try simp only [Act.put, List.setIfInBounds_toArray, List.set_cons_zero, List.set_cons_succ]
                          refine wpAnyH_ready (rs := [6]) (by kernel_rfl) (by simp) ?_
                          refine AllReadyH.cons (o := { dst := some 142, op := .buildSlice 47 1 #[(0, .tmp 141)], type := _, pos := _, after := _, guard := _ }) rfl (fun K hK => ?_) AllReadyH.nil
                          go_simp
                          have bx := (Below.refl u6.heap.size u6).alloc (Nat.le_refl _) (.cells #[.string (userB (at_ b (z + 3 + u)))] 9)
                          have HXn7 := Lib.hid (HXn6.out.below bx HXn6.out.lt)
                          have HOn7 := Lib.hid (own_below HOn6.out bx)
                          have HTn7 := Lib.hid (HTn6.out.trans (Law.Touch.of_below bx (fun _ => False)) (fun _ e => e.elim))
                          have HNn7 := Lib.hid (Is.new u6 9 #[.string (userB (at_ b (z + 3 + u)))] rfl)
                          have hgn7 : u6.heap.size < (u6.alloc (.cells #[.string (userB (at_ b (z + 3 + u)))] 9)).heap.size := by simp
                          clear bx
                          refine hK.out _ _ trivial (fun _ => ?_)
                          clear hK K
                          try simp only [Act.put, List.setIfInBounds_toArray, List.set_cons_zero, List.set_cons_succ]
                          generalize u6.alloc (.cells #[.string (userB (at_ b (z + 3 + u)))] 9) = x7 at *
                          generalize u6.heap.size = g7 at *
                          refine wpAnyH_ready (rs := [7]) (by kernel_rfl) (by simp) ?_
                          refine AllReadyH.cons (o := { dst := some 143, op := .call { callee := .builtin .append, args := #[.tmp 137, .tmp 142], argTypes := #[47, 47] }, type := _, pos := _, after := _, guard := _ }) rfl (fun K hK => ?_) AllReadyH.nil
                          refine Law.step_append_seq _ wk0.heap.size 47 rfl (.tmp 137) (.tmp 142) rfl HES.out (.slice D3 u cap3) u ((usersAt b (z + 3) u).map .string) (by simp [Act.eval]) (by exact HOn7.out) 0 x7.heap.size (some ⟨g7, 0, none⟩) 1 1 [.string (userB (at_ b (z + 3 + u)))] (by simp [Act.eval]) rfl (Lain.is HNn7.out rfl).seq (one_strv _) (by unfold maxLen; omega) (by omega) (by exact HTn7.out.size) ?_
                          intro v8 y8 own grow
                          have HXm8 := Lib.hid (HXn7.out.grown grow (fun e => by have := (HOn7.out.lt gx e).1; omega))
                          have HTm8 := Lib.hid (HTn7.out.trans (T' := fun k => Value.ownBlock (.slice D3 u cap3) = some k) (Law.Touch.grown grow fun _ e => e) (fun k e => .inr (HOn7.out.lt k e).1))
                          have HOm8 := Lib.hid own
                          obtain ⟨A8, k8, rfl, _⟩ := own_shape own
                          clear own grow
                          refine hK.out _ _ trivial (fun hSy => ?_)
                          clear hK K
                          try simp only [Act.put, List.setIfInBounds_toArray, List.set_cons_zero, List.set_cons_succ]
                          refine wpAnyH_take (i := 8) (oi := { dst := some 144, op := .fieldAddr 49 (.tmp 9) 6, type := _, pos := _, after := _, guard := _ }) (v := .pointer (some ⟨gx, 6, none⟩)) rfl (by kernel_rfl) (by kernel_rfl) (by kernel_rfl) (fun _ _ _ h => h) (Or.inl ⟨by rfl, ?_⟩) hSy ?_
                          · intro w' hSw
                            go_simp
                          try simp only [Act.put, List.setIfInBounds_toArray, List.set_cons_zero, List.set_cons_succ]
                          have c6 := HXm8.out.cell' (i := 6) (v := .slice D3 u cap3) rfl
                          have f6 := HXm8.out.frozen 6
                          have l6 := HXm8.out.lt
                          have st : Law.Touch y8 (y8.setCell ⟨gx, 6, none⟩ (.slice A8 (u + 1) k8)) (fun k => k = gx) := Law.Touch.store _ _ _ rfl
                          have HXs := Lib.hid (HXm8.out.set 6 (.slice A8 (u + 1) k8) rfl)
                          have HTs := Lib.hid (HTm8.out.trans st (fun _ e => .inl e))
                          have HOs := Lib.hid (st.own HOm8.out (fun k e => by have := (HOm8.out.lt k e).1; omega))
                          clear st
                          refine wpAnyH_ready (rs := [9]) (by kernel_rfl) (by simp) ?_
                          refine AllReadyH.cons (o := { dst := none, op := .store 47 (.tmp 144) (.tmp 143), type := _, pos := _, after := _, guard := _ }) rfl (fun K hK => ?_) AllReadyH.nil
                          go_simp
                          refine hK.out _ _ trivial (fun hSz => ?_)
                          clear hK K
                          try simp only [Act.put, List.setIfInBounds_toArray, List.set_cons_zero, List.set_cons_succ]
                          clear c6 f6 l6
                          refine wpAnyH_done (by kernel_rfl) ?_ _
                          generalize y8.setCell ⟨gx, 6, none⟩ (.slice A8 (u + 1) k8) = wz at *
                          go_wp2_with fail
                          go_roundw
                          case rel => exact ⟨u + 1, A8, k8, by omega, congrArg _ (by omega), by go_num, HXs.out, by rw [HUS.out, List.map_append]; exact HOs.out, HTs.out⟩
                          case measure => simp [RowKit.intOf]; omega
                        · refine AllReadyH.cons (o := { dst := some 141, op := .call { callee := .value (.func 16), args := #[.tmp 140], argTypes := _ }, type := _, pos := _, after := _, guard := _ }) rfl (fun K hK => ?_) AllReadyH.nil
                          go_simp
                          refine Calls.mono (rUser _ zu v5 rfl) ?_
                          rintro e u9 ⟨rfl, bx⟩
                          have HXn9 := Lib.hid (HXa.out.below bx HXa.out.lt)
                          have HOn9 := Lib.hid (own_below HOa.out bx)
                          have HTn9 := Lib.hid (HTa.out.trans (Law.Touch.of_below bx (fun _ => False)) (fun _ e => e.elim))
                          clear bx
                          go_wp2_with fail
                          refine hK.out _ _ trivial (fun _ => ?_)
                          clear hK K
                          try simp only [Act.put, List.setIfInBounds_toArray, List.set_cons_zero, List.set_cons_succ]
                          refine wpAnyH_ready (rs := [1, 6]) (by kernel_rfl) (by simp) ?_
                          refine AllReadyH.cons (o := { dst := some 137, op := .load 47 (.tmp 136), type := _, pos := _, after := _, guard := _ }) rfl (fun K hK => ?_) ?_
                          · have cl := HXn9.out.cell' (i := 6) (v := .slice D3 u cap3) rfl
                            have ll := HXn9.out.lt
                            go_simp
                            refine hK.out _ _ trivial (fun _ => ?_)
                            clear hK K cl ll
                            try simp only [Act.put, List.setIfInBounds_toArray, List.set_cons_zero, List.set_cons_succ]
                            refine wpAnyH_ready (rs := [6]) (by kernel_rfl) (by simp) ?_
                            refine AllReadyH.cons (o := { dst := some 142, op := .buildSlice 47 1 #[(0, .tmp 141)], type := _, pos := _, after := _, guard := _ }) rfl (fun K hK => ?_) AllReadyH.nil
                            go_simp
                            have bx := (Below.refl u9.heap.size u9).alloc (Nat.le_refl _) (.cells #[.string (userB (at_ b (z + 3 + u)))] 9)
                            have HXn10 := Lib.hid (HXn9.out.below bx HXn9.out.lt)
                            have HOn10 := Lib.hid (own_below HOn9.out bx)
                            have HTn10 := Lib.hid (HTn9.out.trans (Law.Touch.of_below bx (fun _ => False)) (fun _ e => e.elim))
                            have HNn10 := Lib.hid (Is.new u9 9 #[.string (userB (at_ b (z + 3 + u)))] rfl)
                            have hgn10 : u9.heap.size < (u9.alloc (.cells #[.string (userB (at_ b (z + 3 + u)))] 9)).heap.size := by simp
                            clear bx
                            refine hK.out _ _ trivial (fun _ => ?_)
                            clear hK K
                            try simp only [Act.put, List.setIfInBounds_toArray, List.set_cons_zero, List.set_cons_succ]
                            generalize u9.alloc (.cells #[.string (userB (at_ b (z + 3 + u)))] 9) = x10 at *
                            generalize u9.heap.size = g10 at *
                            refine wpAnyH_ready (rs := [7]) (by kernel_rfl) (by simp) ?_
                            refine AllReadyH.cons (o := { dst := some 143, op := .call { callee := .builtin .append, args := #[.tmp 137, .tmp 142], argTypes := #[47, 47] }, type := _, pos := _, after := _, guard := _ }) rfl (fun K hK => ?_) AllReadyH.nil
                            refine Law.step_append_seq _ wk0.heap.size 47 rfl (.tmp 137) (.tmp 142) rfl HES.out (.slice D3 u cap3) u ((usersAt b (z + 3) u).map .string) (by simp [Act.eval]) (by exact HOn10.out) 0 x10.heap.size (some ⟨g10, 0, none⟩) 1 1 [.string (userB (at_ b (z + 3 + u)))] (by simp [Act.eval]) rfl (Lain.is HNn10.out rfl).seq (one_strv _) (by unfold maxLen; omega) (by omega) (by exact HTn10.out.size) ?_
                            intro v11 y11 own grow
                            have HXm11 := Lib.hid (HXn10.out.grown grow (fun e => by have := (HOn10.out.lt gx e).1; omega))
                            have HTm11 := Lib.hid (HTn10.out.trans (T' := fun k => Value.ownBlock (.slice D3 u cap3) = some k) (Law.Touch.grown grow fun _ e => e) (fun k e => .inr (HOn10.out.lt k e).1))
                            have HOm11 := Lib.hid own
                            obtain ⟨A11, k11, rfl, _⟩ := own_shape own
                            clear own grow
                            refine hK.out _ _ trivial (fun hSy => ?_)
                            clear hK K
                            try simp only [Act.put, List.setIfInBounds_toArray, List.set_cons_zero, List.set_cons_succ]
                            refine wpAnyH_take (i := 8) (oi := { dst := some 144, op := .fieldAddr 49 (.tmp 9) 6, type := _, pos := _, after := _, guard := _ }) (v := .pointer (some ⟨gx, 6, none⟩)) rfl (by kernel_rfl) (by kernel_rfl) (by kernel_rfl) (fun _ _ _ h => h) (Or.inl ⟨by rfl, ?_⟩) hSy ?_
                            · intro w' hSw
                              go_simp
                            try simp only [Act.put, List.setIfInBounds_toArray, List.set_cons_zero, List.set_cons_succ]
                            have c6 := HXm11.out.cell' (i := 6) (v := .slice D3 u cap3) rfl
                            have f6 := HXm11.out.frozen 6
                            have l6 := HXm11.out.lt
                            have st : Law.Touch y11 (y11.setCell ⟨gx, 6, none⟩ (.slice A11 (u + 1) k11)) (fun k => k = gx) := Law.Touch.store _ _ _ rfl
                            have HXs := Lib.hid (HXm11.out.set 6 (.slice A11 (u + 1) k11) rfl)
                            have HTs := Lib.hid (HTm11.out.trans st (fun _ e => .inl e))
                            have HOs := Lib.hid (st.own HOm11.out (fun k e => by have := (HOm11.out.lt k e).1; omega))
                            clear st
                            refine wpAnyH_ready (rs := [9]) (by kernel_rfl) (by simp) ?_
                            refine AllReadyH.cons (o := { dst := none, op := .store 47 (.tmp 144) (.tmp 143), type := _, pos := _, after := _, guard := _ }) rfl (fun K hK => ?_) AllReadyH.nil
                            go_simp
                            refine hK.out _ _ trivial (fun hSz => ?_)
                            clear hK K
                            try simp only [Act.put, List.setIfInBounds_toArray, List.set_cons_zero, List.set_cons_succ]
                            clear c6 f6 l6
                            refine wpAnyH_done (by kernel_rfl) ?_ _
                            generalize y11.setCell ⟨gx, 6, none⟩ (.slice A11 (u + 1) k11) = wz at *
                            go_wp2_with fail
                            go_roundw
                            case rel => exact ⟨u + 1, A11, k11, by omega, congrArg _ (by omega), by go_num, HXs.out, by rw [HUS.out, List.map_append]; exact HOs.out, HTs.out⟩
                            case measure => simp [RowKit.intOf]; omega
                          · refine AllReadyH.cons (o := { dst := some 142, op := .buildSlice 47 1 #[(0, .tmp 141)], type := _, pos := _, after := _, guard := _ }) rfl (fun K hK => ?_) AllReadyH.nil
                            go_simp
                            have bx := (Below.refl u9.heap.size u9).alloc (Nat.le_refl _) (.cells #[.string (userB (at_ b (z + 3 + u)))] 9)
                            have HXn12 := Lib.hid (HXn9.out.below bx HXn9.out.lt)
                            have HOn12 := Lib.hid (own_below HOn9.out bx)
                            have HTn12 := Lib.hid (HTn9.out.trans (Law.Touch.of_below bx (fun _ => False)) (fun _ e => e.elim))
                            have HNn12 := Lib.hid (Is.new u9 9 #[.string (userB (at_ b (z + 3 + u)))] rfl)
                            have hgn12 : u9.heap.size < (u9.alloc (.cells #[.string (userB (at_ b (z + 3 + u)))] 9)).heap.size := by simp
                            clear bx
                            refine hK.out _ _ trivial (fun _ => ?_)
                            clear hK K
                            try simp only [Act.put, List.setIfInBounds_toArray, List.set_cons_zero, List.set_cons_succ]
                            generalize u9.alloc (.cells #[.string (userB (at_ b (z + 3 + u)))] 9) = x12 at *
                            generalize u9.heap.size = g12 at *
                            refine wpAnyH_ready (rs := [1]) (by kernel_rfl) (by simp) ?_
                            refine AllReadyH.cons (o := { dst := some 137, op := .load 47 (.tmp 136), type := _, pos := _, after := _, guard := _ }) rfl (fun K hK => ?_) AllReadyH.nil
                            have cl := HXn12.out.cell' (i := 6) (v := .slice D3 u cap3) rfl
                            have ll := HXn12.out.lt
                            go_simp
                            refine hK.out _ _ trivial (fun _ => ?_)
                            clear hK K cl ll
                            try simp only [Act.put, List.setIfInBounds_toArray, List.set_cons_zero, List.set_cons_succ]
                            refine wpAnyH_ready (rs := [7]) (by kernel_rfl) (by simp) ?_
                            refine AllReadyH.cons (o := { dst := some 143, op := .call { callee := .builtin .append, args := #[.tmp 137, .tmp 142], argTypes := #[47, 47] }, type := _, pos := _, after := _, guard := _ }) rfl (fun K hK => ?_) AllReadyH.nil
                            refine Law.step_append_seq _ wk0.heap.size 47 rfl (.tmp 137) (.tmp 142) rfl HES.out (.slice D3 u cap3) u ((usersAt b (z + 3) u).map .string) (by simp [Act.eval]) (by exact HOn12.out) 0 x12.heap.size (some ⟨g12, 0, none⟩) 1 1 [.string (userB (at_ b (z + 3 + u)))] (by simp [Act.eval]) rfl (Lain.is HNn12.out rfl).seq (one_strv _) (by unfold maxLen; omega) (by omega) (by exact HTn12.out.size) ?_
                            intro v13 y13 own grow
                            have HXm13 := Lib.hid (HXn12.out.grown grow (fun e => by have := (HOn12.out.lt gx e).1; omega))
                            have HTm13 := Lib.hid (HTn12.out.trans (T' := fun k => Value.ownBlock (.slice D3 u cap3) = some k) (Law.Touch.grown grow fun _ e => e) (fun k e => .inr (HOn12.out.lt k e).1))
                            have HOm13 := Lib.hid own
                            obtain ⟨A13, k13, rfl, _⟩ := own_shape own
                            clear own grow
                            refine hK.out _ _ trivial (fun hSy => ?_)
                            clear hK K
                            try simp only [Act.put, List.setIfInBounds_toArray, List.set_cons_zero, List.set_cons_succ]
                            refine wpAnyH_take (i := 8) (oi := { dst := some 144, op := .fieldAddr 49 (.tmp 9) 6, type := _, pos := _, after := _, guard := _ }) (v := .pointer (some ⟨gx, 6, none⟩)) rfl (by kernel_rfl) (by kernel_rfl) (by kernel_rfl) (fun _ _ _ h => h) (Or.inl ⟨by rfl, ?_⟩) hSy ?_
                            · intro w' hSw
                              go_simp
                            try simp only [Act.put, List.setIfInBounds_toArray, List.set_cons_zero, List.set_cons_succ]
                            have c6 := HXm13.out.cell' (i := 6) (v := .slice D3 u cap3) rfl
                            have f6 := HXm13.out.frozen 6
                            have l6 := HXm13.out.lt
                            have st : Law.Touch y13 (y13.setCell ⟨gx, 6, none⟩ (.slice A13 (u + 1) k13)) (fun k => k = gx) := Law.Touch.store _ _ _ rfl
                            have HXs := Lib.hid (HXm13.out.set 6 (.slice A13 (u + 1) k13) rfl)
                            have HTs := Lib.hid (HTm13.out.trans st (fun _ e => .inl e))
                            have HOs := Lib.hid (st.own HOm13.out (fun k e => by have := (HOm13.out.lt k e).1; omega))
                            clear st
                            refine wpAnyH_ready (rs := [9]) (by kernel_rfl) (by simp) ?_
                            refine AllReadyH.cons (o := { dst := none, op := .store 47 (.tmp 144) (.tmp 143), type := _, pos := _, after := _, guard := _ }) rfl (fun K hK => ?_) AllReadyH.nil
                            go_simp
                            refine hK.out _ _ trivial (fun hSz => ?_)
                            clear hK K
                            try simp only [Act.put, List.setIfInBounds_toArray, List.set_cons_zero, List.set_cons_succ]
                            clear c6 f6 l6
                            refine wpAnyH_done (by kernel_rfl) ?_ _
                            generalize y13.setCell ⟨gx, 6, none⟩ (.slice A13 (u + 1) k13) = wz at *
                            go_wp2_with fail
                            go_roundw
                            case rel => exact ⟨u + 1, A13, k13, by omega, congrArg _ (by omega), by go_num, HXs.out, by rw [HUS.out, List.map_append]; exact HOs.out, HTs.out⟩
                            case measure => simp [RowKit.intOf]; omega
                    · obtain rfl : u = nu := by omega
                      have d3 : decide (((u : Nat) : Int) < ((u : Nat) : Int)) = false := by simp
                      have HMc : Hid (MidR w wy wr gx j D2 cap2 qs #[.int .i64 (at_ b z % 11), .string (userB (at_ b (z + 1))), .int .i64 0, .int .i64 0, .int .i64 0, .int .u64 0, .slice D3 u cap3]) := Lib.hid (HM0.out.touch HT0.out HX0.out)
                      have HLL : Hid ((usersAt b (z + 3) u).length = u) := Lib.hid (usersAt_len b (z + 3) u)
                      have HUL : Hid (Lain 9 wr D3 ((usersAt b (z + 3) u).map .string)) := Lib.hid (Lain.own HO0.out)
                      clear HX0 HO0 HT0
                      obtain ⟨us5, hus5⟩ : ∃ us5, usersAt b (z + 3) u = us5 := ⟨_, rfl⟩
                      rw [hus5] at HLL HUL HOP
                      clear hus5
                      have hl5 := HLL.out
                      subst hl5
                      go_upto_region 32 with (fail)
                      have y0 := HMc.out.box.cell' (i := 0) (v := .int .i64 (at_ b z % 11)) rfl
                      have y1 := HMc.out.box.cell' (i := 1) (v := .string (userB (at_ b (z + 1)))) rfl
                      have y2 := HMc.out.box.cell' (i := 2) (v := .int .i64 0) rfl
                      have y3 := HMc.out.box.cell' (i := 3) (v := .int .i64 0) rfl
                      have y4 := HMc.out.box.cell' (i := 4) (v := .int .i64 0) rfl
                      have y5 := HMc.out.box.cell' (i := 5) (v := .int .u64 0) rfl
                      have y6 := HMc.out.box.cell' (i := 6) (v := .slice D3 us5.length cap3) rfl
                      have ly := HMc.out.box.lt
                      have HNU := Lib.hid (HUL.out)
                      go_wp2_with (at_builtin; refine wpList_append_own _ rfl _ _ 43 rfl wy.heap.size 49 iO (.agg #[.int .i64 0, .string ⟨#[]⟩, .int .i64 0, .int .i64 0, .int .i64 0, .int .u64 0, .slice none 0 0]) 7 80 HEO.out.ut HEO.out.info HEO.out.zero HEO.out.sz HEO.out.by_ HEO.out.cells HEO.out.pos _ _ _ rfl (HMc.out.row.alloc _) ⟨wr.heap.size, 0, none⟩ 1 1 (cellsW ⟨at_ b z % 11, userB (at_ b (z + 1)), 0, 0, 0, 0, D3, cap3, us5⟩) rfl rfl (new_cells _ _ _ rfl) (seven_one _) (by unfold maxLen; omega) (by omega) (by have := HMc.out.inn.size; simp; omega) ?_; intro v' w6 hown hg6 _; have HW6 := Lib.hid ((HMc.out.inn.alloc HMc.out.inn.size _).grown hg6 (by have := HMc.out.inn.size; simp; omega) (fun k hk => (HMc.out.row.lt k hk).1)); have HK6 := Lib.hid ((Keeps.alloc (t := 9) (w := wr) _).trans (Keeps.grown (HMc.out.row.alloc _) hg6 (by decide))); have HO6 := Lib.hid hown; obtain ⟨D', cap', rfl, _⟩ := own_shape hown; clear hown hg6)
                      go_roundw
                      case rel => exact ⟨j + 1, D', cap', qs ++ [⟨at_ b z % 11, userB (at_ b (z + 1)), 0, 0, 0, 0, D3, cap3, us5⟩], by omega, congrArg _ (by rw [HZS.out, HLN.out]; omega), rfl, by go_num, by rw [HZT.out, List.map_append, HQ.out, ← HOP.out]; rfl, by rw [flatW_snoc]; exact HO6.out, fun q' hq' => by
                        rcases List.mem_append.1 hq' with h | h
                        · exact (HMc.out.us q' h).keeps HK6.out
                        · obtain rfl := List.mem_singleton.1 h
                          exact HNU.out.keeps HK6.out, HW6.out⟩
                      case measure => simp [RowKit.intOf]; omega
                · skip
                  have HLN : Hid (opLen b z = 2) := by show _ = _; unfold opLen; rw [if_neg q1]; rw [if_neg q2]; rw [if_neg q3]; rw [if_neg q5];
                  have HOP : Hid (⟨at_ b z % 11, userB (at_ b (z + 1)), 0, 0, 0, 0, []⟩ = Law.opAt b z) := by show _ = _; unfold Law.opAt; rw [if_neg q1]; rw [if_neg q2]; rw [if_neg q3]; rw [if_neg q5];
                  have g1 : (at_ b z % 11 == 1) = false := beq_eq_false_iff_ne.2 q1
                  have g2 : (at_ b z % 11 == 2) = false := beq_eq_false_iff_ne.2 q2
                  have g3 : (at_ b z % 11 == 3) = false := beq_eq_false_iff_ne.2 q3
                  have g5 : (at_ b z % 11 == 5) = false := beq_eq_false_iff_ne.2 q5
                  clear q1 q2 q3 q5
                  have c0 := HM0.out.box.cell' (i := 0) (v := .int .i64 (at_ b z % 11)) rfl
                  have l0 := HM0.out.box.lt
                  go_upto_region 32 with (fail)
                  clear c0 l0
                  have y0 := HM0.out.box.cell' (i := 0) (v := .int .i64 (at_ b z % 11)) rfl
                  have y1 := HM0.out.box.cell' (i := 1) (v := .string (userB (at_ b (z + 1)))) rfl
                  have y2 := HM0.out.box.cell' (i := 2) (v := .int .i64 0) rfl
                  have y3 := HM0.out.box.cell' (i := 3) (v := .int .i64 0) rfl
                  have y4 := HM0.out.box.cell' (i := 4) (v := .int .i64 0) rfl
                  have y5 := HM0.out.box.cell' (i := 5) (v := .int .u64 0) rfl
                  have y6 := HM0.out.box.cell' (i := 6) (v := .slice none 0 0) rfl
                  have ly := HM0.out.box.lt
                  have HNU := Lib.hid ((Lain.nil : Lain 9 wv none []))
                  go_wp2_with (at_builtin; refine wpList_append_own _ rfl _ _ 43 rfl wy.heap.size 49 iO (.agg #[.int .i64 0, .string ⟨#[]⟩, .int .i64 0, .int .i64 0, .int .i64 0, .int .u64 0, .slice none 0 0]) 7 80 HEO.out.ut HEO.out.info HEO.out.zero HEO.out.sz HEO.out.by_ HEO.out.cells HEO.out.pos _ _ _ rfl (HM0.out.row.alloc _) ⟨wv.heap.size, 0, none⟩ 1 1 (cellsW ⟨at_ b z % 11, userB (at_ b (z + 1)), 0, 0, 0, 0, none, 0, []⟩) rfl rfl (new_cells _ _ _ rfl) (seven_one _) (by unfold maxLen; omega) (by omega) (by have := HM0.out.inn.size; simp; omega) ?_; intro v' w6 hown hg6 _; have HW6 := Lib.hid ((HM0.out.inn.alloc HM0.out.inn.size _).grown hg6 (by have := HM0.out.inn.size; simp; omega) (fun k hk => (HM0.out.row.lt k hk).1)); have HK6 := Lib.hid ((Keeps.alloc (t := 9) (w := wv) _).trans (Keeps.grown (HM0.out.row.alloc _) hg6 (by decide))); have HO6 := Lib.hid hown; obtain ⟨D', cap', rfl, _⟩ := own_shape hown; clear hown hg6)
                  go_roundw
                  case rel => exact ⟨j + 1, D', cap', qs ++ [⟨at_ b z % 11, userB (at_ b (z + 1)), 0, 0, 0, 0, none, 0, []⟩], by omega, congrArg _ (by rw [HZS.out, HLN.out]; omega), rfl, by go_num, by rw [HZT.out, List.map_append, HQ.out, ← HOP.out]; rfl, by rw [flatW_snoc]; exact HO6.out, fun q' hq' => by
                    rcases List.mem_append.1 hq' with h | h
                    · exact (HM0.out.us q' h).keeps HK6.out
                    · obtain rfl := List.mem_singleton.1 h
                      exact HNU.out.keeps HK6.out, HW6.out⟩
                  case measure => simp [RowKit.intOf]; omega
        · have hjM : j = M := by omega
          subst hjM
          have d2 : decide (((j : Nat) : Int) < ((j : Nat) : Int)) = false := by simp
          have HSz := Lib.hid (HS.out.below HW.out HS.out.lt)
          have HOz := Lib.hid (own_below HO.out HW.out)
          have HRz := Lib.hid (HR.out.below HW.out HR.out.lt)
          have HUz := Lib.hid (fun r hr => (HU.out r hr).keeps (Keeps.of_below HW.out) (Keeps.of_below HW.out))
          have HPZ := Lib.hid (show Ops wr D2 qs from ⟨Lain.own HO2.out, HU2.out⟩)
          have hqlen : qs.length = j := by have h := congrArg List.length HQ.out; rw [opsTo_len, List.length_map] at h; exact h
          have HQL := Lib.hid hqlen
          clear hqlen
          have x7 := HSz.out.cell' (i := 7) (v := .slice D k cap) rfl
          have l7 := HSz.out.lt
          go_wp2_with (at_builtin; refine wpList_append_own _ rfl _ _ 28 rfl w.heap.size 43 iC (.slice none 0 0) 1 24 HEC.out.ut HEC.out.info HEC.out.zero HEC.out.sz HEC.out.by_ HEC.out.cells HEC.out.pos _ _ _ rfl (HOz.out.alloc _) ⟨wr.heap.size, 0, none⟩ 1 1 [.slice D2 j cap2] rfl rfl (new_cells _ _ _ rfl) (fun u hu => by obtain rfl := List.mem_singleton.1 hu; rfl) (by unfold maxLen; omega) (by omega) (by have := HBz.out.size; simp; omega) ?_; intro v' w6 hown hg6 _; have hne6 := own_ne HOz.out HSz.out (by decide); have hnr6 := own_ne HOz.out HRz.out (by decide); have HS6 := Lib.hid ((HSz.out.alloc _).grown hg6 hne6); have HR6 := Lib.hid ((HRz.out.alloc _).grown hg6 hnr6); have HB6 := Lib.hid ((HBz.out.alloc HBz.out.size _).grown hg6 (by have := HBz.out.size; simp; omega) (fun k hk => (HOz.out.lt k hk).1)); have HKo := Lib.hid ((Keeps.alloc (t := 49) (w := wr) _).trans (Keeps.grown (HOz.out.alloc _) hg6 (by decide))); have HKs := Lib.hid ((Keeps.alloc (t := 9) (w := wr) _).trans (Keeps.grown (HOz.out.alloc _) hg6 (by decide))); have HO6 := Lib.hid hown; obtain ⟨D', cap', rfl, _⟩ := own_shape hown; have y7 := HS6.out.cell' (i := 7) (v := .slice D k cap) rfl; have f7 := HS6.out.frozen 7; have ly7 := HS6.out.lt; clear hown hg6 hne6 hnr6)
          go_roundw
          case rel =>
            have ht : Law.Touch w6 (w6.setCell ⟨gs, 7, none⟩ (.slice D' (k + 1) cap')) (fun k => k = gs) := Law.Touch.store _ _ _ rfl
            refine ⟨k + 1, D', cap', ls ++ [(D2, cap2, qs)], by omega, congrArg _ (by rw [HPS.out, HOE.out]), congrArg _ (by omega), ?_, HS6.out.set 7 _ rfl, ?_, ?_, HR6.out.far (p := ⟨gs, 7, none⟩) (by simp only; omega) _, HB6.out.setCell (p := ⟨gs, 7, none⟩) (by simp only; omega) _⟩
            · rw [HTS.out, HOA.out]; show (ls ++ [(D2, cap2, qs)]).map _ = _; rw [List.map_append, ← HPL.out, ← HQ.out]; rfl
            · rw [List.map_append]; refine ht.own ?_ (fun g hg e => own_ne HO6.out HS6.out (by decide) (by rw [← e]; exact hg)); have h := HO6.out; rw [show (Value.slice D2 j cap2) = cellC (D2, cap2, qs) by show _ = Value.slice D2 qs.length cap2; rw [HQL.out]] at h; exact h
            · intro r hr
              rcases List.mem_append.1 hr with h | h
              · exact ((HUz.out r h).keeps HKo.out HKs.out).keeps (Keeps.store HS6.out (by decide) _) (Keeps.store HS6.out (by decide) _)
              · obtain rfl := List.mem_singleton.1 h
                exact (HPZ.out.keeps HKo.out HKs.out).keeps (Keeps.store HS6.out (by decide) _) (Keeps.store HS6.out (by decide) _)
          case measure => simp [RowKit.intOf]; omega
    · have hkN : k = N := by omega
      subst hkN
      have hkk : ((k - k : Nat) : Int) = 0 := by omega
      rw [hkk]
      clear hkk
      have d1 : decide ((0 : Int) < (0 : Int)) = false := by decide
      have hpp := clPos_le HBY.out k
      have HPE : Hid (clEnd b = clPos b k) := Lib.hid (by unfold clEnd; rw [HN.out])
      have HPLC : Hid (plainC ls = clients b) := Lib.hid (by rw [HPL.out]; unfold clients; rw [HN.out])
      have HPKS : Hid (picks b = pkTo b (clPos b k) (pkN b (clPos b k))) := Lib.hid (by unfold picks; rw [HPE.out])
      have hll : ls.length = k := by have h := plainC_len HPLC.out; rw [HN.out] at h; exact h
      have HLL := Lib.hid hll
      clear hll
      have HNI := Lib.hid (pkN_iff b (clPos b k))
      go_wp2_with fail
      generalize clPos b k = pe at *
      obtain ⟨n, hn⟩ : ∃ n, pkN b pe = n := ⟨_, rfl⟩
      rw [hn] at HNI HPKS
      clear hn
      have hwo := HB.out.size
      go_loopw [4] (fun s4 wx => ∃ (m : Nat) (D3 : Option Addr) (cap3 : Nat), m ≤ n ∧ s4 = .int .i64 ((pe + 2 * m : Nat) : Int) ∧ Is wx gs 31 #[.int .i64 (1 + at_ b 0 % 8), .int .i64 (1 + at_ b 1 % 8), .int .i64 (1 + at_ b 2 % 16), .int .i64 (1 + at_ b 3 % 8), .int .i64 (at_ b 4 % 5), .int .u64 (at_ b 5), .int .u64 (longI (at_ b 6)), .slice D k cap, .slice D3 m cap3] ∧ wx.ownsRow wr.heap.size 34 3 (.slice D3 m cap3) m (flatPk (pkTo b pe m)) ∧ Law.Touch wr wx (fun k => k = gs)) (fun s4 _ => b.length - (RowKit.intOf s4).toNat)
      case atStart => exact ⟨0, none, 0, Nat.zero_le _, congrArg _ (by omega), HS.out, own_nil _ _ _ _, Law.Touch.refl _ _⟩
      case round =>
        have lgs := HS.out.lt
        obtain ⟨m, D3, cap3, hm, rfl, hS4, hO4, hT4⟩ := hrel
        have HS4 := Lib.hid hS4
        have HO4 := Lib.hid hO4
        have HT4 := Lib.hid hT4
        clear hS4 hO4 hT4
        have HB4 := Lib.hid (HT4.out.below HB.out (fun k e => by rw [e]; omega) hwo)
        have x8 := HS4.out.cell' (i := 8) (v := .slice D3 m cap3) rfl
        have l8 := HS4.out.lt
        by_cases hlm : m < n
        · have hmi := (HNI.out m).1 hlm
          have dA : decide (((pe + 2 * m : Nat) : Int) < (b.length : Int)) = true := decide_eq_true (by omega)
          have d20 : decide ((m : Int) < 20000) = true := decide_eq_true (by omega)
          have za := HBY.out.at (pe + 2 * m)
          have zb := HBY.out.at (pe + 2 * m + 1)
          have HUS := Lib.hid (pkTo_snoc b pe m)
          have HPI := Lib.hid (fun W => rPick (at_ b (pe + 2 * m)) (at_ b (pe + 2 * m + 1)) za zb W rfl)
          generalize hpq : pickP (at_ b (pe + 2 * m)) (at_ b (pe + 2 * m + 1)) = pq at *
          clear hpq
          obtain ⟨q0, q1, q2⟩ := pq
          have HPI' : Hid (∀ W, Calls Tryd.prog 14 #[.int .i64 (at_ b (pe + 2 * m)), .int .i64 (at_ b (pe + 2 * m + 1))] W fun e w' => e = .returned (.agg #[.int .i64 q0, .int .i64 q1, .int .u64 q2]) ∧ Below W.heap.size W w') := HPI
          clear HPI
          have hwr : IntKind.i64.wrap (((pe + 2 * m : Nat) : Int) + 1) = ((pe + 2 * m : Nat) : Int) + 1 := by rw [IntKind.wrap_i64]; omega
          go_wp2_with fail
          clear x8 l8
          refine wp_region_held_drew (S := fun _ => True) (by kernel_rfl) trivial (fun hS0 => ?_)
          refine wpAnyH_take (i := 0) (oi := { dst := some 167, op := .fieldAddr 31 (.tmp 3) 2, type := _, pos := _, after := _, guard := _ }) (v := .pointer (some ⟨gs, 8, none⟩)) rfl (by kernel_rfl) (by kernel_rfl) (by kernel_rfl) (fun _ _ _ h => h) (Or.inl ⟨by rfl, ?_⟩) hS0 ?_
          · intro w' hSw
            go_simp
          try simp only [Act.put, List.setIfInBounds_toArray, List.set_cons_zero, List.set_cons_succ]
          refine wpAnyH_take (i := 2) (oi := { dst := some 169, op := .move (.tmp 0), type := _, pos := _, after := _, guard := _ }) (v := .slice A b.length c) rfl (by kernel_rfl) (by kernel_rfl) (by kernel_rfl) (fun _ _ _ h => h) (Or.inl ⟨by rfl, ?_⟩) hS0 ?_
          · intro w' hSw
            go_simp
          try simp only [Act.put, List.setIfInBounds_toArray, List.set_cons_zero, List.set_cons_succ]
          refine wpAnyH_take (i := 3) (oi := { dst := some 170, op := .move (.tmp 4), type := _, pos := _, after := _, guard := _ }) (v := .int .i64 ((pe + 2 * m : Nat) : Int)) rfl (by kernel_rfl) (by kernel_rfl) (by kernel_rfl) (fun _ _ _ h => h) (Or.inl ⟨by rfl, ?_⟩) hS0 ?_
          · intro w' hSw
            go_simp
          try simp only [Act.put, List.setIfInBounds_toArray, List.set_cons_zero, List.set_cons_succ]
          refine wpAnyH_take (i := 5) (oi := { dst := some 172, op := .move (.tmp 0), type := _, pos := _, after := _, guard := _ }) (v := .slice A b.length c) rfl (by kernel_rfl) (by kernel_rfl) (by kernel_rfl) (fun _ _ _ h => h) (Or.inl ⟨by rfl, ?_⟩) hS0 ?_
          · intro w' hSw
            go_simp
          try simp only [Act.put, List.setIfInBounds_toArray, List.set_cons_zero, List.set_cons_succ]
          refine wpAnyH_take (i := 6) (oi := { dst := some 173, op := .move (.tmp 4), type := _, pos := _, after := _, guard := _ }) (v := .int .i64 ((pe + 2 * m : Nat) : Int)) rfl (by kernel_rfl) (by kernel_rfl) (by kernel_rfl) (fun _ _ _ h => h) (Or.inl ⟨by rfl, ?_⟩) hS0 ?_
          · intro w' hSw
            go_simp
          try simp only [Act.put, List.setIfInBounds_toArray, List.set_cons_zero, List.set_cons_succ]
          refine wpAnyH_take (i := 7) (oi := { dst := some 174, op := .binOp .add 3 (.tmp 173) (.const (.int .i64 1)) 3, type := _, pos := _, after := _, guard := _ }) (v := .int .i64 (((pe + 2 * m : Nat) : Int) + 1)) rfl (by kernel_rfl) (by kernel_rfl) (by kernel_rfl) (fun _ _ _ h => h) (Or.inl ⟨by rfl, ?_⟩) hS0 ?_
          · intro w' hSw
            go_simp
            first | done | exact hwr | (rw [IntKind.wrap_i64]; omega) | omega
          try simp only [Act.put, List.setIfInBounds_toArray, List.set_cons_zero, List.set_cons_succ]
          have bd := Law.below_drewN (Below.refl wr.heap.size wr) 1
          have HXa : Hid (Is wr.drew gs 31 #[.int .i64 (1 + at_ b 0 % 8), .int .i64 (1 + at_ b 1 % 8), .int .i64 (1 + at_ b 2 % 16), .int .i64 (1 + at_ b 3 % 8), .int .i64 (at_ b 4 % 5), .int .u64 (at_ b 5), .int .u64 (longI (at_ b 6)), .slice D k cap, .slice D3 m cap3]) := HS4.out.drewN 1
          have HOa := Lib.hid (show World.ownsRow wr.drew _ _ _ _ _ _ from own_below HO4.out bd)
          have HTa := Lib.hid (show Law.Touch _ wr.drew _ from HT4.out.trans (Law.Touch.of_below bd (fun _ => False)) (fun _ e => e.elim))
          have HAa := Lib.hid (show Below _ _ wr.drew from HB4.out.trans (bd.mono HB4.out.size))
          clear bd
          generalize wr.drew = w4 at *
          refine wpAnyH_ready (rs := [1, 4]) (by kernel_rfl) (by simp) ?_
          refine AllReadyH.cons (o := { dst := some 168, op := .load 29 (.tmp 167), type := _, pos := _, after := _, guard := _ }) rfl (fun K hK => ?_) ?_
          · have cl := HXa.out.cell' (i := 8) (v := .slice D3 m cap3) rfl
            have ll := HXa.out.lt
            go_simp
            refine hK.out _ _ trivial (fun _ => ?_)
            clear hK K cl ll
            try simp only [Act.put, List.setIfInBounds_toArray, List.set_cons_zero, List.set_cons_succ]
            refine wpAnyH_ready (rs := [4]) (by kernel_rfl) (by simp) ?_
            refine AllReadyH.cons (o := { dst := some 171, op := .call { callee := .value (.func 23), args := #[.tmp 169, .tmp 170], argTypes := _ }, type := _, pos := _, after := _, guard := _ }) rfl (fun K hK => ?_) AllReadyH.nil
            go_simp
            refine Calls.mono (HAT.out w4 HAa.out _ (pe + 2 * m) rfl _ rfl) ?_
            rintro e v1 ⟨rfl, hv⟩
            subst hv
            go_wp2_with fail
            refine hK.out _ _ trivial (fun _ => ?_)
            clear hK K
            try simp only [Act.put, List.setIfInBounds_toArray, List.set_cons_zero, List.set_cons_succ]
            refine wpAnyH_ready (rs := [8]) (by kernel_rfl) (by simp) ?_
            refine AllReadyH.cons (o := { dst := some 175, op := .call { callee := .value (.func 23), args := #[.tmp 172, .tmp 174], argTypes := _ }, type := _, pos := _, after := _, guard := _ }) rfl (fun K hK => ?_) AllReadyH.nil
            go_simp
            refine Calls.mono (HAT.out v1 HAa.out _ (pe + 2 * m + 1) (by omega) _ rfl) ?_
            rintro e v2 ⟨rfl, hv⟩
            subst hv
            go_wp2_with fail
            refine hK.out _ _ trivial (fun _ => ?_)
            clear hK K
            try simp only [Act.put, List.setIfInBounds_toArray, List.set_cons_zero, List.set_cons_succ]
            refine wpAnyH_ready (rs := [9]) (by kernel_rfl) (by simp) ?_
            refine AllReadyH.cons (o := { dst := some 176, op := .call { callee := .value (.func 14), args := #[.tmp 171, .tmp 175], argTypes := _ }, type := _, pos := _, after := _, guard := _ }) rfl (fun K hK => ?_) AllReadyH.nil
            go_simp
            refine Calls.mono (HPI'.out v2) ?_
            rintro e u3 ⟨rfl, bx⟩
            have HXn3 := Lib.hid (HXa.out.below bx HXa.out.lt)
            have HOn3 := Lib.hid (own_below HOa.out bx)
            have HTn3 := Lib.hid (HTa.out.trans (Law.Touch.of_below bx (fun _ => False)) (fun _ e => e.elim))
            clear bx
            go_wp2_with fail
            refine hK.out _ _ trivial (fun _ => ?_)
            clear hK K
            try simp only [Act.put, List.setIfInBounds_toArray, List.set_cons_zero, List.set_cons_succ]
            refine wpAnyH_ready (rs := [10]) (by kernel_rfl) (by simp) ?_
            refine AllReadyH.cons (o := { dst := some 177, op := .buildSlice 29 1 #[(0, .tmp 176)], type := _, pos := _, after := _, guard := _ }) rfl (fun K hK => ?_) AllReadyH.nil
            go_simp
            have bx := (Below.refl u3.heap.size u3).alloc (Nat.le_refl _) (.cells #[.int .i64 q0, .int .i64 q1, .int .u64 q2] 34)
            have HXn4 := Lib.hid (HXn3.out.below bx HXn3.out.lt)
            have HOn4 := Lib.hid (own_below HOn3.out bx)
            have HTn4 := Lib.hid (HTn3.out.trans (Law.Touch.of_below bx (fun _ => False)) (fun _ e => e.elim))
            have HNn4 := Lib.hid (Is.new u3 34 #[.int .i64 q0, .int .i64 q1, .int .u64 q2] rfl)
            clear bx
            refine hK.out _ _ trivial (fun _ => ?_)
            clear hK K
            try simp only [Act.put, List.setIfInBounds_toArray, List.set_cons_zero, List.set_cons_succ]
            generalize u3.alloc (.cells #[.int .i64 q0, .int .i64 q1, .int .u64 q2] 34) = x4 at *
            generalize u3.heap.size = g4 at *
            refine wpAnyH_ready (rs := [11]) (by kernel_rfl) (by simp) ?_
            refine AllReadyH.cons (o := { dst := some 178, op := .call { callee := .builtin .append, args := #[.tmp 168, .tmp 177], argTypes := #[29, 29] }, type := _, pos := _, after := _, guard := _ }) rfl (fun K hK => ?_) AllReadyH.nil
            refine Law.step_append_seq _ _ 29 rfl (.tmp 168) (.tmp 177) rfl HEP.out (.slice D3 m cap3) m (flatPk (pkTo b pe m)) (by simp [Act.eval]) (by exact HOn4.out) 0 x4.heap.size (some ⟨g4, 0, none⟩) 1 1 (cellsPk (q0, q1, q2)) (by simp [Act.eval]) rfl (Lain.is HNn4.out rfl).seq (three_one _) (by unfold maxLen; omega) (by omega) (by exact HTn4.out.size) ?_
            intro v5 y5 own grow
            have HXm5 := Lib.hid (HXn4.out.grown grow (fun e => by have := (HOn4.out.lt gs e).1; omega))
            have HTm5 := Lib.hid (HTn4.out.trans (T' := fun k => Value.ownBlock (.slice D3 m cap3) = some k) (Law.Touch.grown grow fun _ e => e) (fun k e => .inr (HOn4.out.lt k e).1))
            have HOm5 := Lib.hid own
            obtain ⟨A5, k5, rfl, _⟩ := own_shape own
            clear own grow
            refine hK.out _ _ trivial (fun hSy => ?_)
            clear hK K
            try simp only [Act.put, List.setIfInBounds_toArray, List.set_cons_zero, List.set_cons_succ]
            refine wpAnyH_take (i := 12) (oi := { dst := some 179, op := .fieldAddr 31 (.tmp 3) 2, type := _, pos := _, after := _, guard := _ }) (v := .pointer (some ⟨gs, 8, none⟩)) rfl (by kernel_rfl) (by kernel_rfl) (by kernel_rfl) (fun _ _ _ h => h) (Or.inl ⟨by rfl, ?_⟩) hSy ?_
            · intro w' hSw
              go_simp
            try simp only [Act.put, List.setIfInBounds_toArray, List.set_cons_zero, List.set_cons_succ]
            have c8 := HXm5.out.cell' (i := 8) (v := .slice D3 m cap3) rfl
            have f8 := HXm5.out.frozen 8
            have l8 := HXm5.out.lt
            have st : Law.Touch y5 (y5.setCell ⟨gs, 8, none⟩ (.slice A5 (m + 1) k5)) (fun k => k = gs) := Law.Touch.store _ _ _ rfl
            have HXs := Lib.hid (HXm5.out.set 8 (.slice A5 (m + 1) k5) rfl)
            have HTs := Lib.hid (HTm5.out.trans st (fun _ e => .inl e))
            have HOs := Lib.hid (st.own HOm5.out (fun k e => by have := (HOm5.out.lt k e).1; omega))
            clear st
            refine wpAnyH_ready (rs := [13]) (by kernel_rfl) (by simp) ?_
            refine AllReadyH.cons (o := { dst := none, op := .store 29 (.tmp 179) (.tmp 178), type := _, pos := _, after := _, guard := _ }) rfl (fun K hK => ?_) AllReadyH.nil
            go_simp
            refine hK.out _ _ trivial (fun hSz => ?_)
            clear hK K
            try simp only [Act.put, List.setIfInBounds_toArray, List.set_cons_zero, List.set_cons_succ]
            clear c8 f8 l8
            refine wpAnyH_done (by kernel_rfl) ?_ _
            generalize y5.setCell ⟨gs, 8, none⟩ (.slice A5 (m + 1) k5) = wz at *
            go_wp2_with fail
            go_roundw
            case rel =>
              exact ⟨m + 1, A5, k5, by omega, congrArg _ (by omega), HXs.out, by rw [HUS.out, flatPk_snoc]; exact HOs.out, HTs.out⟩
            case measure => simp [RowKit.intOf]; omega
          · refine AllReadyH.cons (o := { dst := some 171, op := .call { callee := .value (.func 23), args := #[.tmp 169, .tmp 170], argTypes := _ }, type := _, pos := _, after := _, guard := _ }) rfl (fun K hK => ?_) AllReadyH.nil
            go_simp
            refine Calls.mono (HAT.out w4 HAa.out _ (pe + 2 * m) rfl _ rfl) ?_
            rintro e v6 ⟨rfl, hv⟩
            subst hv
            go_wp2_with fail
            refine hK.out _ _ trivial (fun _ => ?_)
            clear hK K
            try simp only [Act.put, List.setIfInBounds_toArray, List.set_cons_zero, List.set_cons_succ]
            refine wpAnyH_ready (rs := [1, 8]) (by kernel_rfl) (by simp) ?_
            refine AllReadyH.cons (o := { dst := some 168, op := .load 29 (.tmp 167), type := _, pos := _, after := _, guard := _ }) rfl (fun K hK => ?_) ?_
            · have cl := HXa.out.cell' (i := 8) (v := .slice D3 m cap3) rfl
              have ll := HXa.out.lt
              go_simp
              refine hK.out _ _ trivial (fun _ => ?_)
              clear hK K cl ll
              try simp only [Act.put, List.setIfInBounds_toArray, List.set_cons_zero, List.set_cons_succ]
              refine wpAnyH_ready (rs := [8]) (by kernel_rfl) (by simp) ?_
              refine AllReadyH.cons (o := { dst := some 175, op := .call { callee := .value (.func 23), args := #[.tmp 172, .tmp 174], argTypes := _ }, type := _, pos := _, after := _, guard := _ }) rfl (fun K hK => ?_) AllReadyH.nil
              go_simp
              refine Calls.mono (HAT.out v6 HAa.out _ (pe + 2 * m + 1) (by omega) _ rfl) ?_
              rintro e v7 ⟨rfl, hv⟩
              subst hv
              go_wp2_with fail
              refine hK.out _ _ trivial (fun _ => ?_)
              clear hK K
              try simp only [Act.put, List.setIfInBounds_toArray, List.set_cons_zero, List.set_cons_succ]
              refine wpAnyH_ready (rs := [9]) (by kernel_rfl) (by simp) ?_
              refine AllReadyH.cons (o := { dst := some 176, op := .call { callee := .value (.func 14), args := #[.tmp 171, .tmp 175], argTypes := _ }, type := _, pos := _, after := _, guard := _ }) rfl (fun K hK => ?_) AllReadyH.nil
              go_simp
              refine Calls.mono (HPI'.out v7) ?_
              rintro e u8 ⟨rfl, bx⟩
              have HXn8 := Lib.hid (HXa.out.below bx HXa.out.lt)
              have HOn8 := Lib.hid (own_below HOa.out bx)
              have HTn8 := Lib.hid (HTa.out.trans (Law.Touch.of_below bx (fun _ => False)) (fun _ e => e.elim))
              clear bx
              go_wp2_with fail
              refine hK.out _ _ trivial (fun _ => ?_)
              clear hK K
              try simp only [Act.put, List.setIfInBounds_toArray, List.set_cons_zero, List.set_cons_succ]
              refine wpAnyH_ready (rs := [10]) (by kernel_rfl) (by simp) ?_
              refine AllReadyH.cons (o := { dst := some 177, op := .buildSlice 29 1 #[(0, .tmp 176)], type := _, pos := _, after := _, guard := _ }) rfl (fun K hK => ?_) AllReadyH.nil
              go_simp
              have bx := (Below.refl u8.heap.size u8).alloc (Nat.le_refl _) (.cells #[.int .i64 q0, .int .i64 q1, .int .u64 q2] 34)
              have HXn9 := Lib.hid (HXn8.out.below bx HXn8.out.lt)
              have HOn9 := Lib.hid (own_below HOn8.out bx)
              have HTn9 := Lib.hid (HTn8.out.trans (Law.Touch.of_below bx (fun _ => False)) (fun _ e => e.elim))
              have HNn9 := Lib.hid (Is.new u8 34 #[.int .i64 q0, .int .i64 q1, .int .u64 q2] rfl)
              clear bx
              refine hK.out _ _ trivial (fun _ => ?_)
              clear hK K
              try simp only [Act.put, List.setIfInBounds_toArray, List.set_cons_zero, List.set_cons_succ]
              generalize u8.alloc (.cells #[.int .i64 q0, .int .i64 q1, .int .u64 q2] 34) = x9 at *
              generalize u8.heap.size = g9 at *
              refine wpAnyH_ready (rs := [11]) (by kernel_rfl) (by simp) ?_
              refine AllReadyH.cons (o := { dst := some 178, op := .call { callee := .builtin .append, args := #[.tmp 168, .tmp 177], argTypes := #[29, 29] }, type := _, pos := _, after := _, guard := _ }) rfl (fun K hK => ?_) AllReadyH.nil
              refine Law.step_append_seq _ _ 29 rfl (.tmp 168) (.tmp 177) rfl HEP.out (.slice D3 m cap3) m (flatPk (pkTo b pe m)) (by simp [Act.eval]) (by exact HOn9.out) 0 x9.heap.size (some ⟨g9, 0, none⟩) 1 1 (cellsPk (q0, q1, q2)) (by simp [Act.eval]) rfl (Lain.is HNn9.out rfl).seq (three_one _) (by unfold maxLen; omega) (by omega) (by exact HTn9.out.size) ?_
              intro v10 y10 own grow
              have HXm10 := Lib.hid (HXn9.out.grown grow (fun e => by have := (HOn9.out.lt gs e).1; omega))
              have HTm10 := Lib.hid (HTn9.out.trans (T' := fun k => Value.ownBlock (.slice D3 m cap3) = some k) (Law.Touch.grown grow fun _ e => e) (fun k e => .inr (HOn9.out.lt k e).1))
              have HOm10 := Lib.hid own
              obtain ⟨A10, k10, rfl, _⟩ := own_shape own
              clear own grow
              refine hK.out _ _ trivial (fun hSy => ?_)
              clear hK K
              try simp only [Act.put, List.setIfInBounds_toArray, List.set_cons_zero, List.set_cons_succ]
              refine wpAnyH_take (i := 12) (oi := { dst := some 179, op := .fieldAddr 31 (.tmp 3) 2, type := _, pos := _, after := _, guard := _ }) (v := .pointer (some ⟨gs, 8, none⟩)) rfl (by kernel_rfl) (by kernel_rfl) (by kernel_rfl) (fun _ _ _ h => h) (Or.inl ⟨by rfl, ?_⟩) hSy ?_
              · intro w' hSw
                go_simp
              try simp only [Act.put, List.setIfInBounds_toArray, List.set_cons_zero, List.set_cons_succ]
              have c8 := HXm10.out.cell' (i := 8) (v := .slice D3 m cap3) rfl
              have f8 := HXm10.out.frozen 8
              have l8 := HXm10.out.lt
              have st : Law.Touch y10 (y10.setCell ⟨gs, 8, none⟩ (.slice A10 (m + 1) k10)) (fun k => k = gs) := Law.Touch.store _ _ _ rfl
              have HXs := Lib.hid (HXm10.out.set 8 (.slice A10 (m + 1) k10) rfl)
              have HTs := Lib.hid (HTm10.out.trans st (fun _ e => .inl e))
              have HOs := Lib.hid (st.own HOm10.out (fun k e => by have := (HOm10.out.lt k e).1; omega))
              clear st
              refine wpAnyH_ready (rs := [13]) (by kernel_rfl) (by simp) ?_
              refine AllReadyH.cons (o := { dst := none, op := .store 29 (.tmp 179) (.tmp 178), type := _, pos := _, after := _, guard := _ }) rfl (fun K hK => ?_) AllReadyH.nil
              go_simp
              refine hK.out _ _ trivial (fun hSz => ?_)
              clear hK K
              try simp only [Act.put, List.setIfInBounds_toArray, List.set_cons_zero, List.set_cons_succ]
              clear c8 f8 l8
              refine wpAnyH_done (by kernel_rfl) ?_ _
              generalize y10.setCell ⟨gs, 8, none⟩ (.slice A10 (m + 1) k10) = wz at *
              go_wp2_with fail
              go_roundw
              case rel =>
                exact ⟨m + 1, A10, k10, by omega, congrArg _ (by omega), HXs.out, by rw [HUS.out, flatPk_snoc]; exact HOs.out, HTs.out⟩
              case measure => simp [RowKit.intOf]; omega
            · refine AllReadyH.cons (o := { dst := some 175, op := .call { callee := .value (.func 23), args := #[.tmp 172, .tmp 174], argTypes := _ }, type := _, pos := _, after := _, guard := _ }) rfl (fun K hK => ?_) AllReadyH.nil
              go_simp
              refine Calls.mono (HAT.out v6 HAa.out _ (pe + 2 * m + 1) (by omega) _ rfl) ?_
              rintro e v11 ⟨rfl, hv⟩
              subst hv
              go_wp2_with fail
              refine hK.out _ _ trivial (fun _ => ?_)
              clear hK K
              try simp only [Act.put, List.setIfInBounds_toArray, List.set_cons_zero, List.set_cons_succ]
              refine wpAnyH_ready (rs := [1, 9]) (by kernel_rfl) (by simp) ?_
              refine AllReadyH.cons (o := { dst := some 168, op := .load 29 (.tmp 167), type := _, pos := _, after := _, guard := _ }) rfl (fun K hK => ?_) ?_
              · have cl := HXa.out.cell' (i := 8) (v := .slice D3 m cap3) rfl
                have ll := HXa.out.lt
                go_simp
                refine hK.out _ _ trivial (fun _ => ?_)
                clear hK K cl ll
                try simp only [Act.put, List.setIfInBounds_toArray, List.set_cons_zero, List.set_cons_succ]
                refine wpAnyH_ready (rs := [9]) (by kernel_rfl) (by simp) ?_
                refine AllReadyH.cons (o := { dst := some 176, op := .call { callee := .value (.func 14), args := #[.tmp 171, .tmp 175], argTypes := _ }, type := _, pos := _, after := _, guard := _ }) rfl (fun K hK => ?_) AllReadyH.nil
                go_simp
                refine Calls.mono (HPI'.out v11) ?_
                rintro e u12 ⟨rfl, bx⟩
                have HXn12 := Lib.hid (HXa.out.below bx HXa.out.lt)
                have HOn12 := Lib.hid (own_below HOa.out bx)
                have HTn12 := Lib.hid (HTa.out.trans (Law.Touch.of_below bx (fun _ => False)) (fun _ e => e.elim))
                clear bx
                go_wp2_with fail
                refine hK.out _ _ trivial (fun _ => ?_)
                clear hK K
                try simp only [Act.put, List.setIfInBounds_toArray, List.set_cons_zero, List.set_cons_succ]
                refine wpAnyH_ready (rs := [10]) (by kernel_rfl) (by simp) ?_
                refine AllReadyH.cons (o := { dst := some 177, op := .buildSlice 29 1 #[(0, .tmp 176)], type := _, pos := _, after := _, guard := _ }) rfl (fun K hK => ?_) AllReadyH.nil
                go_simp
                have bx := (Below.refl u12.heap.size u12).alloc (Nat.le_refl _) (.cells #[.int .i64 q0, .int .i64 q1, .int .u64 q2] 34)
                have HXn13 := Lib.hid (HXn12.out.below bx HXn12.out.lt)
                have HOn13 := Lib.hid (own_below HOn12.out bx)
                have HTn13 := Lib.hid (HTn12.out.trans (Law.Touch.of_below bx (fun _ => False)) (fun _ e => e.elim))
                have HNn13 := Lib.hid (Is.new u12 34 #[.int .i64 q0, .int .i64 q1, .int .u64 q2] rfl)
                clear bx
                refine hK.out _ _ trivial (fun _ => ?_)
                clear hK K
                try simp only [Act.put, List.setIfInBounds_toArray, List.set_cons_zero, List.set_cons_succ]
                generalize u12.alloc (.cells #[.int .i64 q0, .int .i64 q1, .int .u64 q2] 34) = x13 at *
                generalize u12.heap.size = g13 at *
                refine wpAnyH_ready (rs := [11]) (by kernel_rfl) (by simp) ?_
                refine AllReadyH.cons (o := { dst := some 178, op := .call { callee := .builtin .append, args := #[.tmp 168, .tmp 177], argTypes := #[29, 29] }, type := _, pos := _, after := _, guard := _ }) rfl (fun K hK => ?_) AllReadyH.nil
                refine Law.step_append_seq _ _ 29 rfl (.tmp 168) (.tmp 177) rfl HEP.out (.slice D3 m cap3) m (flatPk (pkTo b pe m)) (by simp [Act.eval]) (by exact HOn13.out) 0 x13.heap.size (some ⟨g13, 0, none⟩) 1 1 (cellsPk (q0, q1, q2)) (by simp [Act.eval]) rfl (Lain.is HNn13.out rfl).seq (three_one _) (by unfold maxLen; omega) (by omega) (by exact HTn13.out.size) ?_
                intro v14 y14 own grow
                have HXm14 := Lib.hid (HXn13.out.grown grow (fun e => by have := (HOn13.out.lt gs e).1; omega))
                have HTm14 := Lib.hid (HTn13.out.trans (T' := fun k => Value.ownBlock (.slice D3 m cap3) = some k) (Law.Touch.grown grow fun _ e => e) (fun k e => .inr (HOn13.out.lt k e).1))
                have HOm14 := Lib.hid own
                obtain ⟨A14, k14, rfl, _⟩ := own_shape own
                clear own grow
                refine hK.out _ _ trivial (fun hSy => ?_)
                clear hK K
                try simp only [Act.put, List.setIfInBounds_toArray, List.set_cons_zero, List.set_cons_succ]
                refine wpAnyH_take (i := 12) (oi := { dst := some 179, op := .fieldAddr 31 (.tmp 3) 2, type := _, pos := _, after := _, guard := _ }) (v := .pointer (some ⟨gs, 8, none⟩)) rfl (by kernel_rfl) (by kernel_rfl) (by kernel_rfl) (fun _ _ _ h => h) (Or.inl ⟨by rfl, ?_⟩) hSy ?_
                · intro w' hSw
                  go_simp
                try simp only [Act.put, List.setIfInBounds_toArray, List.set_cons_zero, List.set_cons_succ]
                have c8 := HXm14.out.cell' (i := 8) (v := .slice D3 m cap3) rfl
                have f8 := HXm14.out.frozen 8
                have l8 := HXm14.out.lt
                have st : Law.Touch y14 (y14.setCell ⟨gs, 8, none⟩ (.slice A14 (m + 1) k14)) (fun k => k = gs) := Law.Touch.store _ _ _ rfl
                have HXs := Lib.hid (HXm14.out.set 8 (.slice A14 (m + 1) k14) rfl)
                have HTs := Lib.hid (HTm14.out.trans st (fun _ e => .inl e))
                have HOs := Lib.hid (st.own HOm14.out (fun k e => by have := (HOm14.out.lt k e).1; omega))
                clear st
                refine wpAnyH_ready (rs := [13]) (by kernel_rfl) (by simp) ?_
                refine AllReadyH.cons (o := { dst := none, op := .store 29 (.tmp 179) (.tmp 178), type := _, pos := _, after := _, guard := _ }) rfl (fun K hK => ?_) AllReadyH.nil
                go_simp
                refine hK.out _ _ trivial (fun hSz => ?_)
                clear hK K
                try simp only [Act.put, List.setIfInBounds_toArray, List.set_cons_zero, List.set_cons_succ]
                clear c8 f8 l8
                refine wpAnyH_done (by kernel_rfl) ?_ _
                generalize y14.setCell ⟨gs, 8, none⟩ (.slice A14 (m + 1) k14) = wz at *
                go_wp2_with fail
                go_roundw
                case rel =>
                  exact ⟨m + 1, A14, k14, by omega, congrArg _ (by omega), HXs.out, by rw [HUS.out, flatPk_snoc]; exact HOs.out, HTs.out⟩
                case measure => simp [RowKit.intOf]; omega
              · refine AllReadyH.cons (o := { dst := some 176, op := .call { callee := .value (.func 14), args := #[.tmp 171, .tmp 175], argTypes := _ }, type := _, pos := _, after := _, guard := _ }) rfl (fun K hK => ?_) AllReadyH.nil
                go_simp
                refine Calls.mono (HPI'.out v11) ?_
                rintro e u15 ⟨rfl, bx⟩
                have HXn15 := Lib.hid (HXa.out.below bx HXa.out.lt)
                have HOn15 := Lib.hid (own_below HOa.out bx)
                have HTn15 := Lib.hid (HTa.out.trans (Law.Touch.of_below bx (fun _ => False)) (fun _ e => e.elim))
                clear bx
                go_wp2_with fail
                refine hK.out _ _ trivial (fun _ => ?_)
                clear hK K
                try simp only [Act.put, List.setIfInBounds_toArray, List.set_cons_zero, List.set_cons_succ]
                refine wpAnyH_ready (rs := [1, 10]) (by kernel_rfl) (by simp) ?_
                refine AllReadyH.cons (o := { dst := some 168, op := .load 29 (.tmp 167), type := _, pos := _, after := _, guard := _ }) rfl (fun K hK => ?_) ?_
                · have cl := HXn15.out.cell' (i := 8) (v := .slice D3 m cap3) rfl
                  have ll := HXn15.out.lt
                  go_simp
                  refine hK.out _ _ trivial (fun _ => ?_)
                  clear hK K cl ll
                  try simp only [Act.put, List.setIfInBounds_toArray, List.set_cons_zero, List.set_cons_succ]
                  refine wpAnyH_ready (rs := [10]) (by kernel_rfl) (by simp) ?_
                  refine AllReadyH.cons (o := { dst := some 177, op := .buildSlice 29 1 #[(0, .tmp 176)], type := _, pos := _, after := _, guard := _ }) rfl (fun K hK => ?_) AllReadyH.nil
                  go_simp
                  have bx := (Below.refl u15.heap.size u15).alloc (Nat.le_refl _) (.cells #[.int .i64 q0, .int .i64 q1, .int .u64 q2] 34)
                  have HXn16 := Lib.hid (HXn15.out.below bx HXn15.out.lt)
                  have HOn16 := Lib.hid (own_below HOn15.out bx)
                  have HTn16 := Lib.hid (HTn15.out.trans (Law.Touch.of_below bx (fun _ => False)) (fun _ e => e.elim))
                  have HNn16 := Lib.hid (Is.new u15 34 #[.int .i64 q0, .int .i64 q1, .int .u64 q2] rfl)
                  clear bx
                  refine hK.out _ _ trivial (fun _ => ?_)
                  clear hK K
                  try simp only [Act.put, List.setIfInBounds_toArray, List.set_cons_zero, List.set_cons_succ]
                  generalize u15.alloc (.cells #[.int .i64 q0, .int .i64 q1, .int .u64 q2] 34) = x16 at *
                  generalize u15.heap.size = g16 at *
                  refine wpAnyH_ready (rs := [11]) (by kernel_rfl) (by simp) ?_
                  refine AllReadyH.cons (o := { dst := some 178, op := .call { callee := .builtin .append, args := #[.tmp 168, .tmp 177], argTypes := #[29, 29] }, type := _, pos := _, after := _, guard := _ }) rfl (fun K hK => ?_) AllReadyH.nil
                  refine Law.step_append_seq _ _ 29 rfl (.tmp 168) (.tmp 177) rfl HEP.out (.slice D3 m cap3) m (flatPk (pkTo b pe m)) (by simp [Act.eval]) (by exact HOn16.out) 0 x16.heap.size (some ⟨g16, 0, none⟩) 1 1 (cellsPk (q0, q1, q2)) (by simp [Act.eval]) rfl (Lain.is HNn16.out rfl).seq (three_one _) (by unfold maxLen; omega) (by omega) (by exact HTn16.out.size) ?_
                  intro v17 y17 own grow
                  have HXm17 := Lib.hid (HXn16.out.grown grow (fun e => by have := (HOn16.out.lt gs e).1; omega))
                  have HTm17 := Lib.hid (HTn16.out.trans (T' := fun k => Value.ownBlock (.slice D3 m cap3) = some k) (Law.Touch.grown grow fun _ e => e) (fun k e => .inr (HOn16.out.lt k e).1))
                  have HOm17 := Lib.hid own
                  obtain ⟨A17, k17, rfl, _⟩ := own_shape own
                  clear own grow
                  refine hK.out _ _ trivial (fun hSy => ?_)
                  clear hK K
                  try simp only [Act.put, List.setIfInBounds_toArray, List.set_cons_zero, List.set_cons_succ]
                  refine wpAnyH_take (i := 12) (oi := { dst := some 179, op := .fieldAddr 31 (.tmp 3) 2, type := _, pos := _, after := _, guard := _ }) (v := .pointer (some ⟨gs, 8, none⟩)) rfl (by kernel_rfl) (by kernel_rfl) (by kernel_rfl) (fun _ _ _ h => h) (Or.inl ⟨by rfl, ?_⟩) hSy ?_
                  · intro w' hSw
                    go_simp
                  try simp only [Act.put, List.setIfInBounds_toArray, List.set_cons_zero, List.set_cons_succ]
                  have c8 := HXm17.out.cell' (i := 8) (v := .slice D3 m cap3) rfl
                  have f8 := HXm17.out.frozen 8
                  have l8 := HXm17.out.lt
                  have st : Law.Touch y17 (y17.setCell ⟨gs, 8, none⟩ (.slice A17 (m + 1) k17)) (fun k => k = gs) := Law.Touch.store _ _ _ rfl
                  have HXs := Lib.hid (HXm17.out.set 8 (.slice A17 (m + 1) k17) rfl)
                  have HTs := Lib.hid (HTm17.out.trans st (fun _ e => .inl e))
                  have HOs := Lib.hid (st.own HOm17.out (fun k e => by have := (HOm17.out.lt k e).1; omega))
                  clear st
                  refine wpAnyH_ready (rs := [13]) (by kernel_rfl) (by simp) ?_
                  refine AllReadyH.cons (o := { dst := none, op := .store 29 (.tmp 179) (.tmp 178), type := _, pos := _, after := _, guard := _ }) rfl (fun K hK => ?_) AllReadyH.nil
                  go_simp
                  refine hK.out _ _ trivial (fun hSz => ?_)
                  clear hK K
                  try simp only [Act.put, List.setIfInBounds_toArray, List.set_cons_zero, List.set_cons_succ]
                  clear c8 f8 l8
                  refine wpAnyH_done (by kernel_rfl) ?_ _
                  generalize y17.setCell ⟨gs, 8, none⟩ (.slice A17 (m + 1) k17) = wz at *
                  go_wp2_with fail
                  go_roundw
                  case rel =>
                    exact ⟨m + 1, A17, k17, by omega, congrArg _ (by omega), HXs.out, by rw [HUS.out, flatPk_snoc]; exact HOs.out, HTs.out⟩
                  case measure => simp [RowKit.intOf]; omega
                · refine AllReadyH.cons (o := { dst := some 177, op := .buildSlice 29 1 #[(0, .tmp 176)], type := _, pos := _, after := _, guard := _ }) rfl (fun K hK => ?_) AllReadyH.nil
                  go_simp
                  have bx := (Below.refl u15.heap.size u15).alloc (Nat.le_refl _) (.cells #[.int .i64 q0, .int .i64 q1, .int .u64 q2] 34)
                  have HXn18 := Lib.hid (HXn15.out.below bx HXn15.out.lt)
                  have HOn18 := Lib.hid (own_below HOn15.out bx)
                  have HTn18 := Lib.hid (HTn15.out.trans (Law.Touch.of_below bx (fun _ => False)) (fun _ e => e.elim))
                  have HNn18 := Lib.hid (Is.new u15 34 #[.int .i64 q0, .int .i64 q1, .int .u64 q2] rfl)
                  clear bx
                  refine hK.out _ _ trivial (fun _ => ?_)
                  clear hK K
                  try simp only [Act.put, List.setIfInBounds_toArray, List.set_cons_zero, List.set_cons_succ]
                  generalize u15.alloc (.cells #[.int .i64 q0, .int .i64 q1, .int .u64 q2] 34) = x18 at *
                  generalize u15.heap.size = g18 at *
                  refine wpAnyH_ready (rs := [1]) (by kernel_rfl) (by simp) ?_
                  refine AllReadyH.cons (o := { dst := some 168, op := .load 29 (.tmp 167), type := _, pos := _, after := _, guard := _ }) rfl (fun K hK => ?_) AllReadyH.nil
                  have cl := HXn18.out.cell' (i := 8) (v := .slice D3 m cap3) rfl
                  have ll := HXn18.out.lt
                  go_simp
                  refine hK.out _ _ trivial (fun _ => ?_)
                  clear hK K cl ll
                  try simp only [Act.put, List.setIfInBounds_toArray, List.set_cons_zero, List.set_cons_succ]
                  refine wpAnyH_ready (rs := [11]) (by kernel_rfl) (by simp) ?_
                  refine AllReadyH.cons (o := { dst := some 178, op := .call { callee := .builtin .append, args := #[.tmp 168, .tmp 177], argTypes := #[29, 29] }, type := _, pos := _, after := _, guard := _ }) rfl (fun K hK => ?_) AllReadyH.nil
                  refine Law.step_append_seq _ _ 29 rfl (.tmp 168) (.tmp 177) rfl HEP.out (.slice D3 m cap3) m (flatPk (pkTo b pe m)) (by simp [Act.eval]) (by exact HOn18.out) 0 x18.heap.size (some ⟨g18, 0, none⟩) 1 1 (cellsPk (q0, q1, q2)) (by simp [Act.eval]) rfl (Lain.is HNn18.out rfl).seq (three_one _) (by unfold maxLen; omega) (by omega) (by exact HTn18.out.size) ?_
                  intro v19 y19 own grow
                  have HXm19 := Lib.hid (HXn18.out.grown grow (fun e => by have := (HOn18.out.lt gs e).1; omega))
                  have HTm19 := Lib.hid (HTn18.out.trans (T' := fun k => Value.ownBlock (.slice D3 m cap3) = some k) (Law.Touch.grown grow fun _ e => e) (fun k e => .inr (HOn18.out.lt k e).1))
                  have HOm19 := Lib.hid own
                  obtain ⟨A19, k19, rfl, _⟩ := own_shape own
                  clear own grow
                  refine hK.out _ _ trivial (fun hSy => ?_)
                  clear hK K
                  try simp only [Act.put, List.setIfInBounds_toArray, List.set_cons_zero, List.set_cons_succ]
                  refine wpAnyH_take (i := 12) (oi := { dst := some 179, op := .fieldAddr 31 (.tmp 3) 2, type := _, pos := _, after := _, guard := _ }) (v := .pointer (some ⟨gs, 8, none⟩)) rfl (by kernel_rfl) (by kernel_rfl) (by kernel_rfl) (fun _ _ _ h => h) (Or.inl ⟨by rfl, ?_⟩) hSy ?_
                  · intro w' hSw
                    go_simp
                  try simp only [Act.put, List.setIfInBounds_toArray, List.set_cons_zero, List.set_cons_succ]
                  have c8 := HXm19.out.cell' (i := 8) (v := .slice D3 m cap3) rfl
                  have f8 := HXm19.out.frozen 8
                  have l8 := HXm19.out.lt
                  have st : Law.Touch y19 (y19.setCell ⟨gs, 8, none⟩ (.slice A19 (m + 1) k19)) (fun k => k = gs) := Law.Touch.store _ _ _ rfl
                  have HXs := Lib.hid (HXm19.out.set 8 (.slice A19 (m + 1) k19) rfl)
                  have HTs := Lib.hid (HTm19.out.trans st (fun _ e => .inl e))
                  have HOs := Lib.hid (st.own HOm19.out (fun k e => by have := (HOm19.out.lt k e).1; omega))
                  clear st
                  refine wpAnyH_ready (rs := [13]) (by kernel_rfl) (by simp) ?_
                  refine AllReadyH.cons (o := { dst := none, op := .store 29 (.tmp 179) (.tmp 178), type := _, pos := _, after := _, guard := _ }) rfl (fun K hK => ?_) AllReadyH.nil
                  go_simp
                  refine hK.out _ _ trivial (fun hSz => ?_)
                  clear hK K
                  try simp only [Act.put, List.setIfInBounds_toArray, List.set_cons_zero, List.set_cons_succ]
                  clear c8 f8 l8
                  refine wpAnyH_done (by kernel_rfl) ?_ _
                  generalize y19.setCell ⟨gs, 8, none⟩ (.slice A19 (m + 1) k19) = wz at *
                  go_wp2_with fail
                  go_roundw
                  case rel =>
                    exact ⟨m + 1, A19, k19, by omega, congrArg _ (by omega), HXs.out, by rw [HUS.out, flatPk_snoc]; exact HOs.out, HTs.out⟩
                  case measure => simp [RowKit.intOf]; omega
        · have hmn : m = n := by omega
          subst hmn
          have hmi : ¬ (pe + 2 * m < b.length ∧ m < 20000) := fun h => hlm ((HNI.out m).2 h)
          have HR4 := Lib.hid (HT4.out.is HR.out (by omega))
          have HC4 := Lib.hid (show Cls wr D ls from ⟨(Lain.own HO.out).keeps (Keeps.touch1 HT4.out HS.out (by decide)), fun r hr => (HU.out r hr).keeps (Keeps.touch1 HT4.out HS.out (by decide)) (Keeps.touch1 HT4.out HS.out (by decide))⟩)
          have HP4 := Lib.hid (show Lain 34 wr D3 (flatPk (pkTo b pe m)) from Lain.own HO4.out)
          have x0 := HS4.out.cell' (i := 0) (v := .int .i64 (1 + at_ b 0 % 8)) rfl
          have y0 := HR4.out.cell' (i := 0) (v := .int .i64 0) rfl
          have z0 := HR4.out.frozen 0
          have x1 := HS4.out.cell' (i := 1) (v := .int .i64 (1 + at_ b 1 % 8)) rfl
          have y1 := HR4.out.cell' (i := 1) (v := .int .i64 0) rfl
          have z1 := HR4.out.frozen 1
          have x2 := HS4.out.cell' (i := 2) (v := .int .i64 (1 + at_ b 2 % 16)) rfl
          have y2 := HR4.out.cell' (i := 2) (v := .int .i64 0) rfl
          have z2 := HR4.out.frozen 2
          have x3 := HS4.out.cell' (i := 3) (v := .int .i64 (1 + at_ b 3 % 8)) rfl
          have y3 := HR4.out.cell' (i := 3) (v := .int .i64 0) rfl
          have z3 := HR4.out.frozen 3
          have x4 := HS4.out.cell' (i := 4) (v := .int .i64 (at_ b 4 % 5)) rfl
          have y4 := HR4.out.cell' (i := 4) (v := .int .i64 0) rfl
          have z4 := HR4.out.frozen 4
          have x5 := HS4.out.cell' (i := 5) (v := .int .u64 (at_ b 5)) rfl
          have y5 := HR4.out.cell' (i := 5) (v := .int .u64 0) rfl
          have z5 := HR4.out.frozen 5
          have x6 := HS4.out.cell' (i := 6) (v := .int .u64 (longI (at_ b 6))) rfl
          have y6 := HR4.out.cell' (i := 6) (v := .int .u64 0) rfl
          have z6 := HR4.out.frozen 6
          have x7 := HS4.out.cell' (i := 7) (v := .slice D k cap) rfl
          have y7 := HR4.out.cell' (i := 7) (v := .slice none 0 0) rfl
          have z7 := HR4.out.frozen 7
          have x8 := HS4.out.cell' (i := 8) (v := .slice D3 m cap3) rfl
          have y8 := HR4.out.cell' (i := 8) (v := .slice none 0 0) rfl
          have z8 := HR4.out.frozen 8
          have ly := HR4.out.lt
          have hne : w.heap.size ≠ gs := by omega
          have hne2 : gs ≠ w.heap.size := by omega
          by_cases hA9 : pe + 2 * m < b.length
          · have dA : decide (((pe + 2 * m : Nat) : Int) < (b.length : Int)) = true := decide_eq_true (by omega)
            have d20 : decide ((m : Int) < 20000) = false := decide_eq_false (by omega)
            go_wp2_with fail
            clear x0 y0 z0 x1 y1 z1 x2 y2 z2 x3 y3 z3 x4 y4 z4 x5 y5 z5 x6 y6 z6 x7 y7 z7 x8 y8 z8
            have ST9 : Law.Touch wr (((((((((wr.setCell ⟨w.heap.size, 0, none⟩ (.int .i64 (1 + at_ b 0 % 8))).setCell ⟨w.heap.size, 1, none⟩ (.int .i64 (1 + at_ b 1 % 8))).setCell ⟨w.heap.size, 2, none⟩ (.int .i64 (1 + at_ b 2 % 16))).setCell ⟨w.heap.size, 3, none⟩ (.int .i64 (1 + at_ b 3 % 8))).setCell ⟨w.heap.size, 4, none⟩ (.int .i64 (at_ b 4 % 5))).setCell ⟨w.heap.size, 5, none⟩ (.int .u64 (at_ b 5))).setCell ⟨w.heap.size, 6, none⟩ (.int .u64 (longI (at_ b 6)))).setCell ⟨w.heap.size, 7, none⟩ (.slice D k cap)).setCell ⟨w.heap.size, 8, none⟩ (.slice D3 m cap3)) (fun k => k = w.heap.size) := by
              have st : ∀ (W : World) k v, Law.Touch W (W.setCell ⟨w.heap.size, k, none⟩ v) (fun k => k = w.heap.size) := fun W k v => Law.Touch.store _ _ _ rfl
              exact ((((((((st _ 0 _).trans (st _ 1 _) (fun _ e => .inl e)).trans (st _ 2 _) (fun _ e => .inl e)).trans (st _ 3 _) (fun _ e => .inl e)).trans (st _ 4 _) (fun _ e => .inl e)).trans (st _ 5 _) (fun _ e => .inl e)).trans (st _ 6 _) (fun _ e => .inl e)).trans (st _ 7 _) (fun _ e => .inl e)).trans (st _ 8 _) (fun _ e => .inl e)
            have HT9 := Lib.hid ST9
            clear ST9
            have IS9 := Lib.hid (Is.fill9 HR4.out rfl (.int .i64 (1 + at_ b 0 % 8)) (.int .i64 (1 + at_ b 1 % 8)) (.int .i64 (1 + at_ b 2 % 16)) (.int .i64 (1 + at_ b 3 % 8)) (.int .i64 (at_ b 4 % 5)) (.int .u64 (at_ b 5)) (.int .u64 (longI (at_ b 6))) (.slice D k cap) (.slice D3 m cap3))
            have HB9 := Lib.hid (HT9.out.below HB4.out (fun k e => by rw [e]; exact Nat.le_refl _) HB4.out.size)
            have HC9 := Lib.hid (HC4.out.keeps (Keeps.touch1 HT9.out HR4.out (by decide)) (Keeps.touch1 HT9.out HR4.out (by decide)) (Keeps.touch1 HT9.out HR4.out (by decide)))
            have HP9 := Lib.hid (HP4.out.keeps (Keeps.touch1 HT9.out HR4.out (by decide)))
            generalize (((((((((wr.setCell ⟨w.heap.size, 0, none⟩ (.int .i64 (1 + at_ b 0 % 8))).setCell ⟨w.heap.size, 1, none⟩ (.int .i64 (1 + at_ b 1 % 8))).setCell ⟨w.heap.size, 2, none⟩ (.int .i64 (1 + at_ b 2 % 16))).setCell ⟨w.heap.size, 3, none⟩ (.int .i64 (1 + at_ b 3 % 8))).setCell ⟨w.heap.size, 4, none⟩ (.int .i64 (at_ b 4 % 5))).setCell ⟨w.heap.size, 5, none⟩ (.int .u64 (at_ b 5))).setCell ⟨w.heap.size, 6, none⟩ (.int .u64 (longI (at_ b 6)))).setCell ⟨w.heap.size, 7, none⟩ (.slice D k cap)).setCell ⟨w.heap.size, 8, none⟩ (.slice D3 m cap3)) = w9 at *
            have n0 := IS9.out.cell' (i := 0) (v := .int .i64 (1 + at_ b 0 % 8)) rfl
            have n1 := IS9.out.cell' (i := 1) (v := .int .i64 (1 + at_ b 1 % 8)) rfl
            have n2 := IS9.out.cell' (i := 2) (v := .int .i64 (1 + at_ b 2 % 16)) rfl
            have n3 := IS9.out.cell' (i := 3) (v := .int .i64 (1 + at_ b 3 % 8)) rfl
            have n4 := IS9.out.cell' (i := 4) (v := .int .i64 (at_ b 4 % 5)) rfl
            have n5 := IS9.out.cell' (i := 5) (v := .int .u64 (at_ b 5)) rfl
            have n6 := IS9.out.cell' (i := 6) (v := .int .u64 (longI (at_ b 6))) rfl
            have n7 := IS9.out.cell' (i := 7) (v := .slice D k cap) rfl
            have n8 := IS9.out.cell' (i := 8) (v := .slice D3 m cap3) rfl
            first
              | exact bodyPost_ret (v := .agg #[.int .i64 (1 + at_ b 0 % 8), .int .i64 (1 + at_ b 1 % 8), .int .i64 (1 + at_ b 2 % 16), .int .i64 (1 + at_ b 3 % 8), .int .i64 (at_ b 4 % 5), .int .u64 (at_ b 5), .int .u64 (longI (at_ b 6)), .slice D k cap, .slice D3 m cap3]) (by simp [results, Tryd.results12, go_sem, n0, n1, n2, n3, n4, n5, n6, n7, n8]) rfl ⟨D, cap, ls, D3, cap3, by rw [HPKS.out, pkTo_len, HLL.out], HPLC.out, HC9.out, by rw [HPKS.out]; exact HP9.out, HB9.out⟩
              | exact bodyPost_ret (v := .agg #[.int .i64 (1 + at_ b 0 % 8), .int .i64 (1 + at_ b 1 % 8), .int .i64 (1 + at_ b 2 % 16), .int .i64 (1 + at_ b 3 % 8), .int .i64 (at_ b 4 % 5), .int .u64 (at_ b 5), .int .u64 (longI (at_ b 6)), .slice D k cap, .slice D3 m cap3]) (by simp [results, Tryd.results12, go_sem, n0, n1, n2, n3, n4, n5, n6, n7, n8]) rfl ⟨D, cap, ls, D3, ⟨cap3, by rw [HPKS.out, pkTo_len, HLL.out]⟩, HPLC.out, HC9.out, by rw [HPKS.out]; exact HP9.out, HB9.out⟩
          · have dA : decide (((pe + 2 * m : Nat) : Int) < (b.length : Int)) = false := decide_eq_false (by omega)
            go_wp2_with fail
            clear x0 y0 z0 x1 y1 z1 x2 y2 z2 x3 y3 z3 x4 y4 z4 x5 y5 z5 x6 y6 z6 x7 y7 z7 x8 y8 z8
            have ST9 : Law.Touch wr (((((((((wr.setCell ⟨w.heap.size, 0, none⟩ (.int .i64 (1 + at_ b 0 % 8))).setCell ⟨w.heap.size, 1, none⟩ (.int .i64 (1 + at_ b 1 % 8))).setCell ⟨w.heap.size, 2, none⟩ (.int .i64 (1 + at_ b 2 % 16))).setCell ⟨w.heap.size, 3, none⟩ (.int .i64 (1 + at_ b 3 % 8))).setCell ⟨w.heap.size, 4, none⟩ (.int .i64 (at_ b 4 % 5))).setCell ⟨w.heap.size, 5, none⟩ (.int .u64 (at_ b 5))).setCell ⟨w.heap.size, 6, none⟩ (.int .u64 (longI (at_ b 6)))).setCell ⟨w.heap.size, 7, none⟩ (.slice D k cap)).setCell ⟨w.heap.size, 8, none⟩ (.slice D3 m cap3)) (fun k => k = w.heap.size) := by
              have st : ∀ (W : World) k v, Law.Touch W (W.setCell ⟨w.heap.size, k, none⟩ v) (fun k => k = w.heap.size) := fun W k v => Law.Touch.store _ _ _ rfl
              exact ((((((((st _ 0 _).trans (st _ 1 _) (fun _ e => .inl e)).trans (st _ 2 _) (fun _ e => .inl e)).trans (st _ 3 _) (fun _ e => .inl e)).trans (st _ 4 _) (fun _ e => .inl e)).trans (st _ 5 _) (fun _ e => .inl e)).trans (st _ 6 _) (fun _ e => .inl e)).trans (st _ 7 _) (fun _ e => .inl e)).trans (st _ 8 _) (fun _ e => .inl e)
            have HT9 := Lib.hid ST9
            clear ST9
            have IS9 := Lib.hid (Is.fill9 HR4.out rfl (.int .i64 (1 + at_ b 0 % 8)) (.int .i64 (1 + at_ b 1 % 8)) (.int .i64 (1 + at_ b 2 % 16)) (.int .i64 (1 + at_ b 3 % 8)) (.int .i64 (at_ b 4 % 5)) (.int .u64 (at_ b 5)) (.int .u64 (longI (at_ b 6))) (.slice D k cap) (.slice D3 m cap3))
            have HB9 := Lib.hid (HT9.out.below HB4.out (fun k e => by rw [e]; exact Nat.le_refl _) HB4.out.size)
            have HC9 := Lib.hid (HC4.out.keeps (Keeps.touch1 HT9.out HR4.out (by decide)) (Keeps.touch1 HT9.out HR4.out (by decide)) (Keeps.touch1 HT9.out HR4.out (by decide)))
            have HP9 := Lib.hid (HP4.out.keeps (Keeps.touch1 HT9.out HR4.out (by decide)))
            generalize (((((((((wr.setCell ⟨w.heap.size, 0, none⟩ (.int .i64 (1 + at_ b 0 % 8))).setCell ⟨w.heap.size, 1, none⟩ (.int .i64 (1 + at_ b 1 % 8))).setCell ⟨w.heap.size, 2, none⟩ (.int .i64 (1 + at_ b 2 % 16))).setCell ⟨w.heap.size, 3, none⟩ (.int .i64 (1 + at_ b 3 % 8))).setCell ⟨w.heap.size, 4, none⟩ (.int .i64 (at_ b 4 % 5))).setCell ⟨w.heap.size, 5, none⟩ (.int .u64 (at_ b 5))).setCell ⟨w.heap.size, 6, none⟩ (.int .u64 (longI (at_ b 6)))).setCell ⟨w.heap.size, 7, none⟩ (.slice D k cap)).setCell ⟨w.heap.size, 8, none⟩ (.slice D3 m cap3)) = w9 at *
            have n0 := IS9.out.cell' (i := 0) (v := .int .i64 (1 + at_ b 0 % 8)) rfl
            have n1 := IS9.out.cell' (i := 1) (v := .int .i64 (1 + at_ b 1 % 8)) rfl
            have n2 := IS9.out.cell' (i := 2) (v := .int .i64 (1 + at_ b 2 % 16)) rfl
            have n3 := IS9.out.cell' (i := 3) (v := .int .i64 (1 + at_ b 3 % 8)) rfl
            have n4 := IS9.out.cell' (i := 4) (v := .int .i64 (at_ b 4 % 5)) rfl
            have n5 := IS9.out.cell' (i := 5) (v := .int .u64 (at_ b 5)) rfl
            have n6 := IS9.out.cell' (i := 6) (v := .int .u64 (longI (at_ b 6))) rfl
            have n7 := IS9.out.cell' (i := 7) (v := .slice D k cap) rfl
            have n8 := IS9.out.cell' (i := 8) (v := .slice D3 m cap3) rfl
            first
              | exact bodyPost_ret (v := .agg #[.int .i64 (1 + at_ b 0 % 8), .int .i64 (1 + at_ b 1 % 8), .int .i64 (1 + at_ b 2 % 16), .int .i64 (1 + at_ b 3 % 8), .int .i64 (at_ b 4 % 5), .int .u64 (at_ b 5), .int .u64 (longI (at_ b 6)), .slice D k cap, .slice D3 m cap3]) (by simp [results, Tryd.results12, go_sem, n0, n1, n2, n3, n4, n5, n6, n7, n8]) rfl ⟨D, cap, ls, D3, cap3, by rw [HPKS.out, pkTo_len, HLL.out], HPLC.out, HC9.out, by rw [HPKS.out]; exact HP9.out, HB9.out⟩
              | exact bodyPost_ret (v := .agg #[.int .i64 (1 + at_ b 0 % 8), .int .i64 (1 + at_ b 1 % 8), .int .i64 (1 + at_ b 2 % 16), .int .i64 (1 + at_ b 3 % 8), .int .i64 (at_ b 4 % 5), .int .u64 (at_ b 5), .int .u64 (longI (at_ b 6)), .slice D k cap, .slice D3 m cap3]) (by simp [results, Tryd.results12, go_sem, n0, n1, n2, n3, n4, n5, n6, n7, n8]) rfl ⟨D, cap, ls, D3, ⟨cap3, by rw [HPKS.out, pkTo_len, HLL.out]⟩, HPLC.out, HC9.out, by rw [HPKS.out]; exact HP9.out, HB9.out⟩
end Opx
end Go.Proofs.YtlkbfnpncomifaaDoor

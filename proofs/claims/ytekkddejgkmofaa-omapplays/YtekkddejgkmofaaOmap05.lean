/-
  What the statements' 'is' (layer 4) comes to where a map is these pairs.
-/
import Derived.Test.YtekkddejgkmofaaOmap04
namespace Go.Proofs.Ytekkddejgkmofaa
open Go.RowKit
namespace Omap
theorem at_pre {xs pre : List (ByteArray × Int)} {q : ByteArray × Int} (h : pre ++ [q] <+: xs) : ∃ hl : pre.length < xs.length, xs[pre.length] = q := by
  obtain ⟨t, rfl⟩ := h
  exact ⟨by simp, by simp⟩
/-- between two rounds of 'is': g says whether all was good, n how many came -/
structure Count (Wb : World) (g n bw bk : Nat) (A K : Option Addr) (c ck : Nat) (xs pre : List (ByteArray × Int)) (W : World) : Prop where
  good : Law.Is W g 4 #[.bool true]
  num : Law.Is W n 3 #[.int .i64 (pre.length : Int)]
  bel : Below Wb.heap.size Wb W

set_option maxHeartbeats 1600000 in
theorem is1 (Wb : World) (g n bw bk : Nat) (A K : Option Addr) (c ck : Nat) (xs pre : List (ByteArray × Int)) (key : ByteArray) (val : Int) (W : World) (hJ : Count Wb g n bw bk A K c ck xs pre W) (hp : pre ++ [(key, val)] <+: xs) (hx : xs.length ≤ 900)
    (hg : Wb.heap.size ≤ g) (hn : Wb.heap.size ≤ n) (iw : Law.Is Wb bw 28 #[.slice A xs.length c]) (ik : Law.Is Wb bk 56 #[.slice K xs.length ck])
    (hs : Law.Prs Wb Wb.heap.size A xs) (hk : Law.Seq Wb 0 Wb.heap.size K (xs.map fun x => .string x.1)) :
    Calls Try.prog 31 #[.string key, .int .i64 val, .pointer (some ⟨g, 0, none⟩), .pointer (some ⟨n, 0, none⟩), .pointer (some ⟨bw, 0, none⟩), .pointer (some ⟨bk, 0, none⟩)] W fun e W' =>
      e = .returned (.bool true) ∧ Count Wb g n bw bk A K c ck xs (pre ++ [(key, val)]) W' ∧ Law.Keeps 69 W W' := by
  obtain ⟨hl, he⟩ := at_pre hp
  obtain ⟨b, off, rfl, _, q0, q1⟩ := (hs.below hJ.bel).at hl
  obtain ⟨b2, off2, rfl, _, _, r0⟩ := (hk.below hJ.bel).at (i := pre.length) (by simpa using hl)
  simp only [List.getElem_map] at r0
  rw [he] at q0 q1 r0
  simp only at q0 q1 r0
  have cg : W.cell? ⟨g, 0, none⟩ = some (.bool true) := hJ.good.cell' rfl
  have fg := hJ.good.frozen 0
  have lg := hJ.good.lt
  have cn : W.cell? ⟨n, 0, none⟩ = some (.int .i64 (pre.length : Int)) := hJ.num.cell' rfl
  have fn := hJ.num.frozen 0
  have ln := hJ.num.lt
  have cw : W.cell? ⟨bw, 0, none⟩ = some (.slice (some ⟨b, off, none⟩) xs.length c) := (iw.below hJ.bel iw.lt).cell' rfl
  have ck' : W.cell? ⟨bk, 0, none⟩ = some (.slice (some ⟨b2, off2, none⟩) xs.length ck) := (ik.below hJ.bel ik.lt).cell' rfl
  have ngn : g ≠ n := hJ.good.type_ne hJ.num (by decide)
  have HF : Hid (Count Wb g n bw bk (some ⟨b, off, none⟩) (some ⟨b2, off2, none⟩) c ck xs (pre ++ [(key, val)]) ((W.setCell ⟨g, 0, none⟩ (.bool true)).setCell ⟨n, 0, none⟩ (.int .i64 ((pre.length : Int) + 1))) ∧
      Law.Keeps 69 W ((W.setCell ⟨g, 0, none⟩ (.bool true)).setCell ⟨n, 0, none⟩ (.int .i64 ((pre.length : Int) + 1)))) := by
    have n1 := hJ.num.far (p := ⟨g, 0, none⟩) ngn.symm (.bool true)
    have g1 : Law.Is (W.setCell ⟨g, 0, none⟩ (.bool true)) g 4 #[.bool true] := hJ.good.set 0 _ rfl
    exact ⟨⟨g1.far (p := ⟨n, 0, none⟩) ngn _, n1.set 0 _ (by simp), (hJ.bel.setCell (p := ⟨g, 0, none⟩) hg _).setCell (p := ⟨n, 0, none⟩) hn _⟩, (Law.Keeps.store (i := 0) hJ.good (by decide) _).trans (Law.Keeps.store (i := 0) n1 (by decide) _)⟩
  have hlt' : (pre.length : Int) < (xs.length : Int) := by omega
  have hpl : pre.length ≤ 900 := by omega
  clear hJ hp iw ik hs hk he hg hn
  go_enter Try.func31, Try.ntmps31
  go_wp2_with fail
  go_ret
  exact ⟨rfl, HF.out⟩

set_option maxRecDepth 100000 in
set_option maxHeartbeats 2000000 in
theorem is_ (xs : List (ByteArray × Int)) (p A : Option Addr) (c : Nat) (w : World) (ht : OmapS.At w w.heap.size p xs) (hs : Law.Prs w w.heap.size A xs) (hx : xs.length ≤ 900) :
    Calls Try.prog 14 #[OmapS.M p, .slice A xs.length c] w fun e w' => e = .returned (.bool true) ∧ Below w.heap.size w w' := by
  have HT := Lib.hid ht
  have HS := Lib.hid hs
  clear ht hs
  go_enter Try.func14, Try.ntmps14
  go_wp2_with fail
  have B0 : Below w.heap.size w ((w.alloc (.cells #[.pointer p] 27)).alloc (.cells #[.slice A xs.length c] 28)) := ((Below.refl _ w).alloc (Nat.le_refl _) _).alloc (by simp) _
  have I0 : Law.Is ((w.alloc (.cells #[.pointer p] 27)).alloc (.cells #[.slice A xs.length c] 28)) w.heap.size 27 #[.pointer p] := (Law.Is.new _ _ _ rfl).alloc _
  have I1 : Law.Is ((w.alloc (.cells #[.pointer p] 27)).alloc (.cells #[.slice A xs.length c] 28)) (w.heap.size + 1) 28 #[.slice A xs.length c] := Law.Is.new _ _ _ (by simp)
  generalize (w.alloc (.cells #[.pointer p] 27)).alloc (.cells #[.slice A xs.length c] 28) = w0 at *
  refine (OmapS.keys (HT.out.under B0) B0.size (by omega)).mono ?_
  rintro e w1 ⟨K, ck, rfl, _, s1, b1⟩
  have K1 : Below w1.heap.size w1 (w1.alloc (.cells #[.slice K xs.length ck] 56)) := (Below.refl _ w1).alloc (Nat.le_refl _) _
  have J0 := (I0.below b1 I0.lt).alloc (.cells #[.slice K xs.length ck] 56)
  have J1 := (I1.below b1 I1.lt).alloc (.cells #[.slice K xs.length ck] 56)
  have J2 : Law.Is (w1.alloc (.cells #[.slice K xs.length ck] 56)) w1.heap.size 56 #[.slice K xs.length ck] := Law.Is.new _ _ _ rfl
  have B1 : Below w.heap.size w (w1.alloc (.cells #[.slice K xs.length ck] 56)) := (B0.trans (b1.mono B0.size)).trans (K1.mono (Nat.le_trans B0.size b1.size))
  have S1 := Lib.hid (((s1.from_ (Nat.zero_le _)).below K1).more K1.size)
  have T1 := Lib.hid ((HT.out.under B1).wide B1.size)
  have P1 := Lib.hid ((HS.out.below B1).wide B1.size)
  have HB1 := Lib.hid B1
  clear s1 b1 B0 I0 I1 B1 K1
  go_upto_region 2 with (fail)
  generalize hbk : w1.heap.size = bk at *
  generalize w1.alloc (.cells #[.slice K xs.length ck] 56) = w2 at *
  have c0 : w2.cell? ⟨w.heap.size, 0, none⟩ = some (.pointer p) := J0.cell' rfl
  have c1 : w2.cell? ⟨w.heap.size + 1, 0, none⟩ = some (.slice A xs.length c) := J1.cell' rfl
  have c2 : w2.cell? ⟨bk, 0, none⟩ = some (.slice K xs.length ck) := J2.cell' rfl
  have l0 := J0.lt
  have l1 := J1.lt
  have l2 := J2.lt
  have HJ1 := Lib.hid J1
  have HJ2 := Lib.hid J2
  have HJ0 := Lib.hid J0
  clear J0 J1 J2 hbk
  generalize w.heap.size + 1 = bw at *
  go_cut [21] (fun v wx => v = .bool false ∧ Below w2.heap.size w2 wx)
  case first =>
    go_region_held3 (fun w' => w'.cell? ⟨w.heap.size, 0, none⟩ = some (.pointer p) ∧ w'.cell? ⟨bw, 0, none⟩ = some (.slice A xs.length c) ∧ w'.cell? ⟨bk, 0, none⟩ = some (.slice K xs.length ck)) (first | (go_simp; done) | (go_keep; done)) (first
      | (go_at_call 18; refine (OmapS.len (T1.out.drewN 1) (Nat.le_refl _)).mono ?_; rintro e w3 ⟨rfl, rfl⟩))
    all_goals
      go_wp2_with fail
      go_meet
      refine ⟨rfl, ?_⟩
      repeat (first | with_reducible exact Below.refl _ _ | with_reducible refine Below.drew ?_ | with_reducible refine Law.below_drewN ?_ _ | ((with_reducible refine Below.alloc ?_ ?_ _); rotate_left 1; exact Nat.le_refl _))
  case rest =>
    obtain ⟨rfl, bc⟩ := hcut
    have c0' := (bc.cell (p := ⟨w.heap.size, 0, none⟩) l0).trans c0
    have c1' := (bc.cell (p := ⟨bw, 0, none⟩) l1).trans c1
    have IW := Lib.hid (HJ1.out.below bc l1)
    have IK := Lib.hid (HJ2.out.below bc l2)
    have TC := Lib.hid ((T1.out.under bc).wide bc.size)
    have PC := Lib.hid ((P1.out.below bc).wide bc.size)
    have SC := Lib.hid ((S1.out.below bc).more bc.size)
    have HBC := Lib.hid (HB1.out.trans (bc.mono HB1.out.size))
    have l0' := Nat.lt_of_lt_of_le l0 bc.size
    have l1' := Nat.lt_of_lt_of_le l1 bc.size
    clear HJ0 HJ1 HJ2 T1 P1 S1 HB1 c0 c1 c2 l0 l1 l2 bc
    have N0 : Law.Is ((wc.alloc (.cells #[.int .i64 0] 3)).alloc (.cells #[.bool true] 4)) wc.heap.size 3 #[.int .i64 ((0 : Nat) : Int)] := (Law.Is.new _ _ _ rfl).alloc _
    have G0 : Law.Is ((wc.alloc (.cells #[.int .i64 0] 3)).alloc (.cells #[.bool true] 4)) (wc.heap.size + 1) 4 #[.bool true] := Law.Is.new _ _ _ (by simp)
    have K0 : Below wc.heap.size wc ((wc.alloc (.cells #[.int .i64 0] 3)).alloc (.cells #[.bool true] 4)) := ((Below.refl _ wc).alloc (Nat.le_refl _) _).alloc (by simp) _
    go_wp2_with fail
    generalize (wc.alloc (.cells #[.int .i64 0] 3)).alloc (.cells #[.bool true] 4) = w3 at *
    refine (OmapS.all _ p).mono ?_
    rintro e w4 ⟨rfl, rfl⟩
    have K4 : Below wc.heap.size wc (w3.alloc (.cells #[.pointer p] 27)) := K0.alloc K0.size _
    have c4 : (w3.alloc (.cells #[.pointer p] 27)).cell? ⟨w3.heap.size, 0, none⟩ = some (.pointer p) := (Law.Is.new w3 27 #[.pointer p] rfl).cell' rfl
    have HE := Lib.hid (OmapS.each 31 #[.pointer (some ⟨wc.heap.size + 1, 0, none⟩), .pointer (some ⟨wc.heap.size, 0, none⟩), .pointer (some ⟨bw, 0, none⟩), .pointer (some ⟨bk, 0, none⟩)] (enters_of Try.func31 (by kernel_rfl) rfl)
      (fun pre W => Count wc (wc.heap.size + 1) wc.heap.size bw bk A K c ck xs pre W) (fun _ => true) wc.heap.size xs
      (fun pre key val W hJ hpre => is1 wc (wc.heap.size + 1) wc.heap.size bw bk A K c ck xs pre key val W hJ hpre hx (Nat.le_succ _) (Nat.le_refl _) IW.out IK.out PC.out SC.out)
      (fun pre W n hJ => ⟨hJ.good.drewN n, hJ.num.drewN n, Law.below_drewN hJ.bel n⟩) (w3.alloc (.cells #[.pointer p] 27)) w3.heap.size p c4 (TC.out.under K4) ⟨G0.alloc _, N0.alloc _, K4⟩)
    clear N0 G0 K0 K4 c4
    go_wp2_with fail
    refine HE.out.mono ?_
    rintro e w5 ⟨⟨ve, rfl⟩, j5, _⟩
    rw [Law.runW_true (fun _ => rfl)] at j5
    have cg : w5.cell? ⟨wc.heap.size + 1, 0, none⟩ = some (.bool true) := j5.good.cell' rfl
    have cn : w5.cell? ⟨wc.heap.size, 0, none⟩ = some (.int .i64 (xs.length : Int)) := j5.num.cell' rfl
    have cw : w5.cell? ⟨bw, 0, none⟩ = some (.slice A xs.length c) := (j5.bel.cell (p := ⟨bw, 0, none⟩) l1').trans c1'
    have B5 := Lib.hid (HBC.out.trans (j5.bel.mono HBC.out.size))
    clear j5 HE
    go_wp2_with fail
    go_ret
    exact ⟨rfl, B5.out⟩
end Omap
end Go.Proofs.Ytekkddejgkmofaa

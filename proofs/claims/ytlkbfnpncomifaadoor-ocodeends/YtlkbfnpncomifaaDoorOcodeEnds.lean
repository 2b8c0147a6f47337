/-
  Bytes of 0 behind the end change nothing but picks.
-/
import Derived.Test.YtlkbfnpncomifaaDoorOcSame
import Derived.Test.YtlkbfnpncomifaaDoorOcCon
import Derived.Test.YtlkbfnpncomifaaDoorZeros
namespace Go.Proofs.YtlkbfnpncomifaaDoor
open Go.RowKit Go.ChangeShapes Go.WideShapes Go.ChangeAt
attribute [local go_sem] Oper.semAt_some
namespace ocodeEnds
open Go.Law Opx
theorem elemB : ∃ i, Law.Elem Tryd.prog 22 5 i (.int .u8 0) 1 1 := Law.Elem.of Tryd.underlying22 (by kernel_rfl) rfl (by decide)
theorem one_bytes (zs : List Int) : ∀ u ∈ zs.map (Value.int .u8), u.oneCell' = true := by
  intro u hu
  obtain ⟨z, _, rfl⟩ := List.mem_map.1 hu
  rfl
set_option maxRecDepth 100000 in
set_option maxHeartbeats 1000000 in
theorem walk0 (A : Option Addr) (c : Nat) (b : List Int) (n : Nat) (hn : n ≤ 255) (w : World) (hs : Seq w 0 w.heap.size A (b.map (.int .u8))) (hl : b.length ≤ maxLen) (hc : b.length ≤ c) (hb : Bytes b) (hT : Tabs w) :
    Calls Tryd.prog 6 #[.slice A b.length c, .int .u8 (n : Int)] w fun e w' => e = .returned (.bool true) ∧ Below w.heap.size w w' := by
  have h0 := tab_pos hT
  have HS := Lib.hid hs
  have HT := Lib.hid hT
  have HBY := Lib.hid hb
  have HLL := Lib.hid hl
  obtain ⟨i1, hE1⟩ := elemB
  have HE1 := Lib.hid hE1
  unfold maxLen at hl
  clear hs hT hb hE1
  go_enter Tryd.func6, Tryd.ntmps6
  go_wp2_with fail
  refine (awake w HT.out h0).mono ?_
  rintro e w2 ⟨rfl, b2⟩
  have HB2 := Lib.hid b2
  have HS2 := Lib.hid ((HS.out.below b2).more b2.size)
  have HT2 := Lib.hid (HT.out.below b2)
  clear b2
  by_cases hf : 50000 < b.length
  · have d1 : decide ((50000 : Int) < (b.length : Int)) = true := by simp; omega
    go_wp2_with fail
    refine (awake w2 HT2.out (tab_pos HT2.out)).mono ?_
    rintro e w3 ⟨rfl, b3⟩
    have HB3 := Lib.hid (HB2.out.trans (b3.mono HB2.out.size))
    clear b3
    go_wp2_with fail
    go_ret
    exact ⟨rfl, HB3.out⟩
  · have d1 : decide ((50000 : Int) < (b.length : Int)) = false := by simp; omega
    go_wp2_with fail
    refine (read HBY.out HS2.out HLL.out hc HT2.out (tab_pos HT2.out)).mono ?_
    rintro e w3 ⟨C, cC, ls, Kp, cK, rfl, hpl, hcl, hk, hcC, b3⟩
    have ba := (Below.refl w3.heap.size w3).alloc (Nat.le_refl _) (.cells #[.int .i64 (1 + at_ b 0 % 8), .int .i64 (1 + at_ b 1 % 8), .int .i64 (1 + at_ b 2 % 16), .int .i64 (1 + at_ b 3 % 8), .int .i64 (at_ b 4 % 5), .int .u64 (at_ b 5), .int .u64 (longI (at_ b 6)), .slice C ls.length cC, .slice Kp (picks b).length cK] 31)
    have HX := Lib.hid (show Scr (w3.alloc (.cells #[.int .i64 (1 + at_ b 0 % 8), .int .i64 (1 + at_ b 1 % 8), .int .i64 (1 + at_ b 2 % 16), .int .i64 (1 + at_ b 3 % 8), .int .i64 (at_ b 4 % 5), .int .u64 (at_ b 5), .int .u64 (longI (at_ b 6)), .slice C ls.length cC, .slice Kp (picks b).length cK] 31)) w3.heap.size b C cC ls Kp cK from ⟨Is.new w3 _ _ rfl, hcl.keeps (Keeps.of_below ba) (Keeps.of_below ba) (Keeps.of_below ba), hk.now ba⟩)
    have HBa := Lib.hid ((b3.mono (Nat.le_refl _)).trans (ba.mono b3.size))
    have HB4 := Lib.hid ((HB2.out.trans (b3.mono HB2.out.size)).trans (ba.mono (HB2.out.trans (b3.mono HB2.out.size)).size))
    have HS4 := Lib.hid ((HS2.out.below HBa.out).more HBa.out.size)
    have HT4 := Lib.hid (HT2.out.below HBa.out)
    have HPL := Lib.hid hpl
    have hlw3 := (HB2.out.trans (b3.mono HB2.out.size)).size
    clear ba b3 hcl hk hpl
    have hsx : (w3.alloc (.cells #[.int .i64 (1 + at_ b 0 % 8), .int .i64 (1 + at_ b 1 % 8), .int .i64 (1 + at_ b 2 % 16), .int .i64 (1 + at_ b 3 % 8), .int .i64 (at_ b 4 % 5), .int .u64 (at_ b 5), .int .u64 (longI (at_ b 6)), .slice C ls.length cC, .slice Kp (picks b).length cK] 31)).heap.size = w3.heap.size + 1 := by simp
    obtain ⟨w4, hw4⟩ : ∃ w4, w3.alloc (.cells #[.int .i64 (1 + at_ b 0 % 8), .int .i64 (1 + at_ b 1 % 8), .int .i64 (1 + at_ b 2 % 16), .int .i64 (1 + at_ b 3 % 8), .int .i64 (at_ b 4 % 5), .int .u64 (at_ b 5), .int .u64 (longI (at_ b 6)), .slice C ls.length cC, .slice Kp (picks b).length cK] 31) = w4 := ⟨_, rfl⟩
    have HO := Lib.hid (show (w4.alloc (.cells #[] 5)).ownsRow (w3.heap.size + 1) 5 1 (.slice (some ⟨w4.heap.size, 0, none⟩) 0 0) 0 [] from ⟨rfl, .inr ⟨w4.heap.size, 0, #[], rfl, by rw [← hw4]; omega, heap_alloc_new w4 _, Nat.le_refl _, Nat.zero_le _, rfl, rfl⟩⟩)
    rw [hw4] at HX HBa HB4 HS4 HT4 hsx
    have HS5 := Lib.hid (HS4.out.alloc (Nat.le_refl _) (.cells #[] 5))
    have hw5 : (w4.alloc (.cells #[] 5)).heap.size = w3.heap.size + 2 := by rw [World.size_alloc]; omega
    have hG : ∀ w6 row, (w4.alloc (.cells #[] 5)).grownBy w6 row → (∀ k, row = some k → w3.heap.size + 1 ≤ k) → Below w4.heap.size w4 w6 := fun w6 row hg hk => ((Below.refl w4.heap.size w4).alloc (Nat.le_refl _) _).grown hg (by simp) (fun g hg => by have := hk g hg; omega)
    have HG := Lib.hid hG
    clear hG
    have hge : w4.heap.size = w3.heap.size + 1 := hsx
    have HO5 : Hid ((w4.alloc (.cells #[] 5)).ownsRow (w3.heap.size + 1) 5 1 (.slice (some ⟨w3.heap.size + 1, 0, none⟩) 0 0) 0 []) := by rw [hge] at HO; exact HO
    clear HO
    subst hw4
    go_wp2_with (at_builtin; first | (refine wpList_append_seq _ (w3.heap.size + 1) 22 rfl _ _ rfl HE1.out _ 0 [] rfl HO5.out 0 _ A b.length c (b.map (.int .u8)) rfl (by simp) HS5.out (one_bytes b) (by unfold maxLen; omega) (by omega) (by rw [hw5]; omega) ?_; intro v6 w6 hown hg6; have HO6 := Lib.hid hown; have HB6 := Lib.hid (HG.out w6 _ hg6 (fun k hk => (HO5.out.lt k hk).1)); have hs6 := HB6.out.size; clear hown hg6) | (obtain ⟨v7, w7, hr7, ho7, hg7⟩ := run_append_own_zeros (P := Tryd.prog) w6 (w3.heap.size + 1) 22 3 22 5 i1 (.int .u8 0) (.int .u8 0) 1 .i64 HE1.out.ut Tryd.underlying3 HE1.out.info HE1.out.zero HE1.out.sz HE1.out.by_ rfl rfl (by omega) v6 (0 + b.length) ([] ++ b.map (.int .u8)) HO6.out n (by unfold maxLen; omega) (by omega) (by omega); refine Lib.wpList_append_run _ rfl _ _ _ _ rfl _ _ rfl rfl _ _ hr7 ?_; have HB7 := Lib.hid (HB6.out.grown hg7 hs6 (fun k hk => by have := (HO6.out.lt k hk).1; omega)); obtain ⟨D7, c7, rfl, hc7⟩ := own_shape ho7; have HO7 := Lib.hid ho7; clear ho7 hg7 hr7))
    clear HS5 HO5 HG hw5 HO6 HB6 hs6
    generalize hw4 : (w3.alloc (.cells #[.int .i64 (1 + at_ b 0 % 8), .int .i64 (1 + at_ b 1 % 8), .int .i64 (1 + at_ b 2 % 16), .int .i64 (1 + at_ b 3 % 8), .int .i64 (at_ b 4 % 5), .int .u64 (at_ b 5), .int .u64 (longI (at_ b 6)), .slice C ls.length cC, .slice Kp (picks b).length cK] 31)) = w4 at *
    clear hw4
    obtain ⟨b', hb'⟩ : ∃ b', b ++ List.replicate n 0 = b' := ⟨_, rfl⟩
    have hbl : b'.length = b.length + n := by rw [← hb']; simp
    have HBL := Lib.hid hbl
    have HAT : Hid (∀ i, at_ b i = at_ b' i) := Lib.hid (fun i => by rw [← hb']; exact at_zeros b n i)
    have HCL : Hid (clients b = clients b') := Lib.hid (clients_congr HAT.out)
    have HPM : Hid ((picks b).length ≤ (picks b').length) := Lib.hid (by rw [← hb']; exact picks_more b n)
    have hS7 : Seq w7 0 w7.heap.size D7 (b'.map (.int .u8)) := by have h := Seq.own HO7.out; rw [show ([] ++ b.map (Value.int .u8) ++ List.replicate n (Value.int .u8 0)) = b'.map (.int .u8) by rw [← hb']; simp] at h; exact h.from_ (Nat.zero_le _)
    have HT7 := Lib.hid (HT4.out.below HB7.out)
    have hrd := read (b := b') (A := D7) (c := c7) (by rw [← hb']; exact HBY.out.zeros n) hS7 (by rw [hbl]; unfold maxLen; omega) (by rw [hbl]; omega) HT7.out (tab_pos HT7.out)
    rw [hbl] at hrd
    have HRD := Lib.hid hrd
    have HX7 := Lib.hid (HX.out.below HB7.out)
    clear hrd hS7 hbl hb' hc7 HX HO7
    with_reducible refine HRD.out.mono ?_
    rintro e w8 ⟨C2, cC2, ls2, Kp2, cK2, rfl, hpl2, hcl2, hk2, hcC2, b8⟩
    rw [← HAT.out 0]
    rw [← HAT.out 1]
    rw [← HAT.out 2]
    rw [← HAT.out 3]
    rw [← HAT.out 4]
    rw [← HAT.out 5]
    rw [← HAT.out 6]
    have ba := (Below.refl w8.heap.size w8).alloc (Nat.le_refl _) (.cells #[.int .i64 (1 + at_ b 0 % 8), .int .i64 (1 + at_ b 1 % 8), .int .i64 (1 + at_ b 2 % 16), .int .i64 (1 + at_ b 3 % 8), .int .i64 (at_ b 4 % 5), .int .u64 (at_ b 5), .int .u64 (longI (at_ b 6)), .slice C2 ls2.length cC2, .slice Kp2 (picks b').length cK2] 31)
    have HX9 := Lib.hid ((HX7.out.below b8).below ba)
    have HY9 := Lib.hid (Is.new w8 31 #[.int .i64 (1 + at_ b 0 % 8), .int .i64 (1 + at_ b 1 % 8), .int .i64 (1 + at_ b 2 % 16), .int .i64 (1 + at_ b 3 % 8), .int .i64 (at_ b 4 % 5), .int .u64 (at_ b 5), .int .u64 (longI (at_ b 6)), .slice C2 ls2.length cC2, .slice Kp2 (picks b').length cK2] rfl)
    have HC9 := Lib.hid (hcl2.keeps (Keeps.of_below ba) (Keeps.of_below ba) (Keeps.of_below ba))
    have HB8 := Lib.hid ((HB4.out.trans (HB7.out.mono HB4.out.size)).trans (b8.mono (HB4.out.trans (HB7.out.mono HB4.out.size)).size))
    have HB9 := Lib.hid (HB8.out.trans (ba.mono HB8.out.size))
    have HPP : Hid (plainC ls = plainC ls2) := Lib.hid (by rw [HPL.out, hpl2, HCL.out])
    have lx8 := (HX7.out.below b8).box.lt
    have p8 := HPM.out
    have d8 : decide (((picks b').length : Int) < ((picks b).length : Int)) = false := by simp; omega
    have hq1 := (picks_le b).2
    have hq2 := (picks_le b').2
    have hlw := HB8.out.size
    clear hcl2 hpl2 hk2 hcC2 ba b8
    go_upto_region 5 with (fail)
    generalize (w8.alloc (.cells #[.int .i64 (1 + at_ b 0 % 8), .int .i64 (1 + at_ b 1 % 8), .int .i64 (1 + at_ b 2 % 16), .int .i64 (1 + at_ b 3 % 8), .int .i64 (at_ b 4 % 5), .int .u64 (at_ b 5), .int .u64 (longI (at_ b 6)), .slice C2 ls2.length cC2, .slice Kp2 (picks b').length cK2] 31)) = w9 at *
    have hx10 : Is ((w9.setCell ⟨w3.heap.size, 8, none⟩ (.slice none 0 0)).setCell ⟨w8.heap.size, 8, none⟩ (.slice none 0 0)) w3.heap.size 31 #[.int .i64 (1 + at_ b 0 % 8), .int .i64 (1 + at_ b 1 % 8), .int .i64 (1 + at_ b 2 % 16), .int .i64 (1 + at_ b 3 % 8), .int .i64 (at_ b 4 % 5), .int .u64 (at_ b 5), .int .u64 (longI (at_ b 6)), .slice C ls.length cC, .slice none 0 0] := (HX9.out.box.set 8 (.slice none 0 0) rfl).far (p := ⟨w8.heap.size, 8, none⟩) (by simp only; omega) _
    have hy10 : Is ((w9.setCell ⟨w3.heap.size, 8, none⟩ (.slice none 0 0)).setCell ⟨w8.heap.size, 8, none⟩ (.slice none 0 0)) w8.heap.size 31 #[.int .i64 (1 + at_ b 0 % 8), .int .i64 (1 + at_ b 1 % 8), .int .i64 (1 + at_ b 2 % 16), .int .i64 (1 + at_ b 3 % 8), .int .i64 (at_ b 4 % 5), .int .u64 (at_ b 5), .int .u64 (longI (at_ b 6)), .slice C2 ls2.length cC2, .slice none 0 0] := (HY9.out.far (p := ⟨w3.heap.size, 8, none⟩) (by simp only; omega) _).set 8 (.slice none 0 0) rfl
    have kk : ∀ t, t ≠ 31 → Keeps t w9 ((w9.setCell ⟨w3.heap.size, 8, none⟩ (.slice none 0 0)).setCell ⟨w8.heap.size, 8, none⟩ (.slice none 0 0)) := fun t ht => (Keeps.store HX9.out.box ht _).trans (Keeps.store (HY9.out.far (p := ⟨w3.heap.size, 8, none⟩) (by simp only; omega) _) ht _)
    have HH1 := Lib.hid (show Hand ((w9.setCell ⟨w3.heap.size, 8, none⟩ (.slice none 0 0)).setCell ⟨w8.heap.size, 8, none⟩ (.slice none 0 0)) C ls none [] from ⟨HX9.out.cls.keeps (kk _ (by decide)) (kk _ (by decide)) (kk _ (by decide)), Lain.nil⟩)
    have HH2 := Lib.hid (show Hand ((w9.setCell ⟨w3.heap.size, 8, none⟩ (.slice none 0 0)).setCell ⟨w8.heap.size, 8, none⟩ (.slice none 0 0)) C2 ls2 none [] from ⟨HC9.out.keeps (kk _ (by decide)) (kk _ (by decide)) (kk _ (by decide)), Lain.nil⟩)
    have HB10 := Lib.hid (show Below w.heap.size w ((w9.setCell ⟨w3.heap.size, 8, none⟩ (.slice none 0 0)).setCell ⟨w8.heap.size, 8, none⟩ (.slice none 0 0)) from (HB9.out.setCell (p := ⟨w3.heap.size, 8, none⟩) (by show w.heap.size ≤ w3.heap.size; omega) _).setCell (p := ⟨w8.heap.size, 8, none⟩) (by show w.heap.size ≤ w8.heap.size; omega) _)
    have HX10 := Lib.hid hx10
    have HY10 := Lib.hid hy10
    clear kk hx10 hy10
    have HSM := Lib.hid (refSame (1 + at_ b 0 % 8) (1 + at_ b 1 % 8) (1 + at_ b 2 % 16) (1 + at_ b 3 % 8) (at_ b 4 % 5) (at_ b 5) (longI (at_ b 6)) ls ls2 [] C C2 none none cC cC2 0 0 _ HH1.out HH2.out HPP.out (by rw [plainC_len HPL.out]; have := clN_le HBY.out; omega) (fun r hr => by
        obtain ⟨i, hi⟩ := plainC_each HPL.out r hr
        have h5 := ops_le HBY.out i
        rw [← hi, List.length_map] at h5
        exact ⟨by omega, fun q hq => by
          have h6 := ops_us HBY.out i (plain q) (by rw [← hi]; exact List.mem_map.2 ⟨q, hq, rfl⟩)
          show (plain q).us.length ≤ 1000
          omega⟩) (by simp))
    have u0 := HX9.out.box.cell' (i := 0) rfl
    have v0 := HY9.out.cell' (i := 0) rfl
    have u1 := HX9.out.box.cell' (i := 1) rfl
    have v1 := HY9.out.cell' (i := 1) rfl
    have u2 := HX9.out.box.cell' (i := 2) rfl
    have v2 := HY9.out.cell' (i := 2) rfl
    have u3 := HX9.out.box.cell' (i := 3) rfl
    have v3 := HY9.out.cell' (i := 3) rfl
    have u4 := HX9.out.box.cell' (i := 4) rfl
    have v4 := HY9.out.cell' (i := 4) rfl
    have u5 := HX9.out.box.cell' (i := 5) rfl
    have v5 := HY9.out.cell' (i := 5) rfl
    have u6 := HX9.out.box.cell' (i := 6) rfl
    have v6 := HY9.out.cell' (i := 6) rfl
    have u7 := HX9.out.box.cell' (i := 7) rfl
    have v7 := HY9.out.cell' (i := 7) rfl
    have x8 := HX9.out.box.cell' (i := 8) rfl
    have y8 := HY9.out.cell' (i := 8) rfl
    have fx := HX9.out.box.frozen 8
    have fy := HY9.out.frozen 8
    have lx := HX9.out.box.lt
    have ly := HY9.out.lt
    have hne1 : w3.heap.size ≠ w8.heap.size := by omega
    have hne2 : w8.heap.size ≠ w3.heap.size := by omega
    clear HX9 HY9 HC9 HB9
    go_wp2_with fail
    refine HSM.out.mono ?_
    rintro e w11 ⟨rfl, b11⟩
    have HB11 := Lib.hid (HB10.out.trans (b11.mono HB10.out.size))
    clear b11
    go_wp2_with fail
    go_ret
    exact ⟨rfl, HB11.out⟩
theorem walk (A : Option Addr) (c : Nat) (b : List Int) (a : Int) (ha : 0 ≤ a ∧ a ≤ 255) (w : World) (hs : Seq w 0 w.heap.size A (b.map (.int .u8))) (hl : b.length ≤ maxLen) (hc : b.length ≤ c) (hb : Bytes b) (hT : Tabs w) :
    Calls Tryd.prog 6 #[.slice A b.length c, .int .u8 a] w fun e w' => e = .returned (.bool true) ∧ Below w.heap.size w w' := by
  obtain ⟨n, rfl⟩ := Int.eq_ofNat_of_zero_le ha.1
  exact walk0 A c b n (by omega) w hs hl hc hb hT
set_option maxRecDepth 100000 in
set_option maxHeartbeats 4000000 in
theorem lifted (os : Os) (started : os.Started) (H : Type) (enc : TypeId × Value → H) :
    ReturnsInHanded {} Tryd.checked os 6 .any (fun w args => (Rows.ocodeEndsSpec.pre enc Tryd.prog Tryd.f6 [] false w args ∧ laidMetH Tryd.prog Rows.ocodeEndsRow.laid w) ∧ sizedMet enc Tryd.prog Tryd.f6 (OpenSpec.ofChange Rows.ocodeEndsSpec) false w args) (Rows.ocodeEndsSpec.post enc Tryd.prog Tryd.f6 false true false false) := by
  refine returnsInHanded_of_change_and (C := Tryd.checked) (X := (fun w _ => laidMetH Tryd.prog Rows.ocodeEndsRow.laid w)) (fun _ _ _ hh h => h.of_heap hh) own started (by kernel_rfl) Tryd.func6
    (ChangeSpec.witness_shaped (enc := enc) (C := Tryd.checked) (os := os) (X := (fun w _ => laidMetH Tryd.prog Rows.ocodeEndsRow.laid w)) false (World.laidAll Tryd.prog os Rows.ocodeEndsRow.laid) #[.slice none 0 0, .int .u8 0] 8 (World.laidAll_os _ _ _)
      (World.shaped_of_ZipB (by kernel_rfl) (by kernel_rfl)) (by kernel_rfl) (by kernel_rfl) (by kernel_rfl)
      (by rw [MakeChecks.laidMetH_plain _ _ _ (by kernel_rfl)]; exact laidMet_laidAll _ (by kernel_rfl) (by kernel_rfl))) ?_
  intro W base args ds gs before hval0 hW _ _ hL _
  have hval : ∀ (j : Nat) t v, Tryd.f6.params[j]? = some t → args[j]? = some v → Value.okWide Tryd.prog W .any base t v := hval0
  have hW' := hW
  obtain ⟨p, q, hA0, hV, rfl, hfz, hnd⟩ := hW
  have hA : DataW.TrodAll enc Tryd.prog W 0 (fun _ => true) true Tryd.f6.params.toList args.toList ds p := hA0
  rw [Tryd.params6] at hA hval
  obtain ⟨v0, vs0, d0, ds0, p0, q0, hargs, rfl, rfl, h0, r0⟩ := trodAll_cons hA
  obtain ⟨v1, vs1, d1, ds1, p1, q1, rfl, rfl, rfl, h1, r1⟩ := trodAll_cons r0
  obtain ⟨rfl, rfl, rfl⟩ := trodAll_nil r1
  obtain rfl : args = #[v0, v1] := by cases args; simp_all
  obtain ⟨A0, c0, b0, rfl, hs0, hl0, hc0, hb0⟩ := Opx.open_bytes (hval 0 22 v0 rfl rfl) h0
  obtain ⟨a1, rfl, rfl, rfl, w1⟩ := open_int Tryd.underlying5 (hval 1 5 v1 rfl rfl) h1
  rw [MakeChecks.laidMetH_plain _ _ _ (by kernel_rfl)] at hL
  have HTb := Opx.tabs_of hL
  refine (walk A0 c0 b0 a1 (by have := bounds_u8 w1; omega) W hs0 hl0 hc0 hb0 HTb).mono fun e W' ⟨he, bel⟩ => ?_
  subst he
  exact ⟨_, rfl, Law.post_law laidOut (by kernel_rfl) (by kernel_rfl) Tryd.underlying4 rfl (fun ds h => by match ds, h with | [_, _], _ => rfl) hW' bel⟩
theorem holds : Rows.OcodeEndsSaid :=
  OpenClaim.holds_of_wide 6 Tryd.f6 rfl rfl rfl rfl rfl rfl rfl ⟨rfl, rfl, rfl, rfl, rfl⟩ rfl rfl rfl rfl rfl (by kernel_rfl) Tryd.func6 (by kernel_rfl)
    (of_decide_eq_true (by kernel_rfl)) (by unfold Func.isWrapper; first | (rw [if_pos (by decide +kernel)]; kernel_rfl) | (rw [if_neg (by decide +kernel)]; exact ⟨rfl, rfl⟩))
    (fun os started H enc _ => lifted os started H enc)
theorem proved : Rows.OcodeEndsCardSaid :=
  Claim7.holds_tied_plain_at .later [] [.data] true (true, "145f7ae6ac2e6a67618b4bf44aa04eb8b865f83cc5ac96450ba10f4f176ff81c") false holds (fun _ h => by cases h) (by kernel_rfl) (fun _ h => by cases h) ocodeEnds_row_tie rfl ⟨rfl, rfl⟩ (by kernel_rfl) rfl
    (fun f fn hf hfn => by
      obtain rfl : f = 6 := Option.some.inj ((show Tryd.prog.funcNamed Rows.ocodeEndsRow.func = some 6 by kernel_rfl).symm.trans hf) |>.symm
      obtain rfl : fn = Tryd.f6 := (Option.some.inj (Tryd.func6.symm.trans hfn)).symm
      exact ⟨by kernel_rfl, fun j t ht => by
        rw [Tryd.params6] at ht
        have hm : t ∈ [22, 5] := by simpa using Array.mem_of_getElem? ht
        have hall : ([22, 5].all fun u => !Tryd.prog.wantsStandIn u) = true := by kernel_rfl
        exact (show Tryd.prog.wantsStandIn t = false by simpa using List.all_eq_true.1 hall t hm)⟩)
    (by kernel_rfl)
#print axioms proved
end ocodeEnds
end Go.Proofs.YtlkbfnpncomifaaDoor

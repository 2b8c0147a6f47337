/-
  Read (layer 12): the script that bytes tell.
-/
import Derived.Test.YtlkbfnpncomifaaDoorOc03
import Derived.Test.YtlkbfnpncomifaaDoorRoundHeld
namespace Go.Proofs.YtlkbfnpncomifaaDoor
open Go.RowKit Go.Lib
attribute [local go_sem] Oper.semAt_some
namespace Opx
open Go.Law
theorem Is.fill9 {w : World} {g : Nat} {t : TypeId} {cs : Array Value} (h : Is w g t cs) (hs : cs.size = 9) (a0 a1 a2 a3 a4 a5 a6 a7 a8 : Value) :
    Is (((((((((w.setCell ⟨g, 0, none⟩ a0).setCell ⟨g, 1, none⟩ a1).setCell ⟨g, 2, none⟩ a2).setCell ⟨g, 3, none⟩ a3).setCell ⟨g, 4, none⟩ a4).setCell ⟨g, 5, none⟩ a5).setCell ⟨g, 6, none⟩ a6).setCell ⟨g, 7, none⟩ a7).setCell ⟨g, 8, none⟩ a8) g t #[a0, a1, a2, a3, a4, a5, a6, a7, a8] := by
  refine ((((((((h.set 0 a0 rfl).set 1 a1 rfl).set 2 a2 rfl).set 3 a3 rfl).set 4 a4 rfl).set 5 a5 rfl).set 6 a6 rfl).set 7 a7 rfl).set 8 a8 ?_
  obtain ⟨l⟩ := cs
  match l, hs with
  | [_, _, _, _, _, _, _, _, _], _ => simp
set_option maxRecDepth 100000 in
set_option maxHeartbeats 4000000 in
theorem read {w : World} {A : Option Addr} {c : Nat} {b : List Int} (hb : Bytes b) (hs : Seq w 0 w.heap.size A (b.map (.int .u8))) (hl : b.length ≤ maxLen) (hc : b.length ≤ c) (hT : Tabs w) (h0 : 0 < w.heap.size) :
    Calls Tryd.prog 11 #[.slice A b.length c] w fun e w' => ∃ C cC ls Kp cK, e = .returned (.agg #[.int .i64 (1 + at_ b 0 % 8), .int .i64 (1 + at_ b 1 % 8), .int .i64 (1 + at_ b 2 % 16), .int .i64 (1 + at_ b 3 % 8), .int .i64 (at_ b 4 % 5), .int .u64 (at_ b 5), .int .u64 (longI (at_ b 6)), .slice C ls.length cC, .slice Kp (picks b).length cK]) ∧ plainC ls = clients b ∧ Cls w' C ls ∧ Lain 34 w' Kp (flatPk (picks b)) ∧ ls.length ≤ cC ∧ Below w.heap.size w w' := by
  have b1 := (Below.refl w.heap.size w).alloc (Nat.le_refl _) (.cells #[.int .i64 0, .int .i64 0, .int .i64 0, .int .i64 0, .int .i64 0, .int .u64 0, .int .u64 0, .slice none 0 0, .slice none 0 0] 31)
  have b2 := b1.alloc (by simp) (.cells #[.slice A b.length c] 53)
  have HB1 := Lib.hid b2
  have HS1 := Lib.hid (show Is ((w.alloc (.cells #[.int .i64 0, .int .i64 0, .int .i64 0, .int .i64 0, .int .i64 0, .int .u64 0, .int .u64 0, .slice none 0 0, .slice none 0 0] 31)).alloc (.cells #[.slice A b.length c] 53)) w.heap.size 31 #[.int .i64 0, .int .i64 0, .int .i64 0, .int .i64 0, .int .i64 0, .int .u64 0, .int .u64 0, .slice none 0 0, .slice none 0 0] from (Is.new w _ _ rfl).alloc _)
  have HR1 := Lib.hid (show Rd ((w.alloc (.cells #[.int .i64 0, .int .i64 0, .int .i64 0, .int .i64 0, .int .i64 0, .int .u64 0, .int .u64 0, .slice none 0 0, .slice none 0 0] 31)).alloc (.cells #[.slice A b.length c] 53)) w.heap.size (w.heap.size + 1) b 0 from ⟨⟨A, c, Is.new _ _ _ (by simp), by rw [List.drop_zero]; exact hs.below b2, by rw [List.drop_zero]; exact hc⟩, by omega, hb, hl⟩)
  have HT1 := Lib.hid (hT.below b2)
  clear hT hs b1 b2
  go_enter Tryd.func11, Tryd.ntmps11
  go_wp2_with fail
  generalize (w.alloc (.cells #[.int .i64 0, .int .i64 0, .int .i64 0, .int .i64 0, .int .i64 0, .int .u64 0, .int .u64 0, .slice none 0 0, .slice none 0 0] 31)).alloc (.cells #[.slice A b.length c] 53) = w1 at *
  refine (config HR1.out HT1.out (by omega) (v := #[.int .i64 (1 + at_ b 0 % 8), .int .i64 (1 + at_ b 1 % 8), .int .i64 (1 + at_ b 2 % 16), .int .i64 (1 + at_ b 3 % 8), .int .i64 (at_ b 4 % 5), .int .u64 (at_ b 5), .int .u64 (longI (at_ b 6))]) rfl).mono ?_
  rintro e w2 ⟨rfl, r2, t2⟩
  have HR2 := Lib.hid r2
  have HS2 := Lib.hid (t2.is HS1.out (by omega))
  have HT2 := Lib.hid (HT1.out.touch t2 (by omega))
  have HB2 := Lib.hid (t2.below HB1.out (fun k hk => by omega) HB1.out.size)
  clear r2 t2 HR1 HS1 HT1 HB1
  go_wp2_with fail
  have lg := HR2.out.lt
  have ba := (Below.refl w2.heap.size w2).alloc (Nat.le_refl _) (.cells #[.int .i64 (1 + at_ b 0 % 8), .int .i64 (1 + at_ b 1 % 8), .int .i64 (1 + at_ b 2 % 16), .int .i64 (1 + at_ b 3 % 8), .int .i64 (at_ b 4 % 5), .int .u64 (at_ b 5), .int .u64 (longI (at_ b 6))] 27)
  have HR3 := Lib.hid (HR2.out.below ba)
  have HS3 := Lib.hid (HS2.out.below ba HS2.out.lt)
  have HT3 := Lib.hid (HT2.out.below ba)
  have HB3 := Lib.hid (HB2.out.trans (ba.mono HB2.out.size))
  have HC3 := Lib.hid (Is.new w2 27 #[.int .i64 (1 + at_ b 0 % 8), .int .i64 (1 + at_ b 1 % 8), .int .i64 (1 + at_ b 2 % 16), .int .i64 (1 + at_ b 3 % 8), .int .i64 (at_ b 4 % 5), .int .u64 (at_ b 5), .int .u64 (longI (at_ b 6))] rfl)
  clear ba HR2 HS2 HT2 HB2
  generalize w2.alloc (.cells #[.int .i64 (1 + at_ b 0 % 8), .int .i64 (1 + at_ b 1 % 8), .int .i64 (1 + at_ b 2 % 16), .int .i64 (1 + at_ b 3 % 8), .int .i64 (at_ b 4 % 5), .int .u64 (at_ b 5), .int .u64 (longI (at_ b 6))] 27) = w3 at *
  refine (clientsR HR3.out HT3.out (by omega)).mono ?_
  rintro e w4 ⟨C, cC, ls, rfl, hcC, hpl, hcl, r4, t4⟩
  have HPL := Lib.hid hpl
  have HCC := Lib.hid hcC
  have HCL := Lib.hid hcl
  have HR4 := Lib.hid r4
  have HS4 := Lib.hid (t4.is HS3.out (by omega))
  have HC4 := Lib.hid (t4.is HC3.out (by omega))
  have HB4 := Lib.hid (t4.below HB3.out (fun k hk => by omega) HB3.out.size)
  clear r4 t4 hcl hpl hcC HR3 HS3 HT3 HB3 HC3
  have lc := HC4.out.lt
  have c0 := HC4.out.cell' (i := 0) (v := .int .i64 (1 + at_ b 0 % 8)) rfl
  have c1 := HC4.out.cell' (i := 1) (v := .int .i64 (1 + at_ b 1 % 8)) rfl
  have c2 := HC4.out.cell' (i := 2) (v := .int .i64 (1 + at_ b 2 % 16)) rfl
  have c3 := HC4.out.cell' (i := 3) (v := .int .i64 (1 + at_ b 3 % 8)) rfl
  have c4 := HC4.out.cell' (i := 4) (v := .int .i64 (at_ b 4 % 5)) rfl
  have c5 := HC4.out.cell' (i := 5) (v := .int .u64 (at_ b 5)) rfl
  have c6 := HC4.out.cell' (i := 6) (v := .int .u64 (longI (at_ b 6))) rfl
  go_wp2_with fail
  refine wp_region_held_drew (S := fun w' => w'.cell? ⟨w2.heap.size, 0, none⟩ = some (.int .i64 (1 + at_ b 0 % 8)) ∧ w'.cell? ⟨w2.heap.size, 1, none⟩ = some (.int .i64 (1 + at_ b 1 % 8)) ∧ w'.cell? ⟨w2.heap.size, 2, none⟩ = some (.int .i64 (1 + at_ b 2 % 16)) ∧ w'.cell? ⟨w2.heap.size, 3, none⟩ = some (.int .i64 (1 + at_ b 3 % 8)) ∧ w'.cell? ⟨w2.heap.size, 4, none⟩ = some (.int .i64 (at_ b 4 % 5)) ∧ w'.cell? ⟨w2.heap.size, 5, none⟩ = some (.int .u64 (at_ b 5)) ∧ w'.cell? ⟨w2.heap.size, 6, none⟩ = some (.int .u64 (longI (at_ b 6)))) (by kernel_rfl) ⟨c0, c1, c2, c3, c4, c5, c6⟩ (fun hS0 => ?_)
  refine wpAnyH_take (i := 0) (oi := { dst := some 13, op := .load 27 (.tmp 4), type := _, pos := _, after := _, guard := _ }) (v := .agg #[.int .i64 (1 + at_ b 0 % 8), .int .i64 (1 + at_ b 1 % 8), .int .i64 (1 + at_ b 2 % 16), .int .i64 (1 + at_ b 3 % 8), .int .i64 (at_ b 4 % 5), .int .u64 (at_ b 5), .int .u64 (longI (at_ b 6))]) rfl (by kernel_rfl) (by kernel_rfl) (by kernel_rfl) (fun _ _ _ h => h) (Or.inl ⟨by rfl, ?_⟩) hS0 ?_
  · intro w' hSw
    obtain ⟨s0, s1, s2, s3, s4, s5, s6⟩ := hSw
    go_simp
  try simp only [Act.put, List.setIfInBounds_toArray, List.set_cons_zero, List.set_cons_succ]
  refine wpAnyH_take (i := 1) (oi := { dst := some 14, op := .move (.tmp 5), type := _, pos := _, after := _, guard := _ }) (v := .slice C ls.length cC) rfl (by kernel_rfl) (by kernel_rfl) (by kernel_rfl) (fun _ _ _ h => h) (Or.inl ⟨by rfl, ?_⟩) hS0 ?_
  · intro w' hSw
    go_simp
  try simp only [Act.put, List.setIfInBounds_toArray, List.set_cons_zero, List.set_cons_succ]
  refine wpAnyH_take (i := 2) (oi := { dst := some 15, op := .move (.tmp 3), type := _, pos := _, after := _, guard := _ }) (v := .pointer (some ⟨w.heap.size + 1, 0, none⟩)) rfl (by kernel_rfl) (by kernel_rfl) (by kernel_rfl) (fun _ _ _ h => h) (Or.inl ⟨by rfl, ?_⟩) hS0 ?_
  · intro w' hSw
    go_simp
  try simp only [Act.put, List.setIfInBounds_toArray, List.set_cons_zero, List.set_cons_succ]
  have HRd : Hid (Rd w4.drew w.heap.size (w.heap.size + 1) b (clEnd b)) := Lib.hid (HR4.out.below (Law.below_drewN (Below.refl _ w4) 1))
  refine wpAnyH_ready (rs := [3]) (by kernel_rfl) (by simp) ?_
  refine AllReadyH.cons (o := { dst := some 16, op := .call { callee := .value (.func 22), args := #[.tmp 15], argTypes := _ }, type := _, pos := _, after := _, guard := _ }) rfl (fun K hK => ?_) AllReadyH.nil
  go_simp
  refine Calls.mono (picksR HRd.out rfl) ?_
  rintro e w5 ⟨Kp, cK, rfl, hc5, k5, t5⟩
  have HK5 := Lib.hid k5
  have HX5 := Lib.hid hc5
  have HTk : Hid (Law.Touch w4 w5 (fun k => k = w.heap.size + 1)) := Lib.hid ((Law.Touch.drewN w4 1 (fun k => k = w.heap.size + 1)).trans t5 (fun _ e => .inl e))
  have HC5 := Lib.hid (HTk.out.is HC4.out (by omega))
  have HS5 := Lib.hid (HTk.out.is HS4.out (by omega))
  have HB5 := Lib.hid (HTk.out.below HB4.out (fun k hk => by omega) HB4.out.size)
  have HCL5 := Lib.hid (HCL.out.keeps (HR4.out.keeps HTk.out (by decide)) (HR4.out.keeps HTk.out (by decide)) (HR4.out.keeps HTk.out (by decide)))
  clear k5 hc5 t5
  go_wp2_with fail
  refine hK.out _ _ ⟨HC5.out.cell' rfl, HC5.out.cell' rfl, HC5.out.cell' rfl, HC5.out.cell' rfl, HC5.out.cell' rfl, HC5.out.cell' rfl, HC5.out.cell' rfl⟩ (fun hS1 => ?_)
  clear hK K
  try simp only [Act.put, List.setIfInBounds_toArray, List.set_cons_zero, List.set_cons_succ]
  refine wpAnyH_take (i := 4) (oi := { dst := some 17, op := .build 31 #[(0, .tmp 13), (1, .tmp 14), (2, .tmp 16)], type := _, pos := _, after := _, guard := _ }) (v := .agg #[.int .i64 (1 + at_ b 0 % 8), .int .i64 (1 + at_ b 1 % 8), .int .i64 (1 + at_ b 2 % 16), .int .i64 (1 + at_ b 3 % 8), .int .i64 (at_ b 4 % 5), .int .u64 (at_ b 5), .int .u64 (longI (at_ b 6)), .slice C ls.length cC, .slice Kp (pkN b (clEnd b)) cK]) rfl (by kernel_rfl) (by kernel_rfl) (by kernel_rfl) (fun _ _ _ h => h) (Or.inl ⟨by rfl, ?_⟩) hS1 ?_
  · intro w' hSw
    go_simp
  try simp only [Act.put, List.setIfInBounds_toArray, List.set_cons_zero, List.set_cons_succ]
  have ST : Law.Touch w5 (((((((((w5.setCell ⟨w.heap.size, 0, none⟩ (.int .i64 (1 + at_ b 0 % 8))).setCell ⟨w.heap.size, 1, none⟩ (.int .i64 (1 + at_ b 1 % 8))).setCell ⟨w.heap.size, 2, none⟩ (.int .i64 (1 + at_ b 2 % 16))).setCell ⟨w.heap.size, 3, none⟩ (.int .i64 (1 + at_ b 3 % 8))).setCell ⟨w.heap.size, 4, none⟩ (.int .i64 (at_ b 4 % 5))).setCell ⟨w.heap.size, 5, none⟩ (.int .u64 (at_ b 5))).setCell ⟨w.heap.size, 6, none⟩ (.int .u64 (longI (at_ b 6)))).setCell ⟨w.heap.size, 7, none⟩ (.slice C ls.length cC)).setCell ⟨w.heap.size, 8, none⟩ (.slice Kp (pkN b (clEnd b)) cK)) (fun k => k = w.heap.size) := by
    have st : ∀ (W : World) k v, Law.Touch W (W.setCell ⟨w.heap.size, k, none⟩ v) (fun k => k = w.heap.size) := fun W k v => Law.Touch.store _ _ _ rfl
    exact ((((((((st _ 0 _).trans (st _ 1 _) (fun _ e => .inl e)).trans (st _ 2 _) (fun _ e => .inl e)).trans (st _ 3 _) (fun _ e => .inl e)).trans (st _ 4 _) (fun _ e => .inl e)).trans (st _ 5 _) (fun _ e => .inl e)).trans (st _ 6 _) (fun _ e => .inl e)).trans (st _ 7 _) (fun _ e => .inl e)).trans (st _ 8 _) (fun _ e => .inl e)
  have IS9 := Lib.hid (Is.fill9 HS5.out rfl (.int .i64 (1 + at_ b 0 % 8)) (.int .i64 (1 + at_ b 1 % 8)) (.int .i64 (1 + at_ b 2 % 16)) (.int .i64 (1 + at_ b 3 % 8)) (.int .i64 (at_ b 4 % 5)) (.int .u64 (at_ b 5)) (.int .u64 (longI (at_ b 6))) (.slice C ls.length cC) (.slice Kp (pkN b (clEnd b)) cK))
  have ST9 := Lib.hid ST
  clear ST
  have HC9 := Lib.hid (ST9.out.is HC5.out (by omega))
  have HB9 := Lib.hid (ST9.out.below HB5.out (fun k hk => by omega) HB5.out.size)
  have HCL9 := Lib.hid (HCL5.out.keeps (Keeps.touch1 ST9.out HS5.out (by decide)) (Keeps.touch1 ST9.out HS5.out (by decide)) (Keeps.touch1 ST9.out HS5.out (by decide)))
  have HK9 := Lib.hid (HK5.out.keeps (Keeps.touch1 ST9.out HS5.out (by decide)))
  have y0 := HS5.out.cell' (i := 0) (v := .int .i64 0) rfl
  have z0 := HS5.out.frozen 0
  have y1 := HS5.out.cell' (i := 1) (v := .int .i64 0) rfl
  have z1 := HS5.out.frozen 1
  have y2 := HS5.out.cell' (i := 2) (v := .int .i64 0) rfl
  have z2 := HS5.out.frozen 2
  have y3 := HS5.out.cell' (i := 3) (v := .int .i64 0) rfl
  have z3 := HS5.out.frozen 3
  have y4 := HS5.out.cell' (i := 4) (v := .int .i64 0) rfl
  have z4 := HS5.out.frozen 4
  have y5 := HS5.out.cell' (i := 5) (v := .int .u64 0) rfl
  have z5 := HS5.out.frozen 5
  have y6 := HS5.out.cell' (i := 6) (v := .int .u64 0) rfl
  have z6 := HS5.out.frozen 6
  have y7 := HS5.out.cell' (i := 7) (v := .slice none 0 0) rfl
  have z7 := HS5.out.frozen 7
  have y8 := HS5.out.cell' (i := 8) (v := .slice none 0 0) rfl
  have z8 := HS5.out.frozen 8
  have ly := HS5.out.lt
  refine wpAnyH_ready (rs := [5]) (by kernel_rfl) (by simp) ?_
  refine AllReadyH.cons (o := { dst := none, op := .store 31 (.tmp 2) (.tmp 17), type := _, pos := _, after := _, guard := _ }) rfl (fun K hK => ?_) AllReadyH.nil
  go_simp
  refine hK.out _ _ ⟨HC9.out.cell' rfl, HC9.out.cell' rfl, HC9.out.cell' rfl, HC9.out.cell' rfl, HC9.out.cell' rfl, HC9.out.cell' rfl, HC9.out.cell' rfl⟩ (fun hS2 => ?_)
  clear hK K
  try simp only [Act.put, List.setIfInBounds_toArray, List.set_cons_zero, List.set_cons_succ]
  refine wpAnyH_done (by kernel_rfl) ?_ _
  clear y0 z0 y1 z1 y2 z2 y3 z3 y4 z4 y5 z5 y6 z6 y7 z7 y8 z8
  generalize (((((((((w5.setCell ⟨w.heap.size, 0, none⟩ (.int .i64 (1 + at_ b 0 % 8))).setCell ⟨w.heap.size, 1, none⟩ (.int .i64 (1 + at_ b 1 % 8))).setCell ⟨w.heap.size, 2, none⟩ (.int .i64 (1 + at_ b 2 % 16))).setCell ⟨w.heap.size, 3, none⟩ (.int .i64 (1 + at_ b 3 % 8))).setCell ⟨w.heap.size, 4, none⟩ (.int .i64 (at_ b 4 % 5))).setCell ⟨w.heap.size, 5, none⟩ (.int .u64 (at_ b 5))).setCell ⟨w.heap.size, 6, none⟩ (.int .u64 (longI (at_ b 6)))).setCell ⟨w.heap.size, 7, none⟩ (.slice C ls.length cC)).setCell ⟨w.heap.size, 8, none⟩ (.slice Kp (pkN b (clEnd b)) cK)) = w9 at *
  have n0 := IS9.out.cell' (i := 0) (v := .int .i64 (1 + at_ b 0 % 8)) rfl
  have n1 := IS9.out.cell' (i := 1) (v := .int .i64 (1 + at_ b 1 % 8)) rfl
  have n2 := IS9.out.cell' (i := 2) (v := .int .i64 (1 + at_ b 2 % 16)) rfl
  have n3 := IS9.out.cell' (i := 3) (v := .int .i64 (1 + at_ b 3 % 8)) rfl
  have n4 := IS9.out.cell' (i := 4) (v := .int .i64 (at_ b 4 % 5)) rfl
  have n5 := IS9.out.cell' (i := 5) (v := .int .u64 (at_ b 5)) rfl
  have n6 := IS9.out.cell' (i := 6) (v := .int .u64 (longI (at_ b 6))) rfl
  have n7 := IS9.out.cell' (i := 7) (v := .slice C ls.length cC) rfl
  have n8 := IS9.out.cell' (i := 8) (v := .slice Kp (pkN b (clEnd b)) cK) rfl
  go_wp2_with fail
  exact bodyPost_ret (v := .agg #[.int .i64 (1 + at_ b 0 % 8), .int .i64 (1 + at_ b 1 % 8), .int .i64 (1 + at_ b 2 % 16), .int .i64 (1 + at_ b 3 % 8), .int .i64 (at_ b 4 % 5), .int .u64 (at_ b 5), .int .u64 (longI (at_ b 6)), .slice C ls.length cC, .slice Kp (pkN b (clEnd b)) cK]) (by simp [results, Tryd.results11, go_sem, n0, n1, n2, n3, n4, n5, n6, n7, n8]) rfl ⟨C, cC, ls, Kp, cK, by rw [show (picks b).length = pkN b (clEnd b) from pkTo_len _ _ _], HPL.out, HCL9.out, HK9.out, HCC.out, HB9.out⟩
end Opx
end Go.Proofs.YtlkbfnpncomifaaDoor

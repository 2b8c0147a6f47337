/-
  BookRoom: whatever the acts and the number, the statement's function returns true, and the arguments read as before. No condition.
-/
import Derived.Test.YtjjemdmbhgmiiaaBook08
namespace Go.Proofs.Ytjjemdmbhgmiiaa.bookRoom
open Go.ChangeShapes Go.WideShapes Go.ChangeAt Go.RowKit
open Go.Law Go.Proofs.Ytjjemdmbhgmiiaa.Bk Go.Proofs.Ytjjemdmbhgmiiaa.OmapB Door

set_option maxRecDepth 100000 in
set_option maxHeartbeats 8000000 in
theorem walk (l : List ActV) (A : Option Addr) (c : Nat) (most : Int) (hm : (Lit.int .u8 most).wf = true) (w : World) (hs : Seq w 0 w.heap.size A (flatA l)) (hl : l.length ≤ maxLen) (hq : ∀ q ∈ l, q.Good) :
    Calls Try.prog 7 #[.slice A l.length c, .int .u8 most] w fun e w' => e = .returned (.bool true) ∧ Below w.heap.size w w' := by
  have HS := Lib.hid hs
  have HQ := Lib.hid hq
  have HL := Lib.hid hl
  have HB := Lib.hid (Below.refl w.heap.size w)
  have hmb := bounds_u8 hm
  clear hs hq hl
  cases hlong : longB l with
  | true =>
    go_enter Try.func7, Try.ntmps7
    go_wp2_with fail
    refine (awake _).mono ?_
    rintro e w1 ⟨rfl, b1⟩
    replace HS := Lib.hid ((HS.out.below b1).more b1.size)
    replace HB := Lib.hid (HB.out.trans (b1.mono HB.out.size))
    clear b1
    go_wp2_with fail
    refine (long_ l A c _ HS.out HL.out HQ.out).mono ?_
    rintro e w' ⟨rfl, rfl⟩
    rw [hlong]
    go_wp2_with fail
    refine (awake _).mono ?_
    rintro e w2 ⟨rfl, b1⟩
    replace HB := Lib.hid (HB.out.trans (b1.mono HB.out.size))
    clear b1
    go_wp2_with fail
    go_ret
    exact ⟨rfl, HB.out⟩
  | false =>
    have hl2 := long_le hlong
    obtain ⟨k, hk⟩ : ∃ k : Nat, most % 9 = (k : Int) := ⟨(most % 9).toNat, by omega⟩
    have HRM := Lib.hid (made_room k l HQ.out)
    have HFT := Lib.hid ((made_fit (k : Int) l HQ.out).1.more hl2)
    go_enter Try.func7, Try.ntmps7
    go_wp2_with fail
    refine (awake _).mono ?_
    rintro e w1 ⟨rfl, b1⟩
    replace HS := Lib.hid ((HS.out.below b1).more b1.size)
    replace HB := Lib.hid (HB.out.trans (b1.mono HB.out.size))
    clear b1
    go_wp2_with fail
    refine (long_ l A c _ HS.out HL.out HQ.out).mono ?_
    rintro e w' ⟨rfl, rfl⟩
    rw [hlong]
    go_wp2_with fail
    rw [hk]
    refine (made_ l A c (k : Int) _ HS.out hl2 HQ.out).mono ?_
    rintro e w2 ⟨p2, rfl, k2, b1⟩
    replace HB := Lib.hid (HB.out.trans (b1.mono HB.out.size))
    have HK := Lib.hid k2
    clear b1 k2 HS
    generalize madeB (k : Int) l = st at *
    obtain ⟨sb, sn⟩ := st
    simp only at HK HRM HFT
    have hsl := HFT.out.len
    go_wp2_with fail
    have HI2 := Lib.hid (Is.new w2 27 #[.pointer p2] rfl)
    have bx := (Below.refl w2.heap.size w2).alloc (Nat.le_refl _) (.cells #[.pointer p2] 27)
    replace HB := Lib.hid (HB.out.trans (bx.mono HB.out.size))
    replace HK := Lib.hid (HK.out.now bx)
    generalize w2.alloc (.cells #[.pointer p2] 27) = w3 at *
    clear bx
    refine (users HK.out (by omega)).mono ?_
    rintro e w4 ⟨A4, c4, rfl, u4, b1⟩
    replace HB := Lib.hid (HB.out.trans (b1.mono HB.out.size))
    replace HK := Lib.hid (HK.out.now b1)
    replace HI2 := Lib.hid (HI2.out.below b1 HI2.out.lt)
    obtain ⟨xs, hx1, hx2, hx3⟩ := u4
    have HXS := Lib.hid hx1.seq
    have hxl : sb.length = xs.length := by rw [← hx3, mapV_length]
    have HXR : Hid (∀ q ∈ xs, q.2.n ≤ k ∧ 0 < q.2.n) := fun q hq => by
      have hm : (q.1, q.2.en) ∈ sb := by rw [← hx3]; exact List.mem_map.2 ⟨q, hq, rfl⟩
      rw [(hx2 q hq).1]
      exact ⟨HRM.out _ hm, List.length_pos_iff.2 (HFT.out.book.2 _ hm).1⟩
    have HST : Hid (storedB sb = (xs.map fun q => q.2.n).sum) := by
      show _ = _
      rw [← hx3]
      unfold storedB mapV
      rw [List.map_map]
      congr 1
      exact List.map_congr_left fun q hq => (hx2 q hq).1.symm
    clear hx1 hx2 b1
    rw [hxl] at hsl ⊢
    have HXL := Lib.hid hxl
    clear hxl hx3
    go_wp2_with fail
    go_loop [9, 10] (fun av iv => ∃ j : Nat, j ≤ xs.length ∧ iv = .int .i64 j ∧ av = .int .i64 (((xs.take j).map fun q => q.2.n).sum : Nat)) (fun _ iv => xs.length - (intOf iv).toNat)
    case atStart => exact ⟨0, Nat.zero_le _, rfl, rfl⟩
    case round =>
      obtain ⟨j, hj, rfl, rfl⟩ := hrel
      have hsm : ((xs.take j).map fun q => q.2.n).sum ≤ j * 9 := by
        have : ∀ (ys : List (ByteArray × EnV)), (∀ q ∈ ys, q.2.n ≤ 9) → (ys.map fun q => q.2.n).sum ≤ ys.length * 9 := by
          intro ys
          induction ys with
          | nil => intro _; simp
          | cons q r ih => intro h; have h1 := h q (by simp); have h2 := ih fun p hp => h p (by simp [hp]); simp only [List.map_cons, List.sum_cons, List.length_cons, Nat.add_mul]; omega
        have h3 := this (xs.take j) fun q hq => by have := (HXR.out q (List.mem_of_mem_take hq)).1; omega
        have h4 : (xs.take j).length ≤ j := by simp; omega
        have h5 := Nat.mul_le_mul_right 9 h4
        omega
      by_cases hlt : j < xs.length
      · obtain ⟨b, off, rfl, _, lb, _, c1, _⟩ := HXS.out.us hlt
        have hxr := HXR.out _ (List.getElem_mem hlt)
        have HT : Hid (((xs.take (j + 1)).map fun q => q.2.n).sum = ((xs.take j).map fun q => q.2.n).sum + xs[j].2.n) := by show _ = _; rw [List.take_succ_eq_append_getElem hlt, List.map_append, List.sum_append]; simp
        generalize ((xs.take j).map fun q => q.2.n).sum = sm at *
        generalize xs[j] = q at *
        obtain ⟨h1, h2⟩ := hxr
        generalize q.2.n = m at *
        have d1 : decide ((k : Int) < (m : Int)) = false := by simp; omega
        have d2 : ((m : Int) == 0) = false := by simp; omega
        go_wp2_with fail
        go_round
        case rel => exact ⟨j + 1, by omega, by go_num, by rw [HT.out]; simp⟩
        case measure => simp [intOf]; omega
      · have e1 : xs.take j = xs := List.take_of_length_le (by omega)
        rw [e1, ← HST.out]
        rw [e1, ← HST.out] at hsm
        have y0 := HI2.out.cell' (i := 0) rfl
        generalize hsb : storedB sb = sm at *
        have HSB := Lib.hid hsb
        clear hsb
        go_wp2_with fail
        have hC := Bk.stored HK.out (by have := HFT.out.len; omega) (fun q hq => by have := HFT.out.ses q hq; omega)
        rw [HSB.out] at hC
        refine hC.mono ?_
        clear hC
        rintro e w5 ⟨rfl, b1⟩
        replace HB := Lib.hid (HB.out.trans (b1.mono HB.out.size))
        replace HK := Lib.hid (HK.out.now b1)
        replace HI2 := Lib.hid (HI2.out.below b1 HI2.out.lt)
        clear b1 y0
        have y0 := HI2.out.cell' (i := 0) rfl
        go_wp2_with fail
        have hC := lenB HK.out
        rw [HXL.out] at hC
        refine hC.mono ?_
        clear hC
        rintro e w6 ⟨rfl, b1⟩
        replace HB := Lib.hid (HB.out.trans (b1.mono HB.out.size))
        clear b1 y0
        go_wp2_with fail
        go_ret
        exact ⟨rfl, HB.out⟩

set_option maxRecDepth 100000 in
theorem lifted (os : Os) (started : os.Started) (H : Type) (enc : TypeId × Value → H) :
    ReturnsInHanded {} Try.checked os 7 .any (Rows.bookRoomSpec.pre6 enc Try.prog Try.f7 Rows.bookRoomRow.domain false) (Rows.bookRoomSpec.post enc Try.prog Try.f7 false true false false) := by
  refine returnsInHanded_of_change (C := Try.checked) own started (by kernel_rfl) Try.func7
    (ChangeSpec.witness6 (enc := enc) (C := Try.checked) false ⟨#[], #[.slice none 0 0, .int .u8 0], []⟩ 8 (by kernel_rfl) (by kernel_rfl) (by kernel_rfl) (by kernel_rfl)) ?_
  intro W base args ds gs before hval0 hW hcnd _
  have hval : ∀ (j : Nat) t v, Try.f7.params[j]? = some t → args[j]? = some v → Value.okWide Try.prog W .any base t v := hval0
  have hW' := hW
  obtain ⟨p, q, hA0, hV, rfl, hfz, hnd⟩ := hW
  have hA : DataW.TrodAll enc Try.prog W 0 (fun _ => true) true Try.f7.params.toList args.toList ds p := hA0
  rw [Try.params7] at hA hval
  obtain ⟨v0, vs0, d0, ds0, p0, q0, hargs, rfl, rfl, h0, r0⟩ := trodAll_cons hA
  obtain ⟨v1, vs1, d1, ds1, p1, q1, rfl, rfl, rfl, h1, r1⟩ := trodAll_cons r0
  obtain ⟨rfl, rfl, rfl⟩ := trodAll_nil r1
  obtain rfl : args = #[v0, v1] := by cases args; simp_all
  obtain ⟨A, c, l, rfl, hs, hl, hq⟩ := open_acts (hval 0 22 v0 rfl rfl) h0
  obtain ⟨a1, rfl, rfl, rfl, w1⟩ := open_int Try.underlying5 (hval 1 5 v1 rfl rfl) h1
  refine (walk l A c a1 w1 W hs hl hq).mono fun e W' ⟨he, bel⟩ => ?_
  subst he
  exact ⟨_, rfl, Law.post_law laidOut (by kernel_rfl) (by kernel_rfl) Try.underlying4 rfl (fun ds h => by match ds, h with | [_, _], _ => rfl) hW' bel⟩

theorem proved : Rows.BookRoomSaid :=
  OpenClaim.holds_of_wide 7 Try.f7 rfl rfl rfl rfl rfl rfl rfl ⟨rfl, rfl, rfl, rfl, rfl⟩ rfl rfl rfl rfl rfl (by kernel_rfl) Try.func7 (by kernel_rfl)
    (of_decide_eq_true (by kernel_rfl)) (by unfold Func.isWrapper; rw [if_neg (by decide +kernel)]; exact ⟨rfl, rfl⟩)
    (fun os started H enc _ => lifted os started H enc)
#print axioms proved
end Go.Proofs.Ytjjemdmbhgmiiaa.bookRoom

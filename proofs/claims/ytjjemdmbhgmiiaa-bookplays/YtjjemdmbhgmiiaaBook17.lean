/-
  What the reference's (layer 8) Sweep comes to.
-/
import Derived.Test.YtjjemdmbhgmiiaaBook16
namespace Go.Proofs.Ytjjemdmbhgmiiaa
open Go.RowKit
namespace Bk
open Go.Law Go.Proofs.Ytjjemdmbhgmiiaa.OmapB Door
theorem elemR : ∃ i, Law.Elem Try.prog 37 93 i (.agg #[.string .empty, .int .i64 0, .int .i64 0, .int .i64 0, .int .i64 0, .int .i64 0, .int .i64 0]) 7 64 := Law.Elem.of Try.underlying37 (by kernel_rfl) rfl (by decide)

set_option maxRecDepth 100000 in
set_option maxHeartbeats 4000000 in
theorem refSweep (now : Int) {w : World} {A : Option Addr} {c : Nat} {b : List (ByteArray × En)} (h : UsersAt w A b) (hR : Rises lt b) (hl : b.length ≤ 400) (hm : ∀ q ∈ b, q.2.1.length ≤ 900) :
    Calls Try.prog 13 #[.slice A b.length c, .int .u64 now] w fun e w' => ∃ A1 c1 A2 c2, e = .returned (.tuple #[.slice A1 (sweepB now b).length c1, .slice A2 (sweepC now b).length c2]) ∧ UsersAt w' A1 (sweepB now b) ∧ Lain 93 w' A2 (flatC (sweepC now b)) ∧ Below w.heap.size w w' := by
  have HU0 := Lib.hid h
  obtain ⟨xs, hx, hin, hxb⟩ := h
  have hxl : b.length = xs.length := by rw [← hxb, mapV_length]
  have HX := Lib.hid hx
  have HIN := Lib.hid hin
  have HXB := Lib.hid hxb
  have HR := Lib.hid hR
  have HM := Lib.hid hm
  have HXL := Lib.hid hxl
  have hl4 : xs.length ≤ 400 := by omega
  obtain ⟨i0, hE⟩ := elemR
  have HE := Lib.hid hE
  have HB := Lib.hid (Below.refl w.heap.size w)
  rw [hxl]
  clear hx hin hxb hR hm hE hxl
  go_enter Try.func13, Try.ntmps13
  go_wp2_with fail
  go_loopw [6, 7, 8] (fun av ov iv wr => ∃ (j : Nat) (A2 : Option Addr) (c2 : Nat), j ≤ xs.length ∧ iv = .int .i64 j ∧ ov = .slice A2 (foldB lt now b (b.take j)).1.length c2 ∧ UsersAt wr A2 (foldB lt now b (b.take j)).1 ∧ wr.ownsRow w.heap.size 93 7 av (foldB lt now b (b.take j)).2.length (flatC (foldB lt now b (b.take j)).2) ∧ Below w.heap.size w wr) (fun _ _ iv _ => xs.length - (intOf iv).toNat)
  case atStart => exact ⟨0, A, c, Nat.zero_le _, rfl, by rw [List.take_zero]; show _ = Value.slice A b.length c; rw [HXL.out], by rw [List.take_zero]; exact HU0.out, by rw [List.take_zero]; exact World.ownsRow_nil _ _ _ _, Below.refl _ _⟩
  case round =>
    obtain ⟨j, A2, c2, hj, rfl, rfl, hu, ho, hb⟩ := hrel
    obtain ⟨A4, c4, rfl, _⟩ := own_shape ho
    have HUW := Lib.hid hu
    have HO := Lib.hid ho
    have HBW := Lib.hid hb
    have sz := hb.size
    clear hu ho hb HU0
    by_cases hlt : j < xs.length
    · have HNX : Hid (foldB lt now b (b.take (j + 1)) = (become lt xs[j].1 (live now xs[j].2.ss) now (foldB lt now b (b.take j)).1, (foldB lt now b (b.take j)).2 ++ tells xs[j].1 (live now xs[j].2.ss) now (foldB lt now b (b.take j)).1)) := by
        have e1 : b.take (j + 1) = b.take j ++ [(xs[j].1, xs[j].2.en)] := by
          rw [← HXB.out]
          unfold mapV
          rw [List.take_succ_eq_append_getElem (by simpa using hlt)]
          simp
        show _ = _
        rw [e1, foldB_snoc]
        rfl
      have HFR : Hid (Rises lt (foldB lt now b (b.take j)).1) := foldB_rises lt tri now _ HR.out
      have hfl : (foldB lt now b (b.take j)).1.length ≤ 800 := by
        have h1 := foldB_len lt now (b.take j) b
        have h2 := HXL.out
        simp at h1
        omega
      have hfc : (foldB lt now b (b.take j)).2.length ≤ 400 := by
        have h1 := foldB_told lt now (b.take j) b
        simp at h1
        omega
      have hvl : xs[j].2.ss.length ≤ 900 := HM.out (xs[j].1, xs[j].2.en) (by rw [← HXB.out]; exact List.mem_map.2 ⟨_, List.getElem_mem hlt, rfl⟩)
      have hvi := (HIN.out _ (List.getElem_mem hlt)).keeps (Keeps.of_below HBW.out)
      obtain ⟨gb, off, rfl, _, lb, y0, y1, _, _, _⟩ := HX.out.seq.us hlt
      have lr : gb < wr.heap.size := by omega
      generalize xs[j] = q at *
      obtain ⟨nm, vA, vn, vc, vs, vp, vl, vss⟩ := q
      simp only at y0 y1 HNX hvl hvi
      have hvn : vn = vss.length := hvi.1
      subst hvn
      have HVL : Hid (Lain 63 wr vA (flatS vss)) := hvi.2
      have q0 := (HBW.out.cell (p := ⟨gb, off + j * 5, none⟩) lb).trans y0
      have q1 := (HBW.out.cell (p := ⟨gb, off + j * 5 + 1, none⟩) lb).trans y1
      clear hvi
      generalize foldB lt now b (b.take j) = fb at *
      obtain ⟨fbb, fbc⟩ := fb
      simp only at HNX HFR hfl hfc HUW HO
      have hll : (live now vss).length ≤ 900 := Nat.le_trans (live_length now vss) hvl
      have HPU : Hid (∀ W, Kept wr W → Calls Try.prog 30 #[.slice vA vss.length vc, .int .u64 now] W fun e w' => ∃ A c, e = .returned (.slice A (live now vss).length c) ∧ Lain 63 w' A (flatS (live now vss)) ∧ Below W.heap.size W w') := fun W K => refPurge_ rfl (HVL.out.now K) hvl
      have HBC : Hid (∀ W A5 c5, Kept wr W → Lain 63 W A5 (flatS (live now vss)) → Calls Try.prog 29 #[.slice A2 fbb.length c2, .string nm, .slice A5 (live now vss).length c5, .int .u64 now] W fun e w' => ∃ A1 c1 A2 c2, e = .returned (.tuple #[.slice A1 (become lt nm (live now vss) now fbb).length c1, .slice A2 (tells nm (live now vss) now fbb).length c2]) ∧ UsersAt w' A1 (become lt nm (live now vss) now fbb) ∧ Lain 93 w' A2 (flatC (tells nm (live now vss) now fbb)) ∧ Below W.heap.size W w') := fun W A5 c5 K hL => refBecome nm (live now vss) now (HUW.out.now K) HFR.out hL hll (by omega)
      have hnc := tells_le nm (live now vss) now fbb
      generalize become lt nm (live now vss) now fbb = nb at *
      generalize tells nm (live now vss) now fbb = nc at *
      generalize live now vss = ls at *
      go_wp2_with fail
      refine wp_region_held_drew (S := fun w' => w'.cell? ⟨gb, off + j * 5, none⟩ = some (.string nm) ∧ w'.cell? ⟨gb, off + j * 5 + 1, none⟩ = some (.slice vA vss.length vc)) (by kernel_rfl) ⟨q0, q1⟩ (fun hS0 => ?_)
      refine wpAnyH_take (i := 0) (oi := { dst := some 19, op := .move (.tmp 7), type := _, pos := _, after := _, guard := _ }) (v := .slice A2 fbb.length c2) rfl (by kernel_rfl) (by kernel_rfl) (by kernel_rfl) (fun _ _ _ h => h) (Or.inl ⟨by rfl, ?_⟩) hS0 ?_
      · intro w' hSw
        go_simp
      try simp only [Act.put, List.setIfInBounds_toArray, List.set_cons_zero, List.set_cons_succ]
      refine wpAnyH_take (i := 1) (oi := { dst := some 20, op := .move (.tmp 0), type := _, pos := _, after := _, guard := _ }) (v := .slice (some ⟨gb, off, none⟩) xs.length c) rfl (by kernel_rfl) (by kernel_rfl) (by kernel_rfl) (fun _ _ _ h => h) (Or.inl ⟨by rfl, ?_⟩) hS0 ?_
      · intro w' hSw
        go_simp
      try simp only [Act.put, List.setIfInBounds_toArray, List.set_cons_zero, List.set_cons_succ]
      refine wpAnyH_take (i := 2) (oi := { dst := some 21, op := .move (.tmp 8), type := _, pos := _, after := _, guard := _ }) (v := .int .i64 (j : Int)) rfl (by kernel_rfl) (by kernel_rfl) (by kernel_rfl) (fun _ _ _ h => h) (Or.inl ⟨by rfl, ?_⟩) hS0 ?_
      · intro w' hSw
        go_simp
      try simp only [Act.put, List.setIfInBounds_toArray, List.set_cons_zero, List.set_cons_succ]
      refine wpAnyH_take (i := 3) (oi := { dst := some 22, op := .indexAddr 28 (.tmp 20) (.tmp 21), type := _, pos := _, after := _, guard := _ }) (v := .pointer (some ⟨gb, off + j * 5, none⟩)) rfl (by kernel_rfl) (by kernel_rfl) (by kernel_rfl) (fun _ _ _ h => h) (Or.inl ⟨by rfl, ?_⟩) hS0 ?_
      · intro w' hSw
        go_simp
      try simp only [Act.put, List.setIfInBounds_toArray, List.set_cons_zero, List.set_cons_succ]
      refine wpAnyH_take (i := 4) (oi := { dst := some 23, op := .fieldAddr 55 (.tmp 22) 0, type := _, pos := _, after := _, guard := _ }) (v := .pointer (some ⟨gb, off + j * 5, none⟩)) rfl (by kernel_rfl) (by kernel_rfl) (by kernel_rfl) (fun _ _ _ h => h) (Or.inl ⟨by rfl, ?_⟩) hS0 ?_
      · intro w' hSw
        go_simp
      try simp only [Act.put, List.setIfInBounds_toArray, List.set_cons_zero, List.set_cons_succ]
      refine wpAnyH_take (i := 5) (oi := { dst := some 24, op := .load 9 (.tmp 23), type := _, pos := _, after := _, guard := _ }) (v := .string nm) rfl (by kernel_rfl) (by kernel_rfl) (by kernel_rfl) (fun _ _ _ h => h) (Or.inl ⟨by rfl, ?_⟩) hS0 ?_
      · intro w' hSw
        go_simp
      try simp only [Act.put, List.setIfInBounds_toArray, List.set_cons_zero, List.set_cons_succ]
      refine wpAnyH_take (i := 6) (oi := { dst := some 25, op := .move (.tmp 0), type := _, pos := _, after := _, guard := _ }) (v := .slice (some ⟨gb, off, none⟩) xs.length c) rfl (by kernel_rfl) (by kernel_rfl) (by kernel_rfl) (fun _ _ _ h => h) (Or.inl ⟨by rfl, ?_⟩) hS0 ?_
      · intro w' hSw
        go_simp
      try simp only [Act.put, List.setIfInBounds_toArray, List.set_cons_zero, List.set_cons_succ]
      refine wpAnyH_take (i := 7) (oi := { dst := some 26, op := .move (.tmp 8), type := _, pos := _, after := _, guard := _ }) (v := .int .i64 (j : Int)) rfl (by kernel_rfl) (by kernel_rfl) (by kernel_rfl) (fun _ _ _ h => h) (Or.inl ⟨by rfl, ?_⟩) hS0 ?_
      · intro w' hSw
        go_simp
      try simp only [Act.put, List.setIfInBounds_toArray, List.set_cons_zero, List.set_cons_succ]
      refine wpAnyH_take (i := 8) (oi := { dst := some 27, op := .indexAddr 28 (.tmp 25) (.tmp 26), type := _, pos := _, after := _, guard := _ }) (v := .pointer (some ⟨gb, off + j * 5, none⟩)) rfl (by kernel_rfl) (by kernel_rfl) (by kernel_rfl) (fun _ _ _ h => h) (Or.inl ⟨by rfl, ?_⟩) hS0 ?_
      · intro w' hSw
        go_simp
      try simp only [Act.put, List.setIfInBounds_toArray, List.set_cons_zero, List.set_cons_succ]
      refine wpAnyH_take (i := 9) (oi := { dst := some 28, op := .fieldAddr 55 (.tmp 27) 1, type := _, pos := _, after := _, guard := _ }) (v := .pointer (some ⟨gb, off + j * 5 + 1, none⟩)) rfl (by kernel_rfl) (by kernel_rfl) (by kernel_rfl) (fun _ _ _ h => h) (Or.inl ⟨by rfl, ?_⟩) hS0 ?_
      · intro w' hSw
        go_simp
      try simp only [Act.put, List.setIfInBounds_toArray, List.set_cons_zero, List.set_cons_succ]
      refine wpAnyH_take (i := 10) (oi := { dst := some 29, op := .load 51 (.tmp 28), type := _, pos := _, after := _, guard := _ }) (v := .slice vA vss.length vc) rfl (by kernel_rfl) (by kernel_rfl) (by kernel_rfl) (fun _ _ _ h => h) (Or.inl ⟨by rfl, ?_⟩) hS0 ?_
      · intro w' hSw
        go_simp
      try simp only [Act.put, List.setIfInBounds_toArray, List.set_cons_zero, List.set_cons_succ]
      refine wpAnyH_take (i := 11) (oi := { dst := some 30, op := .move (.tmp 1), type := _, pos := _, after := _, guard := _ }) (v := .int .u64 now) rfl (by kernel_rfl) (by kernel_rfl) (by kernel_rfl) (fun _ _ _ h => h) (Or.inl ⟨by rfl, ?_⟩) hS0 ?_
      · intro w' hSw
        go_simp
      try simp only [Act.put, List.setIfInBounds_toArray, List.set_cons_zero, List.set_cons_succ]
      refine wpAnyH_take (i := 13) (oi := { dst := some 32, op := .move (.tmp 1), type := _, pos := _, after := _, guard := _ }) (v := .int .u64 now) rfl (by kernel_rfl) (by kernel_rfl) (by kernel_rfl) (fun _ _ _ h => h) (Or.inl ⟨by rfl, ?_⟩) hS0 ?_
      · intro w' hSw
        go_simp
      try simp only [Act.put, List.setIfInBounds_toArray, List.set_cons_zero, List.set_cons_succ]
      refine wpAnyH_ready (rs := [12]) (by kernel_rfl) (by simp) ?_
      refine AllReadyH.cons (o := { dst := some 31, op := .call { callee := .value (.func 30), args := #[.tmp 29, .tmp 30], argTypes := #[51, 29] }, type := _, pos := _, after := _, guard := _ }) rfl (fun K hK => ?_) AllReadyH.nil
      go_simp
      refine Calls.mono (HPU.out _ (Kept.drew wr)) ?_
      rintro e w5 ⟨A5, c5, rfl, l5, b1⟩
      have b2 : Below wr.heap.size wr w5 := Below.trans (Kept.drew wr) (Below.mono b1 (Nat.le_refl _))
      have lr5 : gb < w5.heap.size := Nat.lt_of_lt_of_le lr b2.size
      go_wp2_with fail
      refine hK.out _ _ (by obtain ⟨y1, y2⟩ := hS0; exact ⟨(b1.cell (p := ⟨gb, off + j * 5, none⟩) lr).trans y1, (b1.cell (p := ⟨gb, off + j * 5 + 1, none⟩) lr).trans y2⟩) (fun hS1 => ?_)
      clear hK K
      try simp only [Act.put, List.setIfInBounds_toArray, List.set_cons_zero, List.set_cons_succ]
      refine wpAnyH_ready (rs := [14]) (by kernel_rfl) (by simp) ?_
      refine AllReadyH.cons (o := { dst := some 33, op := .call { callee := .value (.func 29), args := #[.tmp 19, .tmp 24, .tmp 31, .tmp 32], argTypes := #[28, 9, 51, 29] }, type := _, pos := _, after := _, guard := _ }) rfl (fun K hK => ?_) AllReadyH.nil
      go_simp
      refine Calls.mono (HBC.out _ _ _ b2 l5) ?_
      rintro e w6 ⟨A6, c6, A7, c7, rfl, u6, l6, b3⟩
      have b4 : Below wr.heap.size wr w6 := Below.trans b2 (Below.mono b3 b2.size)
      go_wp2_with fail
      refine hK.out _ _ (by obtain ⟨y1, y2⟩ := hS1; exact ⟨(b3.cell (p := ⟨gb, off + j * 5, none⟩) lr5).trans y1, (b3.cell (p := ⟨gb, off + j * 5 + 1, none⟩) lr5).trans y2⟩) (fun hS2 => ?_)
      clear hK K
      try simp only [Act.put, List.setIfInBounds_toArray, List.set_cons_zero, List.set_cons_succ]
      refine wpAnyH_take (i := 15) (oi := { dst := some 18, op := .move (.tmp 33), type := _, pos := _, after := _, guard := _ }) (v := .tuple #[.slice A6 nb.length c6, .slice A7 nc.length c7]) rfl (by kernel_rfl) (by kernel_rfl) (by kernel_rfl) (fun _ _ _ h => h) (Or.inl ⟨by rfl, ?_⟩) hS2 ?_
      · intro w' hSw
        go_simp
      try simp only [Act.put, List.setIfInBounds_toArray, List.set_cons_zero, List.set_cons_succ]
      refine wpAnyH_take (i := 16) (oi := { dst := some 34, op := .extract (.tmp 18) 0, type := _, pos := _, after := _, guard := _ }) (v := .slice A6 nb.length c6) rfl (by kernel_rfl) (by kernel_rfl) (by kernel_rfl) (fun _ _ _ h => h) (Or.inl ⟨by rfl, ?_⟩) hS2 ?_
      · intro w' hSw
        go_simp
      try simp only [Act.put, List.setIfInBounds_toArray, List.set_cons_zero, List.set_cons_succ]
      refine wpAnyH_take (i := 17) (oi := { dst := some 35, op := .extract (.tmp 18) 1, type := _, pos := _, after := _, guard := _ }) (v := .slice A7 nc.length c7) rfl (by kernel_rfl) (by kernel_rfl) (by kernel_rfl) (fun _ _ _ h => h) (Or.inl ⟨by rfl, ?_⟩) hS2 ?_
      · intro w' hSw
        go_simp
      try simp only [Act.put, List.setIfInBounds_toArray, List.set_cons_zero, List.set_cons_succ]
      refine wpAnyH_take (i := 18) (oi := { dst := some 9, op := .assign (.tmp 34), type := _, pos := _, after := _, guard := _ }) (v := .slice A6 nb.length c6) rfl (by kernel_rfl) (by kernel_rfl) (by kernel_rfl) (fun _ _ _ h => h) (Or.inl ⟨by rfl, ?_⟩) hS2 ?_
      · intro w' hSw
        go_simp
      try simp only [Act.put, List.setIfInBounds_toArray, List.set_cons_zero, List.set_cons_succ]
      refine wpAnyH_take (i := 19) (oi := { dst := some 10, op := .assign (.tmp 35), type := _, pos := _, after := _, guard := _ }) (v := .slice A7 nc.length c7) rfl (by kernel_rfl) (by kernel_rfl) (by kernel_rfl) (fun _ _ _ h => h) (Or.inl ⟨by rfl, ?_⟩) hS2 ?_
      · intro w' hSw
        go_simp
      try simp only [Act.put, List.setIfInBounds_toArray, List.set_cons_zero, List.set_cons_succ]
      refine wpAnyH_done (by kernel_rfl) ?_ _
      have HU6 := Lib.hid u6
      have HL6 := Lib.hid l6
      have HO6 := Lib.hid (own_below HO.out b4)
      have HB6 := Lib.hid (HBW.out.trans (b4.mono HBW.out.size))
      have sz6 := HB6.out.size
      clear u6 l6 l5 b1 b2 b3 b4 hS0 hS1 hS2 lr5 HPU HBC HVL HUW HO HBW q0 q1 y0 y1
      go_wp2_with (at_builtin; refine Law.wpList_append_seq _ w.heap.size 37 rfl _ _ rfl HE.out _ _ _ rfl HO6.out 0 _ A7 nc.length c7 (flatC nc) rfl (flatC_length nc) HL6.out.seq (flatC_one nc) (by unfold maxLen; omega) (by omega) (by omega) ?_; intro v8 w8 hown hgrow; obtain ⟨A8, c8, rfl, _⟩ := own_shape hown; have HO8 := Lib.hid hown; have HU8 := Lib.hid (HU6.out.keeps (Keeps.grown HO6.out hgrow (by decide)) (Keeps.grown HO6.out hgrow (by decide))); have HB8 := Lib.hid (HB6.out.grown hgrow (by omega) (fun g hg => (HO6.out.lt g hg).1)); clear hown hgrow)
      go_roundw
      case rel =>
        refine ⟨j + 1, A6, c6, by omega, by go_num, by rw [HNX.out], by rw [HNX.out]; exact HU8.out, ?_, HB8.out⟩
        rw [HNX.out]
        simpa [flatC_app] using HO8.out
      case measure => simp [intOf]; omega
    · have e1 : b.take j = b := List.take_of_length_le (by have := HXL.out; omega)
      rw [e1, foldB_all lt tri now HR.out] at HUW HO ⊢
      simp only at HUW HO
      go_wp2_with fail
      exact bodyPost_ret (v := .tuple #[.slice A2 (sweepB now b).length c2, .slice A4 (sweepC now b).length c4]) (by simp [results, Try.results13, go_sem]) rfl ⟨A2, c2, A4, c4, rfl, HUW.out, Lain.own HO.out, HBW.out⟩
end Bk
end Go.Proofs.Ytjjemdmbhgmiiaa

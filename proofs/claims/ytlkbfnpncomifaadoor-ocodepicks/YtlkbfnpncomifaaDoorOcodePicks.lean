/-
  Bytes behind a script's clients tell picks, two by two.
-/
import Derived.Test.YtlkbfnpncomifaaDoorOcMem
import Derived.Test.YtlkbfnpncomifaaDoorOcSame
import Derived.Test.YtlkbfnpncomifaaDoorRoundHeld
namespace Go.Proofs.YtlkbfnpncomifaaDoor
open Go.RowKit Go.ChangeShapes Go.WideShapes Go.ChangeAt
attribute [local go_sem] Oper.semAt_some
namespace ocodePicks
open Go.Law Opx
theorem elemB : ∃ i, Law.Elem Tryd.prog 22 5 i (.int .u8 0) 1 1 := Law.Elem.of Tryd.underlying22 (by kernel_rfl) rfl (by decide)
theorem one_bytes (zs : List Int) : ∀ u ∈ zs.map (Value.int .u8), u.oneCell' = true := by
  intro u hu
  obtain ⟨z, _, rfl⟩ := List.mem_map.1 hu
  rfl
def headL : List Int := [0, 0, 0, 0, 0, 9, 0, 0, 0]
theorem at_head (l : List Int) (k : Nat) : at_ (headL ++ l) (9 + k) = at_ l k := by
  rw [← at_drop]; rfl
theorem head_cl (l : List Int) : clN (headL ++ l) = 1 := rfl
theorem head_clients (l : List Int) : clients (headL ++ l) = [[]] := rfl
theorem head_end (l : List Int) : clEnd (headL ++ l) = 9 := rfl
theorem head_ok {l : List Int} (h : Bytes l) : Bytes (headL ++ l) := by
  intro x hx
  rcases List.mem_append.1 hx with hx | hx
  · have : ∀ x ∈ headL, 0 ≤ x ∧ x ≤ 255 := by decide
    exact this x hx
  · exact h x hx
theorem head_len (l : List Int) (h : l.length ≤ 4000) : (picks (headL ++ l)).length = (l.length + 1) / 2 := by
  rw [picks_len, head_end]
  unfold pkN
  rw [List.length_append]
  show min 20000 ((9 + l.length - 9 + 1) / 2) = _
  omega
theorem head_pick (l : List Int) (j : Nat) (h : j < (picks (headL ++ l)).length) : (picks (headL ++ l))[j] = pickP (at_ l (2 * j)) (at_ l (2 * j + 1)) := by
  have e : (picks (headL ++ l))[j] = pickP (at_ (headL ++ l) (clEnd (headL ++ l) + 2 * j)) (at_ (headL ++ l) (clEnd (headL ++ l) + 2 * j + 1)) := by
    simp only [picks, pkTo, List.getElem_map, List.getElem_range]
  rw [e, head_end, at_head, Nat.add_assoc, at_head]
set_option maxRecDepth 100000 in
set_option maxHeartbeats 2000000 in
theorem walk (A : Option Addr) (c : Nat) (b : List Int) (w : World) (hs : Seq w 0 w.heap.size A (b.map (.int .u8))) (hl : b.length ≤ maxLen) (hb : Bytes b) (hT : Tabs w) :
    Calls Tryd.prog 7 #[.slice A b.length c] w fun e w' => e = .returned (.bool true) ∧ Below w.heap.size w w' := by
  have h0 := tab_pos hT
  have HS := Lib.hid hs
  have HT := Lib.hid hT
  have HBY := Lib.hid hb
  obtain ⟨i1, hE1⟩ := elemB
  have HE1 := Lib.hid hE1
  unfold maxLen at hl
  clear hs hT hb hE1
  go_enter Tryd.func7, Tryd.ntmps7
  go_wp2_with fail
  refine (awake w HT.out h0).mono ?_
  rintro e w2 ⟨rfl, b2⟩
  have HB2 := Lib.hid b2
  have HS2 := Lib.hid ((HS.out.below b2).more b2.size)
  have HT2 := Lib.hid (HT.out.below b2)
  clear b2
  by_cases hf : 4000 < b.length
  · have d1 : decide ((4000 : Int) < (b.length : Int)) = true := by simp; omega
    go_wp2_with fail
    refine (awake w2 HT2.out (tab_pos HT2.out)).mono ?_
    rintro e w3 ⟨rfl, b3⟩
    have HB3 := Lib.hid (HB2.out.trans (b3.mono HB2.out.size))
    clear b3
    go_wp2_with fail
    go_ret
    exact ⟨rfl, HB3.out⟩
  · have d1 : decide ((4000 : Int) < (b.length : Int)) = false := by simp; omega
    have HO5 : Hid ((w2.alloc (.cells #[.int .u8 0, .int .u8 0, .int .u8 0, .int .u8 0, .int .u8 0, .int .u8 9, .int .u8 0, .int .u8 0, .int .u8 0] 5)).ownsRow w2.heap.size 5 1 (.slice (some ⟨w2.heap.size, 0, none⟩) 9 9) 9 [.int .u8 0, .int .u8 0, .int .u8 0, .int .u8 0, .int .u8 0, .int .u8 9, .int .u8 0, .int .u8 0, .int .u8 0]) := Lib.hid ⟨rfl, .inr ⟨w2.heap.size, 9, #[.int .u8 0, .int .u8 0, .int .u8 0, .int .u8 0, .int .u8 0, .int .u8 9, .int .u8 0, .int .u8 0, .int .u8 0], rfl, Nat.le_refl _, heap_alloc_new w2 _, Nat.le_refl _, by unfold maxLen; omega, rfl, rfl⟩⟩
    have HS5 := Lib.hid (HS2.out.alloc (Nat.le_refl _) (.cells #[.int .u8 0, .int .u8 0, .int .u8 0, .int .u8 0, .int .u8 0, .int .u8 9, .int .u8 0, .int .u8 0, .int .u8 0] 5))
    have HG : Hid (∀ w6 row, (w2.alloc (.cells #[.int .u8 0, .int .u8 0, .int .u8 0, .int .u8 0, .int .u8 0, .int .u8 9, .int .u8 0, .int .u8 0, .int .u8 0] 5)).grownBy w6 row → (∀ k, row = some k → w2.heap.size ≤ k) → Below w2.heap.size w2 w6) := Lib.hid (fun w6 row hg hk => ((Below.refl w2.heap.size w2).alloc (Nat.le_refl _) _).grown hg (by simp) hk)
    go_wp2_with (at_builtin; refine wpList_append_seq _ w2.heap.size 22 rfl _ _ rfl HE1.out _ 9 [.int .u8 0, .int .u8 0, .int .u8 0, .int .u8 0, .int .u8 0, .int .u8 9, .int .u8 0, .int .u8 0, .int .u8 0] rfl HO5.out 0 _ A b.length c (b.map (.int .u8)) rfl (by simp) HS5.out (one_bytes b) (by unfold maxLen; omega) (by omega) (by simp) ?_; intro v6 w6 hown hg6; have HO6 := Lib.hid hown; have HB6 := Lib.hid (HG.out w6 _ hg6 (fun k hk => (HO5.out.lt k hk).1)); obtain ⟨D6, c6, rfl, hc6⟩ := own_shape hown; clear hown hg6)
    clear HS5 HO5 HG
    obtain ⟨b', hb'⟩ : ∃ b', headL ++ b = b' := ⟨_, rfl⟩
    have hbl : b'.length = 9 + b.length := by rw [← hb']; simp [headL]; omega
    have hS6 : Seq w6 0 w6.heap.size D6 (b'.map (.int .u8)) := by have h := Seq.own HO6.out; rw [show ([.int .u8 0, .int .u8 0, .int .u8 0, .int .u8 0, .int .u8 0, .int .u8 9, .int .u8 0, .int .u8 0, .int .u8 0] ++ b.map (Value.int .u8)) = b'.map (.int .u8) by rw [← hb', List.map_append]; rfl] at h; exact h.from_ (Nat.zero_le _)
    have HT6 := Lib.hid (HT2.out.below HB6.out)
    have hrd := read (b := b') (A := D6) (c := c6) (by rw [← hb']; exact head_ok HBY.out) hS6 (by rw [hbl]; unfold maxLen; omega) (by rw [hbl]; exact hc6) HT6.out (tab_pos HT6.out)
    rw [hbl] at hrd
    have HRD := Lib.hid hrd
    have HS6 := Lib.hid ((HS2.out.below HB6.out).more HB6.out.size)
    have HBy := Lib.hid (HB2.out.trans (HB6.out.mono HB2.out.size))
    have HPK := Lib.hid (hb' ▸ head_len b (by omega))
    have HPI : Hid (∀ j, (h : j < (picks b').length) → (picks b')[j] = pickP (at_ b (2 * j)) (at_ b (2 * j + 1))) := Lib.hid (by rw [← hb']; exact head_pick b)
    have HCL : Hid (clients b' = [[]]) := Lib.hid (by rw [← hb']; exact head_clients b)
    clear hrd hS6 hbl hc6 HO6 HS2 HB6 hb'
    refine HRD.out.mono ?_
    rintro e w8 ⟨C, cC, ls, Kp, cK, rfl, hpl, hcl, hk, hcC, b8⟩
    rw [HCL.out] at hpl
    have hll : ls.length = 1 := by have h := congrArg List.length hpl; simpa [plainC] using h
    obtain ⟨⟨A1, c1, q1⟩, rfl⟩ : ∃ r, ls = [r] := List.length_eq_one_iff.1 hll
    have hq1 : q1 = [] := by have h : [q1.map plain] = [[]] := hpl; simpa using h
    subst hq1
    have ba := (Below.refl w8.heap.size w8).alloc (Nat.le_refl _) (.cells #[.int .i64 (1 + at_ b' 0 % 8), .int .i64 (1 + at_ b' 1 % 8), .int .i64 (1 + at_ b' 2 % 16), .int .i64 (1 + at_ b' 3 % 8), .int .i64 (at_ b' 4 % 5), .int .u64 (at_ b' 5), .int .u64 (longI (at_ b' 6)), .slice C 1 cC, .slice Kp (picks b').length cK] 31)
    have HX := Lib.hid (show Scr (w8.alloc (.cells #[.int .i64 (1 + at_ b' 0 % 8), .int .i64 (1 + at_ b' 1 % 8), .int .i64 (1 + at_ b' 2 % 16), .int .i64 (1 + at_ b' 3 % 8), .int .i64 (at_ b' 4 % 5), .int .u64 (at_ b' 5), .int .u64 (longI (at_ b' 6)), .slice C 1 cC, .slice Kp (picks b').length cK] 31)) w8.heap.size b' C cC [(A1, c1, [])] Kp cK from ⟨Is.new w8 _ _ rfl, hcl.keeps (Keeps.of_below ba) (Keeps.of_below ba) (Keeps.of_below ba), hk.now ba⟩)
    have HB9 := Lib.hid ((HBy.out.trans (b8.mono HBy.out.size)).trans (ba.mono (HBy.out.trans (b8.mono HBy.out.size)).size))
    have HS9 := Lib.hid ((((HS6.out.below b8).more b8.size).below ba).more ba.size)
    obtain ⟨q0, o0, hC0, lq0, g0⟩ := hcl.at (i := 0) (by simp)
    have g0' : w8.cell? ⟨q0, o0, none⟩ = some (.slice A1 0 c1) := g0
    subst hC0
    clear g0 ba b8 hcl hk hpl hll HS6
    have hpk := HPK.out
    have hpk3 := (picks_le b').2
    have d2 : (((picks b').length : Int) != ((b.length : Int) + 1) / 2) = false := by rw [bne_eq_false_iff_eq]; omega
    clear hpk
    go_wp2_with fail
    generalize w8.alloc (.cells #[.int .i64 (1 + at_ b' 0 % 8), .int .i64 (1 + at_ b' 1 % 8), .int .i64 (1 + at_ b' 2 % 16), .int .i64 (1 + at_ b' 3 % 8), .int .i64 (at_ b' 4 % 5), .int .u64 (at_ b' 5), .int .u64 (longI (at_ b' 6)), .slice (some ⟨q0, o0, none⟩) 1 cC, .slice Kp (picks b').length cK] 31) = w9 at *
    clear g0'
    go_loopw [5] (fun vi wr => ∃ j : Nat, j ≤ (picks b').length ∧ vi = .int .i64 j ∧ Below w9.heap.size w9 wr) (fun vi _ => (picks b').length - (RowKit.intOf vi).toNat)
    case atStart => exact ⟨0, Nat.zero_le _, rfl, Below.refl _ _⟩
    case round =>
      obtain ⟨j, hj, rfl, hw⟩ := hrel
      have HW := Lib.hid hw
      have HXr := Lib.hid (HX.out.below hw)
      have HSr := Lib.hid ((HS9.out.below hw).more hw.size)
      clear hw
      have x8 : wr.cell? ⟨w8.heap.size, 8, none⟩ = some (.slice Kp (picks b').length cK) := HXr.out.box.cell' rfl
      have lx := HXr.out.box.lt
      have hpk := HPK.out
      by_cases hlt : j < (picks b').length
      · have e1 : decide ((j : Int) < ((picks b').length : Int)) = true := by simp; omega
        have h2j : 2 * j < b.length := by omega
        clear hpk
        obtain ⟨k, off, hK, lk, c0, c1', c2⟩ := Opx.Lain.pk HXr.out.pks hlt
        have hp := HPI.out j hlt
        obtain ⟨qa, oa, hA, _, la, ca⟩ := Seq.int (k := .u8) HSr.out (i := 2 * j) h2j
        have hxa : b[2 * j] = at_ b (2 * j) := by simp [at_, List.getD_eq_getElem?_getD, List.getElem?_eq_getElem h2j]
        rw [hxa] at ca
        have ra := HBY.out.at (2 * j)
        have rb := HBY.out.at (2 * j + 1)
        have HPC := Lib.hid (fun W => pick (at_ b (2 * j)) (at_ b (2 * j + 1)) ra rb W hp.symm)
        generalize (picks b')[j] = p at *
        obtain ⟨p0, p1, p2⟩ := p
        subst hK
        simp only at c0 c1' c2
        have HPC' : Hid (∀ W, Calls Tryd.prog 13 #[.int .u8 (at_ b (2 * j)), .int .u8 (at_ b (2 * j + 1))] W fun e w' => e = .returned (.agg #[.int .i64 p0, .int .i64 p1, .int .u64 p2]) ∧ Below W.heap.size W w') := HPC
        clear hp hxa HPC
        have hwj : IntKind.i64.wrap (2 * (j : Int)) = 2 * (j : Int) := by rw [IntKind.wrap_i64]; omega
        have hto : (2 * (j : Int)).toNat = 2 * j := by omega
        have hb0' : 0 ≤ 2 * (j : Int) := by omega
        have hb1' : 2 * (j : Int) < (b.length : Int) := by omega
        by_cases h3 : 2 * j + 1 < b.length
        · have e2 : decide ((2 : Int) * (j : Int) + 1 < (b.length : Int)) = true := decide_eq_true (by omega)
          obtain ⟨qb, ob, hAb, _, lb, cb⟩ := Seq.int (k := .u8) HSr.out (i := 2 * j + 1) h3
          have hxb : b[2 * j + 1] = at_ b (2 * j + 1) := by simp [at_, List.getD_eq_getElem?_getD, List.getElem?_eq_getElem h3]
          rw [hxb] at cb
          obtain ⟨rfl, rfl⟩ : qa = qb ∧ oa = ob := by rw [hA] at hAb; cases hAb; exact ⟨rfl, rfl⟩
          subst hA
          clear hxb hAb
          go_wp2_with fail
          refine wp_region_held_drew (S := fun w' => w'.cell? ⟨w8.heap.size, 8, none⟩ = some (.slice (some ⟨k, off, none⟩) (picks b').length cK) ∧ w'.cell? ⟨k, off + j * 3, none⟩ = some (.int .i64 p0) ∧ w'.cell? ⟨k, off + j * 3 + 1, none⟩ = some (.int .i64 p1) ∧ w'.cell? ⟨k, off + j * 3 + 2, none⟩ = some (.int .u64 p2) ∧ w'.cell? ⟨qa, oa + 2 * j, none⟩ = some (.int .u8 (at_ b (2 * j)))) (by kernel_rfl) ⟨x8, c0, c1', c2, ca⟩ (fun hS0 => ?_)
          refine wpAnyH_take (i := 0) (oi := { dst := some 61, op := .fieldAddr 31 (.tmp 4) 2, type := _, pos := _, after := _, guard := _ }) (v := .pointer (some ⟨w8.heap.size, 8, none⟩)) rfl (by kernel_rfl) (by kernel_rfl) (by kernel_rfl) (fun _ _ _ h => h) (Or.inl ⟨by rfl, ?_⟩) hS0 ?_
          · intro w' hSw
            go_simp
          try simp only [Act.put, List.setIfInBounds_toArray, List.set_cons_zero, List.set_cons_succ]
          refine wpAnyH_take (i := 1) (oi := { dst := some 62, op := .load 29 (.tmp 61), type := _, pos := _, after := _, guard := _ }) (v := .slice (some ⟨k, off, none⟩) (picks b').length cK) rfl (by kernel_rfl) (by kernel_rfl) (by kernel_rfl) (fun _ _ _ h => h) (Or.inl ⟨by rfl, ?_⟩) hS0 ?_
          · intro w' hSw
            obtain ⟨s0, s1, s2, s3, s4⟩ := hSw
            go_simp
          try simp only [Act.put, List.setIfInBounds_toArray, List.set_cons_zero, List.set_cons_succ]
          refine wpAnyH_take (i := 2) (oi := { dst := some 63, op := .move (.tmp 5), type := _, pos := _, after := _, guard := _ }) (v := .int .i64 (j : Int)) rfl (by kernel_rfl) (by kernel_rfl) (by kernel_rfl) (fun _ _ _ h => h) (Or.inl ⟨by rfl, ?_⟩) hS0 ?_
          · intro w' hSw
            go_simp
          try simp only [Act.put, List.setIfInBounds_toArray, List.set_cons_zero, List.set_cons_succ]
          refine wpAnyH_take (i := 3) (oi := { dst := some 64, op := .indexAddr 29 (.tmp 62) (.tmp 63), type := _, pos := _, after := _, guard := _ }) (v := .pointer (some ⟨k, off + j * 3, none⟩)) rfl (by kernel_rfl) (by kernel_rfl) (by kernel_rfl) (fun _ _ _ h => h) (Or.inl ⟨by rfl, ?_⟩) hS0 ?_
          · intro w' hSw
            go_simp
          try simp only [Act.put, List.setIfInBounds_toArray, List.set_cons_zero, List.set_cons_succ]
          refine wpAnyH_take (i := 4) (oi := { dst := some 65, op := .load 34 (.tmp 64), type := _, pos := _, after := _, guard := _ }) (v := .agg #[.int .i64 p0, .int .i64 p1, .int .u64 p2]) rfl (by kernel_rfl) (by kernel_rfl) (by kernel_rfl) (fun _ _ _ h => h) (Or.inl ⟨by rfl, ?_⟩) hS0 ?_
          · intro w' hSw
            obtain ⟨s0, s1, s2, s3, s4⟩ := hSw
            go_simp
          try simp only [Act.put, List.setIfInBounds_toArray, List.set_cons_zero, List.set_cons_succ]
          refine wpAnyH_take (i := 5) (oi := { dst := some 66, op := .move (.tmp 0), type := _, pos := _, after := _, guard := _ }) (v := .slice (some ⟨qa, oa, none⟩) b.length c) rfl (by kernel_rfl) (by kernel_rfl) (by kernel_rfl) (fun _ _ _ h => h) (Or.inl ⟨by rfl, ?_⟩) hS0 ?_
          · intro w' hSw
            go_simp
          try simp only [Act.put, List.setIfInBounds_toArray, List.set_cons_zero, List.set_cons_succ]
          refine wpAnyH_take (i := 6) (oi := { dst := some 67, op := .move (.tmp 5), type := _, pos := _, after := _, guard := _ }) (v := .int .i64 (j : Int)) rfl (by kernel_rfl) (by kernel_rfl) (by kernel_rfl) (fun _ _ _ h => h) (Or.inl ⟨by rfl, ?_⟩) hS0 ?_
          · intro w' hSw
            go_simp
          try simp only [Act.put, List.setIfInBounds_toArray, List.set_cons_zero, List.set_cons_succ]
          refine wpAnyH_take (i := 7) (oi := { dst := some 68, op := .binOp .mul 3 (.const (.int .i64 2)) (.tmp 67) 3, type := _, pos := _, after := _, guard := _ }) (v := .int .i64 (2 * (j : Int))) rfl (by kernel_rfl) (by kernel_rfl) (by kernel_rfl) (fun _ _ _ h => h) (Or.inl ⟨by rfl, ?_⟩) hS0 ?_
          · intro w' hSw
            try exact hwj
            go_simp
          try simp only [Act.put, List.setIfInBounds_toArray, List.set_cons_zero, List.set_cons_succ]
          refine wpAnyH_take (i := 8) (oi := { dst := some 69, op := .indexAddr 22 (.tmp 66) (.tmp 68), type := _, pos := _, after := _, guard := _ }) (v := .pointer (some ⟨qa, oa + 2 * j, none⟩)) rfl (by kernel_rfl) (by kernel_rfl) (by kernel_rfl) (fun _ _ _ h => h) (Or.inl ⟨by rfl, ?_⟩) hS0 ?_
          · intro w' hSw
            go_simp
          try simp only [Act.put, List.setIfInBounds_toArray, List.set_cons_zero, List.set_cons_succ]
          refine wpAnyH_take (i := 9) (oi := { dst := some 70, op := .load 5 (.tmp 69), type := _, pos := _, after := _, guard := _ }) (v := .int .u8 (at_ b (2 * j))) rfl (by kernel_rfl) (by kernel_rfl) (by kernel_rfl) (fun _ _ _ h => h) (Or.inl ⟨by rfl, ?_⟩) hS0 ?_
          · intro w' hSw
            obtain ⟨s0, s1, s2, s3, s4⟩ := hSw
            go_simp
          try simp only [Act.put, List.setIfInBounds_toArray, List.set_cons_zero, List.set_cons_succ]
          refine wpAnyH_take (i := 10) (oi := { dst := some 71, op := .move (.tmp 6), type := _, pos := _, after := _, guard := _ }) (v := .int .u8 (at_ b (2 * j + 1))) rfl (by kernel_rfl) (by kernel_rfl) (by kernel_rfl) (fun _ _ _ h => h) (Or.inl ⟨by rfl, ?_⟩) hS0 ?_
          · intro w' hSw
            go_simp
          try simp only [Act.put, List.setIfInBounds_toArray, List.set_cons_zero, List.set_cons_succ]
          refine wpAnyH_ready (rs := [11]) (by kernel_rfl) (by simp) ?_
          refine AllReadyH.cons (o := { dst := some 72, op := .call { callee := .value (.func 13), args := #[.tmp 70, .tmp 71], argTypes := _ }, type := _, pos := _, after := _, guard := _ }) rfl (fun K hK => ?_) AllReadyH.nil
          go_simp
          refine Calls.mono (HPC'.out wr.drew) ?_
          rintro e wz ⟨rfl, bx⟩
          have HWz := Lib.hid ((Law.below_drewN HW.out 1).trans (bx.mono (Law.below_drewN HW.out 1).size))
          have HSx := Lib.hid (fun p (h : p < wr.heap.size) o => (bx.cell (p := ⟨p, o, none⟩) h))
          clear bx
          go_wp2_with fail
          refine hK.out _ _ ⟨(HSx.out _ lx _).trans x8, (HSx.out _ lk _).trans c0, (HSx.out _ lk _).trans c1', (HSx.out _ lk _).trans c2, (HSx.out _ la _).trans ca⟩ (fun hS1 => ?_)
          clear hK K
          try simp only [Act.put, List.setIfInBounds_toArray, List.set_cons_zero, List.set_cons_succ]
          refine wpAnyH_take (i := 12) (oi := { dst := some 73, op := .binOp .neq 34 (.tmp 65) (.tmp 72) 34, type := _, pos := _, after := _, guard := _ }) (v := .bool false) rfl (by kernel_rfl) (by kernel_rfl) (by kernel_rfl) (fun _ _ _ h => h) (Or.inl ⟨by rfl, ?_⟩) hS1 ?_
          · intro w' hSw
            go_simp
          try simp only [Act.put, List.setIfInBounds_toArray, List.set_cons_zero, List.set_cons_succ]
          refine wpAnyH_done (by kernel_rfl) ?_ _
          go_wp2_with fail
          go_roundw
          case rel => exact ⟨j + 1, by omega, by go_num, HWz.out⟩
          case measure => simp [RowKit.intOf]; omega
        · have e2 : decide ((2 : Int) * (j : Int) + 1 < (b.length : Int)) = false := decide_eq_false (by omega)
          rw [at_behind (show b.length ≤ 2 * j + 1 by omega)] at HPC' rb
          subst hA
          go_wp2_with fail
          refine wp_region_held_drew (S := fun w' => w'.cell? ⟨w8.heap.size, 8, none⟩ = some (.slice (some ⟨k, off, none⟩) (picks b').length cK) ∧ w'.cell? ⟨k, off + j * 3, none⟩ = some (.int .i64 p0) ∧ w'.cell? ⟨k, off + j * 3 + 1, none⟩ = some (.int .i64 p1) ∧ w'.cell? ⟨k, off + j * 3 + 2, none⟩ = some (.int .u64 p2) ∧ w'.cell? ⟨qa, oa + 2 * j, none⟩ = some (.int .u8 (at_ b (2 * j)))) (by kernel_rfl) ⟨x8, c0, c1', c2, ca⟩ (fun hS0 => ?_)
          refine wpAnyH_take (i := 0) (oi := { dst := some 61, op := .fieldAddr 31 (.tmp 4) 2, type := _, pos := _, after := _, guard := _ }) (v := .pointer (some ⟨w8.heap.size, 8, none⟩)) rfl (by kernel_rfl) (by kernel_rfl) (by kernel_rfl) (fun _ _ _ h => h) (Or.inl ⟨by rfl, ?_⟩) hS0 ?_
          · intro w' hSw
            go_simp
          try simp only [Act.put, List.setIfInBounds_toArray, List.set_cons_zero, List.set_cons_succ]
          refine wpAnyH_take (i := 1) (oi := { dst := some 62, op := .load 29 (.tmp 61), type := _, pos := _, after := _, guard := _ }) (v := .slice (some ⟨k, off, none⟩) (picks b').length cK) rfl (by kernel_rfl) (by kernel_rfl) (by kernel_rfl) (fun _ _ _ h => h) (Or.inl ⟨by rfl, ?_⟩) hS0 ?_
          · intro w' hSw
            obtain ⟨s0, s1, s2, s3, s4⟩ := hSw
            go_simp
          try simp only [Act.put, List.setIfInBounds_toArray, List.set_cons_zero, List.set_cons_succ]
          refine wpAnyH_take (i := 2) (oi := { dst := some 63, op := .move (.tmp 5), type := _, pos := _, after := _, guard := _ }) (v := .int .i64 (j : Int)) rfl (by kernel_rfl) (by kernel_rfl) (by kernel_rfl) (fun _ _ _ h => h) (Or.inl ⟨by rfl, ?_⟩) hS0 ?_
          · intro w' hSw
            go_simp
          try simp only [Act.put, List.setIfInBounds_toArray, List.set_cons_zero, List.set_cons_succ]
          refine wpAnyH_take (i := 3) (oi := { dst := some 64, op := .indexAddr 29 (.tmp 62) (.tmp 63), type := _, pos := _, after := _, guard := _ }) (v := .pointer (some ⟨k, off + j * 3, none⟩)) rfl (by kernel_rfl) (by kernel_rfl) (by kernel_rfl) (fun _ _ _ h => h) (Or.inl ⟨by rfl, ?_⟩) hS0 ?_
          · intro w' hSw
            go_simp
          try simp only [Act.put, List.setIfInBounds_toArray, List.set_cons_zero, List.set_cons_succ]
          refine wpAnyH_take (i := 4) (oi := { dst := some 65, op := .load 34 (.tmp 64), type := _, pos := _, after := _, guard := _ }) (v := .agg #[.int .i64 p0, .int .i64 p1, .int .u64 p2]) rfl (by kernel_rfl) (by kernel_rfl) (by kernel_rfl) (fun _ _ _ h => h) (Or.inl ⟨by rfl, ?_⟩) hS0 ?_
          · intro w' hSw
            obtain ⟨s0, s1, s2, s3, s4⟩ := hSw
            go_simp
          try simp only [Act.put, List.setIfInBounds_toArray, List.set_cons_zero, List.set_cons_succ]
          refine wpAnyH_take (i := 5) (oi := { dst := some 66, op := .move (.tmp 0), type := _, pos := _, after := _, guard := _ }) (v := .slice (some ⟨qa, oa, none⟩) b.length c) rfl (by kernel_rfl) (by kernel_rfl) (by kernel_rfl) (fun _ _ _ h => h) (Or.inl ⟨by rfl, ?_⟩) hS0 ?_
          · intro w' hSw
            go_simp
          try simp only [Act.put, List.setIfInBounds_toArray, List.set_cons_zero, List.set_cons_succ]
          refine wpAnyH_take (i := 6) (oi := { dst := some 67, op := .move (.tmp 5), type := _, pos := _, after := _, guard := _ }) (v := .int .i64 (j : Int)) rfl (by kernel_rfl) (by kernel_rfl) (by kernel_rfl) (fun _ _ _ h => h) (Or.inl ⟨by rfl, ?_⟩) hS0 ?_
          · intro w' hSw
            go_simp
          try simp only [Act.put, List.setIfInBounds_toArray, List.set_cons_zero, List.set_cons_succ]
          refine wpAnyH_take (i := 7) (oi := { dst := some 68, op := .binOp .mul 3 (.const (.int .i64 2)) (.tmp 67) 3, type := _, pos := _, after := _, guard := _ }) (v := .int .i64 (2 * (j : Int))) rfl (by kernel_rfl) (by kernel_rfl) (by kernel_rfl) (fun _ _ _ h => h) (Or.inl ⟨by rfl, ?_⟩) hS0 ?_
          · intro w' hSw
            try exact hwj
            go_simp
          try simp only [Act.put, List.setIfInBounds_toArray, List.set_cons_zero, List.set_cons_succ]
          refine wpAnyH_take (i := 8) (oi := { dst := some 69, op := .indexAddr 22 (.tmp 66) (.tmp 68), type := _, pos := _, after := _, guard := _ }) (v := .pointer (some ⟨qa, oa + 2 * j, none⟩)) rfl (by kernel_rfl) (by kernel_rfl) (by kernel_rfl) (fun _ _ _ h => h) (Or.inl ⟨by rfl, ?_⟩) hS0 ?_
          · intro w' hSw
            go_simp
          try simp only [Act.put, List.setIfInBounds_toArray, List.set_cons_zero, List.set_cons_succ]
          refine wpAnyH_take (i := 9) (oi := { dst := some 70, op := .load 5 (.tmp 69), type := _, pos := _, after := _, guard := _ }) (v := .int .u8 (at_ b (2 * j))) rfl (by kernel_rfl) (by kernel_rfl) (by kernel_rfl) (fun _ _ _ h => h) (Or.inl ⟨by rfl, ?_⟩) hS0 ?_
          · intro w' hSw
            obtain ⟨s0, s1, s2, s3, s4⟩ := hSw
            go_simp
          try simp only [Act.put, List.setIfInBounds_toArray, List.set_cons_zero, List.set_cons_succ]
          refine wpAnyH_take (i := 10) (oi := { dst := some 71, op := .move (.tmp 6), type := _, pos := _, after := _, guard := _ }) (v := .int .u8 (0)) rfl (by kernel_rfl) (by kernel_rfl) (by kernel_rfl) (fun _ _ _ h => h) (Or.inl ⟨by rfl, ?_⟩) hS0 ?_
          · intro w' hSw
            go_simp
          try simp only [Act.put, List.setIfInBounds_toArray, List.set_cons_zero, List.set_cons_succ]
          refine wpAnyH_ready (rs := [11]) (by kernel_rfl) (by simp) ?_
          refine AllReadyH.cons (o := { dst := some 72, op := .call { callee := .value (.func 13), args := #[.tmp 70, .tmp 71], argTypes := _ }, type := _, pos := _, after := _, guard := _ }) rfl (fun K hK => ?_) AllReadyH.nil
          go_simp
          refine Calls.mono (HPC'.out wr.drew) ?_
          rintro e wz ⟨rfl, bx⟩
          have HWz := Lib.hid ((Law.below_drewN HW.out 1).trans (bx.mono (Law.below_drewN HW.out 1).size))
          have HSx := Lib.hid (fun p (h : p < wr.heap.size) o => (bx.cell (p := ⟨p, o, none⟩) h))
          clear bx
          go_wp2_with fail
          refine hK.out _ _ ⟨(HSx.out _ lx _).trans x8, (HSx.out _ lk _).trans c0, (HSx.out _ lk _).trans c1', (HSx.out _ lk _).trans c2, (HSx.out _ la _).trans ca⟩ (fun hS1 => ?_)
          clear hK K
          try simp only [Act.put, List.setIfInBounds_toArray, List.set_cons_zero, List.set_cons_succ]
          refine wpAnyH_take (i := 12) (oi := { dst := some 73, op := .binOp .neq 34 (.tmp 65) (.tmp 72) 34, type := _, pos := _, after := _, guard := _ }) (v := .bool false) rfl (by kernel_rfl) (by kernel_rfl) (by kernel_rfl) (fun _ _ _ h => h) (Or.inl ⟨by rfl, ?_⟩) hS1 ?_
          · intro w' hSw
            go_simp
          try simp only [Act.put, List.setIfInBounds_toArray, List.set_cons_zero, List.set_cons_succ]
          refine wpAnyH_done (by kernel_rfl) ?_ _
          go_wp2_with fail
          go_roundw
          case rel => exact ⟨j + 1, by omega, by go_num, HWz.out⟩
          case measure => simp [RowKit.intOf]; omega
      · have e1 : decide ((j : Int) < ((picks b').length : Int)) = false := by simp; omega
        clear hpk
        go_wp2_with fail
        go_ret
        exact ⟨rfl, HB9.out.trans (HW.out.mono HB9.out.size)⟩
set_option maxRecDepth 100000 in
set_option maxHeartbeats 4000000 in
theorem lifted (os : Os) (started : os.Started) (H : Type) (enc : TypeId × Value → H) :
    ReturnsInHanded {} Tryd.checked os 7 .any (fun w args => (Rows.ocodePicksSpec.pre enc Tryd.prog Tryd.f7 [] false w args ∧ laidMetH Tryd.prog Rows.ocodePicksRow.laid w) ∧ sizedMet enc Tryd.prog Tryd.f7 (OpenSpec.ofChange Rows.ocodePicksSpec) false w args) (Rows.ocodePicksSpec.post enc Tryd.prog Tryd.f7 false true false false) := by
  refine returnsInHanded_of_change_and (C := Tryd.checked) (X := (fun w _ => laidMetH Tryd.prog Rows.ocodePicksRow.laid w)) (fun _ _ _ hh h => h.of_heap hh) own started (by kernel_rfl) Tryd.func7
    (ChangeSpec.witness_shaped (enc := enc) (C := Tryd.checked) (os := os) (X := (fun w _ => laidMetH Tryd.prog Rows.ocodePicksRow.laid w)) false (World.laidAll Tryd.prog os Rows.ocodePicksRow.laid) #[.slice none 0 0] 8 (World.laidAll_os _ _ _)
      (World.shaped_of_ZipB (by kernel_rfl) (by kernel_rfl)) (by kernel_rfl) (by kernel_rfl) (by kernel_rfl)
      (by rw [MakeChecks.laidMetH_plain _ _ _ (by kernel_rfl)]; exact laidMet_laidAll _ (by kernel_rfl) (by kernel_rfl))) ?_
  intro W base args ds gs before hval0 hW _ _ hL _
  have hval : ∀ (j : Nat) t v, Tryd.f7.params[j]? = some t → args[j]? = some v → Value.okWide Tryd.prog W .any base t v := hval0
  have hW' := hW
  obtain ⟨p, q, hA0, hV, rfl, hfz, hnd⟩ := hW
  have hA : DataW.TrodAll enc Tryd.prog W 0 (fun _ => true) true Tryd.f7.params.toList args.toList ds p := hA0
  rw [Tryd.params7] at hA hval
  obtain ⟨v0, vs0, d0, ds0, p0, q0, hargs, rfl, rfl, h0, r0⟩ := trodAll_cons hA
  obtain ⟨rfl, rfl, rfl⟩ := trodAll_nil r0
  obtain rfl : args = #[v0] := by cases args; simp_all
  obtain ⟨A0, c0, b0, rfl, hs0, hl0, _, hb0⟩ := Opx.open_bytes (hval 0 22 v0 rfl rfl) h0
  rw [MakeChecks.laidMetH_plain _ _ _ (by kernel_rfl)] at hL
  have HTb := Opx.tabs_of hL
  refine (walk A0 c0 b0 W hs0 hl0 hb0 HTb).mono fun e W' ⟨he, bel⟩ => ?_
  subst he
  exact ⟨_, rfl, Law.post_law laidOut (by kernel_rfl) (by kernel_rfl) Tryd.underlying4 rfl (fun ds h => by match ds, h with | [_], _ => rfl) hW' bel⟩
theorem holds : Rows.OcodePicksSaid :=
  OpenClaim.holds_of_wide 7 Tryd.f7 rfl rfl rfl rfl rfl rfl rfl ⟨rfl, rfl, rfl, rfl, rfl⟩ rfl rfl rfl rfl rfl (by kernel_rfl) Tryd.func7 (by kernel_rfl)
    (of_decide_eq_true (by kernel_rfl)) (by unfold Func.isWrapper; first | (rw [if_pos (by decide +kernel)]; kernel_rfl) | (rw [if_neg (by decide +kernel)]; exact ⟨rfl, rfl⟩))
    (fun os started H enc _ => lifted os started H enc)
theorem proved : Rows.OcodePicksCardSaid :=
  Claim7.holds_tied_plain_at .later [] [.data] true (true, "145f7ae6ac2e6a67618b4bf44aa04eb8b865f83cc5ac96450ba10f4f176ff81c") false holds (fun _ h => by cases h) (by kernel_rfl) (fun _ h => by cases h) ocodePicks_row_tie rfl ⟨rfl, rfl⟩ (by kernel_rfl) rfl
    (fun f fn hf hfn => by
      obtain rfl : f = 7 := Option.some.inj ((show Tryd.prog.funcNamed Rows.ocodePicksRow.func = some 7 by kernel_rfl).symm.trans hf) |>.symm
      obtain rfl : fn = Tryd.f7 := (Option.some.inj (Tryd.func7.symm.trans hfn)).symm
      exact ⟨by kernel_rfl, fun j t ht => by
        rw [Tryd.params7] at ht
        have hm : t ∈ [22] := by simpa using Array.mem_of_getElem? ht
        have hall : ([22].all fun u => !Tryd.prog.wantsStandIn u) = true := by kernel_rfl
        exact (show Tryd.prog.wantsStandIn t = false by simpa using List.all_eq_true.1 hall t hm)⟩)
    (by kernel_rfl)
#print axioms proved
end ocodePicks
end Go.Proofs.YtlkbfnpncomifaaDoor

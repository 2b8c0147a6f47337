/-
  What is put together of rising lists rises, and has all. For all lists of numbers, no condition.
-/
import Derived.Test.YtkmodjdgcdcihaaFeed08
import Derived.Test.YtkmodjdgcdcihaaFeed05
import Derived.Test.YtkmodjdgcdcihaaFeed10
namespace Go.Proofs.Ytkmodjdgcdcihaa.feedRises
open Go.RowKit Go.ChangeShapes Go.WideShapes Go.ChangeAt
open Feed Go.Law
theorem rows_cell {w : World} {A : Option Addr} {l : List (RowV Int)} (h : Seq w 0 w.heap.size A (l.flatMap cellsR)) {i : Nat} (hi : i < l.length) : ∃ b off, A = some ⟨b, off, none⟩ ∧ b < w.heap.size ∧ w.cell? ⟨b, off + i, none⟩ = some (.slice l[i].A l[i].xs.length l[i].c) := by
  obtain ⟨b, off, hA, _, h2, hc⟩ := Seq.row (cells := cellsR) (fun _ => rfl) (by decide : 0 < 1) h hi
  exact ⟨b, off, hA, h2, by simpa using hc 0 _ rfl⟩
/-- an event of which only the number is told -/
abbrev nev (n : Int) : Ev := ⟨⟨#[]⟩, 0, 0, 0, 0, 0, 0, n⟩
def stp (s : Int × List Ev) (x : Int) : Int × List Ev := (max s.1 x, s.2 ++ [nev (max s.1 x)])
def fold (xs : List Int) : Int × List Ev := xs.foldl stp (0, [])
theorem fold_snoc (xs : List Int) (x : Int) : fold (xs ++ [x]) = stp (fold xs) x := by unfold fold; rw [List.foldl_append]; rfl
theorem fold_ok (xs : List Int) : (fold xs).2.length = xs.length ∧ Up2 (fold xs).2 ∧ ∀ e ∈ (fold xs).2, e.sq ≤ (fold xs).1 := by
  have key : ∀ n, n ≤ xs.length → (fold (xs.take n)).2.length = n ∧ Up2 (fold (xs.take n)).2 ∧ ∀ e ∈ (fold (xs.take n)).2, e.sq ≤ (fold (xs.take n)).1 := by
    intro n
    induction n with
    | zero => intro _; exact ⟨rfl, List.Pairwise.nil, fun e h => by cases h⟩
    | succ n ih =>
      intro hn
      obtain ⟨h1, h2, h3⟩ := ih (by omega)
      rw [List.take_succ_eq_append_getElem (by omega : n < xs.length), fold_snoc]
      generalize xs[n] = x at *
      generalize fold (xs.take n) = s at *
      obtain ⟨m, r⟩ := s
      simp only at h1 h2 h3
      refine ⟨by simp [stp, h1], ?_, ?_⟩
      · show Up2 (r ++ [nev (max m x)])
        refine List.pairwise_append.2 ⟨h2, List.pairwise_singleton _ _, fun a ha b hb => ?_⟩
        simp at hb
        subst hb
        have := h3 a ha
        show a.sq ≤ max m x
        omega
      · intro e he
        show e.sq ≤ max m x
        rcases List.mem_append.1 he with h | h
        · have := h3 e h; omega
        · simp at h; subst h; show max m x ≤ _; omega
  have := key xs.length (Nat.le_refl _)
  rwa [List.take_of_length_le (Nat.le_refl _)] at this
theorem fold_len (xs : List Int) : (fold xs).2.length = xs.length := (fold_ok xs).1
theorem sum_take {α : Type} (l : List (RowV α)) {j : Nat} (h : j < l.length) : ((l.take (j + 1)).map fun q => q.xs.length).sum = ((l.take j).map fun q => q.xs.length).sum + l[j].xs.length := by
  rw [List.take_succ_eq_append_getElem h, List.map_append, List.sum_append]; simp
theorem sum_le {α : Type} (l : List (RowV α)) (j : Nat) : ((l.take j).map fun q => q.xs.length).sum ≤ (l.map fun q => q.xs.length).sum := by
  have : (l.map fun q => q.xs.length).sum = ((l.take j).map fun q => q.xs.length).sum + ((l.drop j).map fun q => q.xs.length).sum := by rw [← List.sum_append, ← List.map_append, List.take_append_drop]
  omega
theorem num_cell {w : World} {A : Option Addr} {xs : List Int} (h : Seq w 0 w.heap.size A (xs.flatMap fun x => [.int .u64 x])) {i : Nat} (hi : i < xs.length) : ∃ b off, A = some ⟨b, off, none⟩ ∧ b < w.heap.size ∧ w.cell? ⟨b, off + i, none⟩ = some (.int .u64 xs[i]) := by
  obtain ⟨b, off, hA, _, h2, hc⟩ := Seq.row (cells := fun x : Int => [.int .u64 x]) (fun _ => rfl) (by decide : 0 < 1) h hi
  exact ⟨b, off, hA, h2, by simpa using hc 0 _ rfl⟩
theorem own_rows {w' : World} {base : Nat} {v' : Value} {R : List (RowV Ev)} {q : RowV Ev} {n : Nat} (h : w'.ownsRow base 29 1 v' (n + 1) (R.flatMap cellsR ++ [.slice q.A q.xs.length q.c])) : w'.ownsRow base 29 1 v' (n + 1) ((R ++ [q]).flatMap cellsR) := by
  rw [List.flatMap_append]; simpa [cellsR] using h
set_option maxRecDepth 100000 in
set_option maxHeartbeats 4000000 in
theorem walk (l : List (RowV Int)) (A : Option Addr) (c : Nat) (w : World) (hR : Seq w 0 w.heap.size A (l.flatMap cellsR)) (hX : ∀ q ∈ l, Seq w 0 w.heap.size q.A (q.xs.flatMap fun x => [.int .u64 x])) (hl : l.length ≤ maxLen) (hq : ∀ q ∈ l, q.xs.length ≤ maxLen) :
    Calls Try.prog 6 #[.slice A l.length c] w fun e w' => e = .returned (.bool true) ∧ Below w.heap.size w w' := by
  have HR := Lib.hid hR
  have HQ := Lib.hid hq
  unfold maxLen at hl
  have HX := Lib.hid hX
  clear hR hq hX
  go_enter Try.func6, Try.ntmps6
  go_wp2_with fail
  go_loop [3, 4] (fun vn vi => ∃ j : Nat, j ≤ l.length ∧ vn = .int .i64 (cnt l j : Int) ∧ vi = .int .i64 j) (fun _ vi => l.length - (intOf vi).toNat)
  case atStart => exact ⟨0, Nat.zero_le _, by rw [cnt_zero], rfl⟩
  case round =>
    obtain ⟨j, hj, rfl, rfl⟩ := hrel
    by_cases hgo : j < l.length ∧ cnt l j ≤ 200
    · obtain ⟨hlt, hle⟩ := hgo
      have d1 : decide ((j : Int) < (l.length : Int)) = true := by simp; omega
      have d2 : decide ((cnt l j : Int) ≤ 200) = true := by simp; omega
      obtain ⟨b, o, rfl, hb, c0⟩ := rows_cell HR.out hlt
      have HS := Lib.hid (cnt_succ l hlt)
      have hm := HQ.out _ (List.getElem_mem hlt)
      unfold maxLen at hm
      generalize l[j].xs.length = m at *
      generalize l[j].A = B at *
      generalize l[j].c = d at *
      obtain ⟨N, hN⟩ : ∃ N, cnt l j = N := ⟨_, rfl⟩
      rw [hN] at HS d2 hle ⊢
      by_cases hm2 : m ≤ 201
      · have d3 : decide ((201 : Int) < (m : Int)) = false := by simp; omega
        go_wp2_with fail
        go_round
        case rel => exact ⟨j + 1, by omega, by rw [HS.out, show min m 201 = m by omega]; go_num, by go_num⟩
        case measure => simp [intOf]; omega
      · have d3 : decide ((201 : Int) < (m : Int)) = true := by simp; omega
        go_wp2_with fail
        go_round
        case rel => exact ⟨j + 1, by omega, by rw [HS.out, show min m 201 = 201 by omega]; go_num, by go_num⟩
        case measure => simp [intOf]; omega
    · by_cases hlt : j < l.length
      · have d1 : decide ((j : Int) < (l.length : Int)) = true := by simp; omega
        have d2 : decide ((cnt l j : Int) ≤ 200) = false := by simp; omega
        have d4 : decide (200 < (cnt l j : Int)) = true := by simp; omega
        go_wp2_with fail
        refine (awake w).mono ?_
        rintro e w1 ⟨rfl, hB⟩
        have HB := Lib.hid hB
        clear hB
        go_wp2_with fail
        refine (awake w1).mono ?_
        rintro e w2 ⟨rfl, hB⟩
        have HB2 := Lib.hid (HB.out.trans (hB.mono HB.out.size))
        clear hB HB
        go_wp2_with fail
        go_ret
        exact ⟨rfl, HB2.out⟩
      · have d1 : decide ((j : Int) < (l.length : Int)) = false := by simp; omega
        by_cases hle : cnt l j ≤ 200
        · skip
          obtain rfl : j = l.length := by omega
          have hsm := cnt_small l (by omega)
          have d4 : decide (200 < (cnt l l.length : Int)) = false := by simp; omega
          go_wp2_with fail
          refine (awake w).mono ?_
          rintro e w1 ⟨rfl, hB⟩
          have HB := Lib.hid hB
          have sz1 := hB.size
          clear hB
          go_wp2_with fail
          obtain ⟨i0, hE⟩ := RingE.elem
          obtain ⟨i1, hE1⟩ := elemR
          have HE := Lib.hid hE
          have HE1 := Lib.hid hE1
          clear hE hE1
          go_loopw [5, 6, 7] (fun vr vm vi wr => ∃ (j : Nat) (R : List (RowV Ev)), j ≤ l.length ∧ vi = .int .i64 j ∧ vm = .int .i64 ((((l.take j).map fun q => q.xs.length).sum : Nat) : Int) ∧ R.length = j ∧ evs R = (l.take j).map (fun q => (fold q.xs).2) ∧ wr.ownsRow w.heap.size 29 1 vr j (R.flatMap cellsR) ∧ (∀ q ∈ R, Lain 58 wr q.A (flatE q.xs) ∧ q.xs.length ≤ q.c) ∧ Below w.heap.size w wr) (fun _ _ vi _ => l.length - (intOf vi).toNat)
          case atStart => exact ⟨0, [], Nat.zero_le _, rfl, rfl, rfl, rfl, World.ownsRow_nil _ _ _ _, ⟨fun q h => (List.not_mem_nil h).elim, HB.out⟩⟩
          case round =>
            clear HB
            obtain ⟨j, R, hj2, rfl, rfl, hRl, hRe, hRo, hRq, hB⟩ := hrel
            have HRl := Lib.hid hRl
            have HRe := Lib.hid hRe
            have HRo := Lib.hid hRo
            have HRq := Lib.hid hRq
            have HB := Lib.hid hB
            have sz2 := hB.size
            have hsl := sum_le l j
            clear hRl hRe hRo hRq hB
            by_cases hlt : j < l.length
            · have d5 : decide ((j : Int) < (l.length : Int)) = true := by simp; omega
              have hst := sum_take l hlt
              have hsl2 := sum_le l (j + 1)
              have HST := Lib.hid hst
              have HTK := Lib.hid (List.take_succ_eq_append_getElem hlt)
              obtain ⟨b, o, rfl, hb, c0⟩ := rows_cell HR.out hlt
              have c1 := (HB.out.cell (p := ⟨b, o + j, none⟩) hb).trans c0
              have lb := Nat.lt_of_lt_of_le hb sz2
              have HXj := Lib.hid (HX.out _ (List.getElem_mem hlt))
              have HQJ : Hid (l[j] = l[j]) := rfl
              obtain ⟨q, hq⟩ : ∃ q, l[j] = q := ⟨_, rfl⟩
              rw [hq] at c1 HXj HST HTK hst
              have hqm : q.xs.length ≤ 200 := by omega
              generalize hS : ((l.take j).map fun q => q.xs.length).sum = S at *
              clear c0 HQJ hq hS hst
              obtain ⟨qa, qc, qx⟩ := q
              simp only at c1 HXj hqm HST
              go_wp2_with fail
              obtain ⟨W0, hW0⟩ : ∃ W, W = wr := ⟨_, rfl⟩
              rw [← hW0] at c1 lb sz2 HRo HRq HB ⊢
              clear hW0
              go_loopw [6, 8, 9, 10] (fun vm vr vl vk wx => ∃ k : Nat, k ≤ qx.length ∧ vm = .int .i64 ((S + k : Nat) : Int) ∧ vk = .int .i64 k ∧ vl = .int .u64 (fold (qx.take k)).1 ∧ wx.ownsRow W0.heap.size 58 8 vr k (flatE (fold (qx.take k)).2) ∧ Below W0.heap.size W0 wx) (fun _ _ _ vk _ => qx.length - (intOf vk).toNat)
              case atStart => exact ⟨0, Nat.zero_le _, rfl, rfl, rfl, World.ownsRow_nil _ _ _ _, Below.refl _ _⟩
              case round =>
                obtain ⟨k, hk, rfl, rfl, rfl, hO, hBx⟩ := hrel
                have HO := Lib.hid hO
                have HBx := Lib.hid hBx
                have szx := hBx.size
                have c2 := (hBx.cell (p := ⟨b, o + j, none⟩) lb).trans c1
                have lb2 := Nat.lt_of_lt_of_le lb szx
                clear hO hBx
                by_cases hkl : k < qx.length
                · have d6 : decide ((k : Int) < (qx.length : Int)) = true := by simp; omega
                  have HTX := Lib.hid (List.take_succ_eq_append_getElem hkl)
                  obtain ⟨bx, ox, rfl, hbx, cx⟩ := num_cell HXj.out hkl
                  have cx2 := (HBx.out.cell (p := ⟨bx, ox + k, none⟩) (Nat.lt_of_lt_of_le hbx sz2)).trans ((HB.out.cell (p := ⟨bx, ox + k, none⟩) hbx).trans cx)
                  have lbx := Nat.lt_of_lt_of_le (Nat.lt_of_lt_of_le hbx sz2) szx
                  generalize qx[k] = x at *
                  clear cx
                  by_cases hc2 : (fold (qx.take k)).1 < x
                  · skip
                    have HF2 : Hid (fold (qx.take (k + 1)) = (x, (fold (qx.take k)).2 ++ [nev x])) := by show _ = _; rw [HTX.out, fold_snoc]; unfold stp; rw [show max (fold (qx.take k)).1 x = x by omega]
                    generalize fold (qx.take k) = s at *
                    obtain ⟨la, r⟩ := s
                    simp only at hc2 HO HF2 ⊢
                    have d7 : decide (la < x) = true := by simp; omega
                    have d8 : decide (x < la) = false := by simp; omega
                    go_wp2_with (at_builtin; refine wpList_append_own _ rfl _ _ 29 rfl W0.heap.size 58 i0 (.agg #[.string ⟨#[]⟩, .int .i64 0, .int .i64 0, .int .i64 0, .int .i64 0, .int .i64 0, .int .i64 0, .int .u64 0]) 8 72 HE.out.ut HE.out.info HE.out.zero HE.out.sz HE.out.by_ HE.out.cells HE.out.pos _ _ _ rfl (HO.out.alloc _) ⟨wr.heap.size, 0, none⟩ 1 1 (cellsE (nev x)) rfl rfl (new_E wr (nev x) _ rfl) (one_E _) (by unfold maxLen; omega) (by omega) (by simp; omega) ?_; intro v' w3 hown hg _; have HO3 := Lib.hid hown; have HB3 := Lib.hid ((HBx.out.alloc szx _).grown hg (by simp; omega) (fun g hg => (HO.out.lt g hg).1)); obtain ⟨g', cap', rfl⟩ := ownsRow_succ hown; clear hown hg)
                    go_roundw
                    case rel => exact ⟨k + 1, by omega, by go_num, by go_num, by rw [HF2.out], by rw [HF2.out, flatE_snoc]; exact HO3.out, HB3.out⟩
                    case measure => simp [intOf]; omega
                  · skip
                    have HF2 : Hid (fold (qx.take (k + 1)) = ((fold (qx.take k)).1, (fold (qx.take k)).2 ++ [nev (fold (qx.take k)).1])) := by show _ = _; rw [HTX.out, fold_snoc]; unfold stp; rw [show max (fold (qx.take k)).1 x = (fold (qx.take k)).1 by omega]
                    generalize fold (qx.take k) = s at *
                    obtain ⟨la, r⟩ := s
                    simp only at hc2 HO HF2 ⊢
                    have d7 : decide (la < x) = false := by simp; omega
                    go_wp2_with (at_builtin; refine wpList_append_own _ rfl _ _ 29 rfl W0.heap.size 58 i0 (.agg #[.string ⟨#[]⟩, .int .i64 0, .int .i64 0, .int .i64 0, .int .i64 0, .int .i64 0, .int .i64 0, .int .u64 0]) 8 72 HE.out.ut HE.out.info HE.out.zero HE.out.sz HE.out.by_ HE.out.cells HE.out.pos _ _ _ rfl (HO.out.alloc _) ⟨wr.heap.size, 0, none⟩ 1 1 (cellsE (nev la)) rfl rfl (new_E wr (nev la) _ rfl) (one_E _) (by unfold maxLen; omega) (by omega) (by simp; omega) ?_; intro v' w3 hown hg _; have HO3 := Lib.hid hown; have HB3 := Lib.hid ((HBx.out.alloc szx _).grown hg (by simp; omega) (fun g hg => (HO.out.lt g hg).1)); obtain ⟨g', cap', rfl⟩ := ownsRow_succ hown; clear hown hg)
                    go_roundw
                    case rel => exact ⟨k + 1, by omega, by go_num, by go_num, by rw [HF2.out], by rw [HF2.out, flatE_snoc]; exact HO3.out, HB3.out⟩
                    case measure => simp [intOf]; omega
                · obtain rfl : k = qx.length := by omega
                  have d6 : decide ((qx.length : Int) < (qx.length : Int)) = false := by simp
                  rw [List.take_of_length_le (Nat.le_refl _)] at HO ⊢
                  obtain ⟨D, cd, rfl, hcd⟩ := own_shape HO.out
                  have HLN := Lib.hid (Lain.own HO.out)
                  have HR2 := Lib.hid (own_below HRo.out HBx.out)
                  have HB2 := Lib.hid (HB.out.trans (HBx.out.mono sz2))
                  have HRq2 : Hid (∀ q ∈ R, Lain 58 wr q.A (flatE q.xs) ∧ q.xs.length ≤ q.c) := fun q hq => ⟨(HRq.out q hq).1.now HBx.out, (HRq.out q hq).2⟩
                  have HLF := Lib.hid (fold_len qx)
                  have sz4 : w.heap.size ≤ wr.heap.size := Nat.le_trans sz2 szx
                  obtain ⟨s, hs⟩ : ∃ s, fold qx = s := ⟨_, rfl⟩
                  have HFQ0 := Lib.hid hs
                  rw [hs] at HO HLN HLF ⊢
                  clear hs
                  obtain ⟨la, r⟩ := s
                  have HFQ : Hid ((fold qx).2 = r) := by show _ = _; rw [HFQ0.out]
                  simp only at HO HLN HLF ⊢
                  go_wp2_with (at_builtin; refine wpList_append_own _ rfl _ _ 53 rfl w.heap.size 29 i1 (.slice none 0 0) 1 24 HE1.out.ut HE1.out.info HE1.out.zero HE1.out.sz HE1.out.by_ HE1.out.cells HE1.out.pos _ _ _ rfl (HR2.out.alloc _) ⟨wr.heap.size, 0, none⟩ 1 1 [.slice D qx.length cd] rfl rfl (Law.new_one _ _ _) (by intro u hu; simp at hu; subst hu; rfl) (by unfold maxLen; omega) (by omega) (by simp; omega) ?_; intro v' w3 hown hg _; have HO3 := Lib.hid hown; have HB3 := Lib.hid ((HB2.out.alloc sz4 _).grown hg (by simp; omega) (fun g hg => (HR2.out.lt g hg).1)); have HK3 : Hid (Keeps 58 wr w3) := (Keeps.alloc _).trans (Keeps.grown (HR2.out.alloc _) hg (by decide)); obtain ⟨g', cap', rfl⟩ := ownsRow_succ hown; clear hown hg)
                  go_roundw
                  case rel =>
                    refine ⟨j + 1, R ++ [⟨D, cd, r⟩], by omega, by go_num, by rw [HST.out]; go_num, by simp [HRl.out], ?_, own_rows (q := ⟨D, cd, r⟩) (by rw [HLF.out]; exact HO3.out), ?_, HB3.out⟩
                    · rw [HTK.out, List.map_append, ← HRe.out]; simp [evs, HFQ.out]
                    · intro q hq
                      rcases List.mem_append.1 hq with h | h
                      · exact ⟨(HRq2.out q h).1.keeps HK3.out, (HRq2.out q h).2⟩
                      · simp at h; subst h; exact ⟨HLN.out.keeps HK3.out, by simp only; have := HLF.out; omega⟩
                  case measure => simp [intOf]; omega
            · obtain rfl : j = l.length := by omega
              have d5 : decide ((l.length : Int) < (l.length : Int)) = false := by simp
              obtain ⟨D, cd, rfl, hcd⟩ := own_shape HRo.out
              rw [List.take_of_length_le (Nat.le_refl _)] at HRe ⊢
              have HTT : Hid (total (evs R) = (l.map fun q => q.xs.length).sum) := by
                show _ = _
                rw [HRe.out]
                unfold total
                rw [List.map_map]
                congr 1
                exact List.map_congr_left fun q _ => fold_len q.xs
              have HUP : Hid (Up2 (all (evs R))) := all_up _ _ (Nat.le_refl _) (fun r hr => by
                rw [HRe.out] at hr
                obtain ⟨q, _, rfl⟩ := List.mem_map.1 hr
                exact (fold_ok q.xs).2.1)
              have HAL : Hid ((all (evs R)).length = (l.map fun q => q.xs.length).sum) := by show _ = _; rw [all_len]; exact HTT.out
              have HMA := Lib.hid (mergeAll R.length R D cd _ (Nat.le_refl _) ⟨(Seq.own HRo.out).from_ (Nat.zero_le _), fun q hq => (HRq.out q hq).1.seq, fun q hq => (HRq.out q hq).2⟩ (by have := HRl.out; omega) (by have := HTT.out; omega) (by have := HRl.out; omega))
              rw [HRl.out] at HMA
              generalize (l.map fun q => q.xs.length).sum = m at *
              generalize all (evs R) = zs at *
              have hzl : zs.length ≤ 200 := by have := HAL.out; omega
              clear hsl
              go_wp2_with fail
              refine HMA.out.mono ?_
              rintro e w2 ⟨A2, c2, rfl, hc2, hs, hb⟩
              have HS2 := Lib.hid hs
              have HB2 := Lib.hid (HB.out.trans (hb.mono sz2))
              clear hs hb HB HMA HRo HRq
              go_wp2_with fail
              go_loopw [12] (fun vi wx => ∃ s : Nat, vi = .int .i64 ((s : Int) + 1) ∧ Below w2.heap.size w2 wx) (fun vi _ => zs.length - (intOf vi).toNat)
              case atStart => exact ⟨0, rfl, Below.refl _ _⟩
              case round =>
                obtain ⟨s, rfl, hBx⟩ := hrel
                have HBx := Lib.hid hBx
                clear hBx
                by_cases hs1 : s + 1 < zs.length
                · have d6 : decide ((s : Int) + 1 < (zs.length : Int)) = true := by simp; omega
                  obtain ⟨ga, oa, rfl, _, hga, p0, p1, p2, p3, p4, p5, p6, p7⟩ := (HS2.out.below HBx.out).ev (i := s) (by omega)
                  obtain ⟨gb, ob, hgo, _, hgb, q0, q1, q2, q3, q4, q5, q6, q7⟩ := (HS2.out.below HBx.out).ev hs1
                  obtain ⟨rfl, rfl, _⟩ := by simpa using hgo
                  have hle : zs[s].sq ≤ zs[s + 1].sq := List.pairwise_iff_getElem.1 HUP.out s (s + 1) (by omega) hs1 (by omega)
                  have d7 : decide (zs[s + 1].sq < zs[s].sq) = false := by simp; omega
                  generalize zs[s + 1] = y at *
                  generalize zs[s] = x at *
                  clear p0 p1 p2 p3 p4 p5 p6 q0 q1 q2 q3 q4 q5 q6 hgo
                  go_wp2_with fail
                  go_quiet (fail)
                  go_wp2_with fail
                  go_roundw
                  case rel => exact ⟨s + 1, by go_num, Law.below_drewN HBx.out nq⟩
                  case measure => simp [intOf]; omega
                · have d6 : decide ((s : Int) + 1 < (zs.length : Int)) = false := by simp; omega
                  have d7 : ((zs.length : Int) == (m : Int)) = true := by have := HAL.out; simp; omega
                  have HB4 := Lib.hid (HB2.out.trans (HBx.out.mono HB2.out.size))
                  go_wp2_with fail
                  go_ret
                  exact ⟨rfl, HB4.out⟩
        · skip
          have d4 : decide (200 < (cnt l j : Int)) = true := by simp; omega
          go_wp2_with fail
          refine (awake w).mono ?_
          rintro e w1 ⟨rfl, hB⟩
          have HB := Lib.hid hB
          clear hB
          go_wp2_with fail
          refine (awake w1).mono ?_
          rintro e w2 ⟨rfl, hB⟩
          have HB2 := Lib.hid (HB.out.trans (hB.mono HB.out.size))
          clear hB HB
          go_wp2_with fail
          go_ret
          exact ⟨rfl, HB2.out⟩

set_option maxRecDepth 100000 in
theorem lifted (os : Os) (started : os.Started) (H : Type) (enc : TypeId × Value → H) :
    ReturnsInHanded {} Try.checked os 6 .any (Rows.feedRisesSpec.pre6 enc Try.prog Try.f6 Rows.feedRisesRow.domain false) (Rows.feedRisesSpec.post enc Try.prog Try.f6 false true false false) := by
  refine returnsInHanded_of_change (C := Try.checked) own started (by kernel_rfl) Try.func6
    (ChangeSpec.witness6 (enc := enc) (C := Try.checked) false ⟨#[], #[.slice none 0 0], []⟩ 8 (by kernel_rfl) (by kernel_rfl) (by kernel_rfl) (by kernel_rfl)) ?_
  intro W base args ds gs before hval0 hW hcnd _
  have hval : ∀ (j : Nat) t v, Try.f6.params[j]? = some t → args[j]? = some v → Value.okWide Try.prog W .any base t v := hval0
  have hW' := hW
  obtain ⟨p, q, hA0, hV, rfl, hfz, hnd⟩ := hW
  have hA : DataW.TrodAll enc Try.prog W 0 (fun _ => true) true Try.f6.params.toList args.toList ds p := hA0
  rw [Try.params6] at hA hval
  obtain ⟨v0, vs0, d0, ds0, p0, q0, hargs, rfl, rfl, h0, r0⟩ := trodAll_cons hA
  obtain ⟨rfl, rfl, rfl⟩ := trodAll_nil r0
  obtain rfl : args = #[v0] := by cases args; simp_all
  obtain ⟨A, c, l, rfl, _, hs, hl, hq⟩ := open_nums (hval 0 60 v0 rfl rfl) h0
  refine (walk l A c W hs (fun q h => (hq q h).1) hl (fun q h => (hq q h).2.1)).mono fun e W' ⟨he, bel⟩ => ?_
  subst he
  exact ⟨_, rfl, Law.post_law laidOut (by kernel_rfl) (by kernel_rfl) Try.underlying4 rfl (fun ds h => by match ds, h with | [_], _ => rfl) hW' bel⟩

theorem proved : Rows.FeedRisesSaid :=
  OpenClaim.holds_of_wide 6 Try.f6 rfl rfl rfl rfl rfl rfl rfl ⟨rfl, rfl, rfl, rfl, rfl⟩ rfl rfl rfl rfl rfl (by kernel_rfl) Try.func6 (by kernel_rfl)
    (of_decide_eq_true (by kernel_rfl)) (by unfold Func.isWrapper; rw [if_neg (by decide +kernel)]; exact ⟨rfl, rfl⟩)
    (fun os started H enc _ => lifted os started H enc)
#print axioms proved
end Go.Proofs.Ytkmodjdgcdcihaa.feedRises

/-
  What Live (layer 7) comes to, and what it answers at the function that AggrPlays hands it.
-/
import Derived.Test.YtmcbjfmlncellaaAggr01
import Derived.Test.YtmcbjfmlncellaaRings
namespace Go.Proofs.Ytmcbjfmlncellaa
open Go.RowKit
namespace Aggr
open Go.Law

@[go_sem] theorem run_nil (n c : Nat) (w : World) : Sem.run Try.prog (binOp .eql 22 (.slice none n c) (.slice none 0 0)) w = .ok (.bool true) w := by kernel_rfl
@[go_sem] theorem run_not_nil (a : Addr) (n c : Nat) (w : World) : Sem.run Try.prog (binOp .eql 22 (.slice (some a) n c) (.slice none 0 0)) w = .ok (.bool false) w := by kernel_rfl

set_option maxHeartbeats 1000000 in
theorem clone (zs : List Sn) (A : Option Addr) (c : Nat) (w : World) (hs : Seq w 0 w.heap.size A (flatS zs)) (hl : zs.length ≤ 1000) :
    Calls Try.prog 20 #[.slice A zs.length c] w fun e w' => ∃ A' c', e = .returned (.slice A' zs.length c') ∧ Seq w' w.heap.size w'.heap.size A' (flatS zs) ∧ Below w.heap.size w w' := by
  obtain ⟨i0, hE⟩ := Sess.elem
  have HE := Lib.hid hE
  have HS := Lib.hid hs
  clear hE hs
  cases A with
  | none =>
    have hz : zs = [] := Classical.byContradiction fun h => by
      obtain ⟨b, off, e, _⟩ := HS.out (flatS_ne h)
      cases e
    subst hz
    go_enter Try.func20, Try.ntmps20
    go_wp2_with fail
    go_ret
    exact ⟨none, 0, rfl, fun h => absurd rfl h, Below.refl _ _⟩
  | some a =>
    have HO := Lib.hid (own_empty w 30 (base := w.heap.size) (Nat.le_refl _))
    have HS1 := Lib.hid (HS.out.alloc (Nat.le_refl _) (.cells #[] 30))
    go_enter Try.func20, Try.ntmps20
    go_wp2_with (at_builtin; refine Law.wpList_append_seq _ w.heap.size 22 rfl _ _ rfl HE.out _ 0 [] rfl HO.out 0 w.heap.size (some a) zs.length c (flatS zs) rfl (flatS_length zs) HS1.out (flatS_one _) (by unfold maxLen; omega) (by omega) (by simp) ?_)
    intro v1 w1 hown hgrow
    have B1 : Below w.heap.size w w1 := ((Below.refl _ w).alloc (Nat.le_refl _) (.cells #[] 30)).grown hgrow (by simp) (fun k hk => by have h9 : w.heap.size = k := Option.some.inj hk; omega)
    have OW : w1.ownsRow w.heap.size 30 4 v1 zs.length (flatS zs) := by simpa using hown
    obtain ⟨A1, c1, rfl, _⟩ := own_shape OW
    have HB := Lib.hid B1
    have HW := Lib.hid OW
    clear hown hgrow B1 OW HO HS1
    go_wp2_with fail
    go_ret
    exact ⟨A1, c1, rfl, Seq.own HW.out, HB.out⟩

/-- behind Live -/
def Lives (w : World) (zs : List Sn) (now : Int) (e : Ending) (w' : World) : Prop :=
  ∃ A' c' Bs Bn, e = .returned (.func (.func 23) #[] #[.pointer (some ⟨Bs, 0, none⟩), .pointer (some ⟨Bn, 0, none⟩)]) ∧ w'.cell? ⟨Bs, 0, none⟩ = some (.slice A' zs.length c') ∧ w'.cell? ⟨Bn, 0, none⟩ = some (.int .u64 now) ∧ w.heap.size ≤ Bn ∧ Seq w' w.heap.size w'.heap.size A' (flatS zs) ∧ Below w.heap.size w w'

set_option maxHeartbeats 1000000 in
theorem live_ (zs : List Sn) (A : Option Addr) (c : Nat) (now : Int) (w : World) (hs : Seq w 0 w.heap.size A (flatS zs)) (hl : zs.length ≤ 1000) :
    Calls Try.prog 11 #[.slice A zs.length c, .int .u64 now] w (Lives w zs now) := by
  have HS := Lib.hid hs
  clear hs
  go_enter Try.func11, Try.ntmps11
  go_wp2_with fail
  refine (clone zs A c w HS.out hl).mono ?_
  rintro e w1 ⟨A1, c1, rfl, s1, b1⟩
  have S1 := Lib.hid s1
  have B1 := Lib.hid b1
  clear s1 b1
  go_wp2_with fail
  refine (living w1 A1 zs.length c1 now).mono ?_
  rintro e w2 ⟨rfl, rfl⟩
  have sb := B1.out.size
  have I1 := (Is.new w1 22 #[.slice A1 zs.length c1] rfl).alloc (.cells #[.int .u64 now] 23)
  have I2 := Is.new (w1.alloc (.cells #[.slice A1 zs.length c1] 22)) 23 #[.int .u64 now] (g := w1.heap.size + 1) (by simp)
  have S2 := Lib.hid (((S1.out.alloc (Nat.le_refl _) (.cells #[.slice A1 zs.length c1] 22)).alloc (by simp) (.cells #[.int .u64 now] 23)).more (B' := ((w1.alloc (.cells #[.slice A1 zs.length c1] 22)).alloc (.cells #[.int .u64 now] 23)).heap.size) (by simp; omega))
  have B2 := Lib.hid ((B1.out.alloc sb (.cells #[.slice A1 zs.length c1] 22)).alloc (by simp; omega) (.cells #[.int .u64 now] 23))
  generalize (w1.alloc (.cells #[.slice A1 zs.length c1] 22)).alloc (.cells #[.int .u64 now] 23) = w3 at *
  have HI1 := Lib.hid I1
  have HI2 := Lib.hid I2
  clear I1 I2 S1
  go_wp2_with fail
  go_ret
  exact ⟨A1, c1, _, _, rfl, HI1.out.cell' rfl, HI2.out.cell' rfl, by omega, S2.out, B2.out⟩

/-- the box B holds a slice that owns these sessions -/
def Holds (W : World) (N B : Nat) (os : List Sn) : Prop := ∃ v, Boxed W B 22 v ∧ Sess.Row W N v os

set_option maxHeartbeats 1600000 in
theorem one (x : Sn) (os : List Sn) (stop N B p : Nat) (W : World) (hst : stop ≤ 255) (h : Holds W N B os) (hN : N ≤ W.heap.size) (hp : W.cell? ⟨p, 0, none⟩ = some (.int .u8 (stop : Int))) (hpB : p ≠ B) (hpN : p < N) (hl : os.length ≤ 1000) :
    Calls Try.prog 12 #[V x, .pointer (some ⟨B, 0, none⟩), .pointer (some ⟨p, 0, none⟩)] W fun e W' => e = .returned (.bool (decide (os.length + 1 ≤ stop))) ∧ Holds W' N B (os ++ [x]) ∧ Law.Touch W W' (fun k => k = B ∨ N ≤ k) := by
  obtain ⟨i0, hE⟩ := Sess.elem
  have HE := Lib.hid hE
  obtain ⟨v, hv, hrow⟩ := h
  obtain ⟨x0, x1, x2, x3⟩ := x
  unfold V
  have hc := hv.cell
  have lB := hv.lt
  have HV := Lib.hid hv
  have HR := Lib.hid hrow
  have lp : p < W.heap.size := by omega
  clear hE hv hrow
  go_enter Try.func12, Try.ntmps12
  go_wp2_with (at_builtin; refine wpList_append_own _ rfl _ _ 22 rfl (N) 30 i0 (.agg #[.int .i64 0, .int .i64 0, .int .i64 0, .int .u64 0]) 4 32 HE.out.ut HE.out.info HE.out.zero HE.out.sz HE.out.by_ HE.out.cells HE.out.pos _ _ _ rfl ((HR.out.alloc _).alloc _) ⟨W.heap.size + 1, 0, none⟩ 1 1 (Law.cellsS (x0, x1, x2, x3)) rfl rfl (Law.new_fourAt _ (x0, x1, x2, x3) _ (by simp)) (Law.four_one _) (by unfold maxLen; omega) (by omega) (by simp; omega) ?_)
  intro v' w2 hown hgrow _
  have OW : Sess.Row w2 N v' (os ++ [(x0, x1, x2, x3)]) := by
    show World.ownsRow _ _ _ _ _ _ _
    rw [flatS_snoc]
    simpa using hown
  have hv0 := (HV.out.alloc (.cells #[.int .i64 x0, .int .i64 x1, .int .i64 x2, .int .u64 x3] 30)).alloc (.cells #[.int .i64 x0, .int .i64 x1, .int .i64 x2, .int .u64 x3] 30)
  have hv1 : Boxed w2 B 22 v := hv0.kept hgrow (hv0.not_row (by decide) ((HR.out.alloc _).alloc _))
  have t0 : Law.Touch W ((W.alloc (.cells #[.int .i64 x0, .int .i64 x1, .int .i64 x2, .int .u64 x3] 30)).alloc (.cells #[.int .i64 x0, .int .i64 x1, .int .i64 x2, .int .u64 x3] 30)) (fun k => k = B ∨ N ≤ k) := (Law.Touch.alloc W _ _).trans (Law.Touch.alloc _ _ (fun k => k = B ∨ N ≤ k)) (fun k hk => .inl hk)
  have t1 : Law.Touch W w2 (fun k => k = B ∨ N ≤ k) := t0.trans (Law.Touch.grown hgrow (T := fun k => k = B ∨ N ≤ k) (fun k hk => .inr (HR.out.lt k hk).1)) (fun k hk => .inl hk)
  have t2 : Law.Touch W (w2.setCell ⟨B, 0, none⟩ v') (fun k => k = B ∨ N ≤ k) := t1.trans (Law.Touch.store (T := fun k => k = B ∨ N ≤ k) w2 ⟨B, 0, none⟩ v' (.inl rfl)) (fun k hk => .inl hk)
  have hv2 : Boxed (w2.setCell ⟨B, 0, none⟩ v') B 22 v' := hv1.set v'
  have OW2 : Sess.Row (w2.setCell ⟨B, 0, none⟩ v') N v' (os ++ [(x0, x1, x2, x3)]) := (Law.Touch.store (T := fun k => k = B) w2 ⟨B, 0, none⟩ v' rfl).own OW (fun g hg e => hv1.not_row (by decide) OW (by rw [hg, e]))
  have hp2 : (w2.setCell ⟨B, 0, none⟩ v').cell? ⟨p, 0, none⟩ = some (.int .u8 (stop : Int)) := (World.cell?_of_block (t2.block p lp (fun h => by rcases h with h | h; exact hpB h; omega))).trans hp
  have c1 := hv1.cell
  have f1 := hv1.frozen
  have c2 := hv2.cell
  have H2 := Lib.hid hv2
  have H3 := Lib.hid OW2
  have H4 := Lib.hid t2
  obtain ⟨g', cap', rfl⟩ := ownsRow_succ hown
  clear hown hgrow hv0 hv1 hv2 OW OW2 t0 t1 t2 hp hc HV HR lB lp
  go_wp2_with fail
  go_ret
  exact ⟨by simp; omega, ⟨_, H2.out, by simpa using H3.out⟩, H4.out⟩

set_option maxRecDepth 100000 in
set_option maxHeartbeats 1600000 in
theorem each (now : Int) (zs : List Sn) (stop B p Bs Bn c lo : Nat) (A : Option Addr) (W : World) (hst : stop ≤ 255) (h : Holds W W.heap.size B []) (hp : W.cell? ⟨p, 0, none⟩ = some (.int .u8 (stop : Int))) (hpB : p ≠ B)
    (hBs : W.cell? ⟨Bs, 0, none⟩ = some (.slice A zs.length c)) (hBn : W.cell? ⟨Bn, 0, none⟩ = some (.int .u64 now)) (hnB : Bn ≠ B) (hlo : B < lo) (hs : Seq W lo W.heap.size A (flatS zs)) (hl : zs.length ≤ 900) :
    Calls Try.prog 23 #[.func (.func 12) #[] #[.pointer (some ⟨B, 0, none⟩), .pointer (some ⟨p, 0, none⟩)], .pointer (some ⟨Bs, 0, none⟩), .pointer (some ⟨Bn, 0, none⟩)] W fun e W' => (∃ v, e = .returned v) ∧ Holds W' W.heap.size B ((live now zs).take (stop + 1)) ∧ Law.Touch W W' (fun k => k = B) := by
  have HS := Lib.hid hs
  have HH := Lib.hid h
  have HP := Lib.hid hp
  have HN := Lib.hid hBn
  have lp : p < W.heap.size := World.block_lt_of_cell? W _ hp
  have lBn : Bn < W.heap.size := World.block_lt_of_cell? W _ hBn
  clear hs h hp hBn
  go_enter Try.func23, Try.ntmps23
  go_wp2_with fail
  go_loopw [8] (fun i wr => ∃ k : Nat, k ≤ zs.length ∧ i = .int .i64 k ∧ (live now (zs.take k)).length ≤ stop ∧ Holds wr W.heap.size B (live now (zs.take k)) ∧ Law.Touch W wr (fun k => k = B)) (fun i _ => zs.length - (intOf i).toNat)
  case atStart => exact ⟨0, Nat.zero_le _, rfl, Nat.zero_le _, by simpa [live] using HH.out, Law.Touch.refl _ _⟩
  case round =>
    obtain ⟨k, hk, rfl, hks, hH, hT⟩ := hrel
    have H1 := Lib.hid hH
    have T1 := Lib.hid hT
    have sb := hT.size
    have cn : wr.cell? ⟨Bn, 0, none⟩ = some (.int .u64 now) := (World.cell?_of_block (hT.block Bn lBn hnB)).trans HN.out
    have ln : Bn < wr.heap.size := by omega
    clear hH hT HH
    by_cases hlt : k < zs.length
    · have HT2 : Hid (live now (zs.take (k + 1)) = if now < zs[k].2.2.2 then live now (zs.take k) ++ [zs[k]] else live now (zs.take k)) := by show _ = _; rw [List.take_succ_eq_append_getElem hlt, live_snoc]
      have HPf : Hid (live now (zs.take (k + 1)) <+: live now zs) := (List.take_prefix (k + 1) zs).filter _
      obtain ⟨b, off, rfl, _, hb, q0, q1, q2, q3⟩ := (T1.out.seq HS.out (Nat.le_refl _) (fun k hk => .inl (by omega))).ses hlt
      have lb : b < wr.heap.size := by omega
      generalize live now (zs.take k) = os at *
      generalize zs[k] = q at *
      obtain ⟨x0, x1, x2, x3⟩ := q
      simp only at q0 q1 q2 q3 HT2
      have H2 : Hid (Holds (wr.alloc (.cells #[.int .i64 x0, .int .i64 x1, .int .i64 x2, .int .u64 x3] 30)) W.heap.size B os) := by
        obtain ⟨v, h1, h2⟩ := H1.out
        exact ⟨v, h1.alloc _, h2.alloc _⟩
      have T2 := Lib.hid (T1.out.trans (Law.Touch.alloc wr (.cells #[.int .i64 x0, .int .i64 x1, .int .i64 x2, .int .u64 x3] 30) (fun k => k = B)) (fun k hk => .inl hk))
      by_cases hk3 : now < x3
      · have d1 : decide (x3 ≤ now) = false := by simp; omega
        have CO := Lib.hid (one (x0, x1, x2, x3) os stop W.heap.size B p (wr.alloc (.cells #[.int .i64 x0, .int .i64 x1, .int .i64 x2, .int .u64 x3] 30)) hst H2.out (by simp; omega) ((World.cell?_of_block (T2.out.block p lp hpB)).trans HP.out) hpB lp (by omega))
        go_wp2_with (first
          | (go_at_call 24; refine (Sess.late _ _ _).mono ?_; rintro e w' ⟨rfl, rfl⟩))
        refine CO.out.mono ?_
        rintro e w2 ⟨rfl, h3, t3⟩
        have H3 := Lib.hid h3
        have T3 := Lib.hid (T2.out.trans t3 (fun k hk => hk.imp id (fun h => h)))
        clear h3 t3 H1 T1 H2 T2 CO cn q0 q1 q2 q3
        by_cases hk1 : os.length + 1 ≤ stop
        · have d2 : decide (os.length + 1 ≤ stop) = true := by simpa using hk1
          rw [d2]
          go_wp2_with fail
          go_roundw
          case rel => exact ⟨k + 1, by omega, by go_num, by rw [HT2.out, if_pos hk3]; simpa using hk1, by rw [HT2.out, if_pos hk3]; exact H3.out, T3.out⟩
          case measure => simp [intOf]; omega
        · have d2 : decide (os.length + 1 ≤ stop) = false := by simpa using hk1
          have he : Hid (os ++ [(x0, x1, x2, x3)] = (live now zs).take (stop + 1)) := by
            show _ = _
            have h5 := HPf.out
            rw [HT2.out, if_pos hk3] at h5
            have h6 := List.prefix_iff_eq_take.1 h5
            rw [h6]
            congr 1
            simp; omega
          rw [d2]
          go_wp2_with fail
          refine bodyPost_ret (results_none rfl _ _ _) rfl ?_
          exact ⟨⟨_, rfl⟩, by rw [← he.out]; exact H3.out, T3.out⟩
      · have d1 : decide (x3 ≤ now) = true := by simp; omega
        go_wp2_with (first
          | (go_at_call 24; refine (Sess.late _ _ _).mono ?_; rintro e w' ⟨rfl, rfl⟩))
        go_roundw
        case rel => exact ⟨k + 1, by omega, by go_num, by rw [HT2.out, if_neg (by omega)]; exact hks, by rw [HT2.out, if_neg (by omega)]; exact H2.out, T2.out⟩
        case measure => simp [intOf]; omega
    · rw [List.take_of_length_le (by omega)] at H1 hks
      have he : Hid (live now zs = (live now zs).take (stop + 1)) := by show _ = _; rw [List.take_of_length_le (by omega)]
      go_wp2_with fail
      go_end0
      exact ⟨⟨_, rfl⟩, by rw [← he.out]; exact H1.out, T1.out⟩
end Aggr
end Go.Proofs.Ytmcbjfmlncellaa

/-
  BookSweeps: whatever the acts, the number, the user and the time, the statement's function returns true, and the arguments read as before. No condition.
-/
import Derived.Test.YtjjemdmbhgmiiaaBook10
import Derived.Test.YtjjemdmbhgmiiaaBook08
namespace Go.Proofs.Ytjjemdmbhgmiiaa.bookSweeps
open Go.ChangeShapes Go.WideShapes Go.ChangeAt Go.RowKit
open Go.Law Go.Proofs.Ytjjemdmbhgmiiaa.Bk Go.Proofs.Ytjjemdmbhgmiiaa.OmapB Door Go.Sort

set_option maxRecDepth 100000 in
set_option maxHeartbeats 8000000 in
theorem walk (l : List ActV) (A : Option Addr) (c : Nat) (most : Int) (user : ByteArray) (hus : user.size ≤ maxLen) (by_ : Int) (hby : (Lit.int .u64 by_).wf = true) (w : World) (hs : Seq w 0 w.heap.size A (flatA l)) (hl : l.length ≤ maxLen) (hq : ∀ q ∈ l, q.Good) :
    Calls Try.prog 4 #[.slice A l.length c, .int .i64 most, .string user, .int .u64 by_] w fun e w' => e = .returned (.bool true) ∧ Below w.heap.size w w' := by
  have HS := Lib.hid hs
  have HQ := Lib.hid hq
  have HL := Lib.hid hl
  have HB := Lib.hid (Below.refl w.heap.size w)
  have HUB := Lib.hid (ofwf hby)
  unfold maxLen at hus
  clear hs hq hl hby
  go_enter Try.func4, Try.ntmps4
  go_wp2_with fail
  refine (awake _).mono ?_
  rintro e w1 ⟨rfl, b1⟩
  replace HS := Lib.hid ((HS.out.below b1).more b1.size)
  replace HB := Lib.hid (HB.out.trans (b1.mono HB.out.size))
  clear b1
  go_wp2_with fail
  refine (long_ l A c _ HS.out HL.out HQ.out).mono ?_
  rintro e w' ⟨rfl, rfl⟩
  cases hlong : longB l with
  | true =>
    go_wp2_with fail
    refine (awake _).mono ?_
    rintro e w2 ⟨rfl, b1⟩
    replace HB := Lib.hid (HB.out.trans (b1.mono HB.out.size))
    clear b1
    go_wp2_with fail
    go_ret
    exact ⟨rfl, HB.out⟩
  | false =>
    by_cases hu : 100 < user.size
    · have d1 : decide ((100 : Int) < (user.size : Int)) = true := by simp; omega
      go_wp2_with fail
      refine (awake _).mono ?_
      rintro e w2 ⟨rfl, b1⟩
      replace HB := Lib.hid (HB.out.trans (b1.mono HB.out.size))
      clear b1
      go_wp2_with fail
      go_ret
      exact ⟨rfl, HB.out⟩
    have d1 : decide ((100 : Int) < (user.size : Int)) = false := by simp; omega
    have hl2 := long_le hlong
    have HMF := Lib.hid (made_fit most l HQ.out)
    clear hlong
    go_wp2_with fail
    refine (made_ l A c most _ HS.out hl2 HQ.out).mono ?_
    rintro e w2 ⟨p2, rfl, k2, b1⟩
    replace HB := Lib.hid (HB.out.trans (b1.mono HB.out.size))
    have HK := Lib.hid k2
    clear b1 k2 HS
    have HF := Lib.hid (HMF.out.1.more hl2)
    have HUN := Lib.hid HMF.out.2
    clear HMF
    generalize madeB most l = sx at *
    obtain ⟨sb, sn⟩ := sx
    simp only at HK HF HUN
    have hsl := HF.out.len
    have hso := HF.out.of user
    go_wp2_with fail
    have HI2 := Lib.hid (Is.new w2 27 #[.pointer p2] rfl)
    have bx := (Below.refl w2.heap.size w2).alloc (Nat.le_refl _) (.cells #[.pointer p2] 27)
    replace HB := Lib.hid (HB.out.trans (bx.mono HB.out.size))
    replace HK := Lib.hid (HK.out.now bx)
    generalize w2.alloc (.cells #[.pointer p2] 27) = w3 at *
    clear bx
    refine (sweep sn HK.out HF.out.book.1 (by omega) (fun q hq => by have := HF.out.ses q hq; omega)).mono ?_
    rintro e w4 ⟨p4, A4, c4, rfl, k4, q4, b1⟩
    replace HB := Lib.hid (HB.out.trans (b1.mono HB.out.size))
    replace HK := Lib.hid (HK.out.now b1)
    replace HI2 := Lib.hid (HI2.out.below b1 HI2.out.lt)
    have HKC := Lib.hid k4
    clear b1 k4 q4
    have HFC := Lib.hid (HF.out.sweep (now := sn))
    have HTW := Lib.hid (sweep_twice sn sb)
    have HPS := Lib.hid (fun (t : Int) (h : sn ≤ t) => pres_sweep lt tri (now := sn) (then_ := t) (u := user) HF.out.book.1 h)
    have HST := Lib.hid (stored_sweep sn sb)
    have HEN : Hid (∀ q ∈ sweepB sn sb, q.2.1 ≠ [] ∧ (q.2.2).2.2 = (q.2.1.length : Int) ∧ ∀ s ∈ q.2.1, sn < s.2.2.2) := fun q hq => by
      obtain ⟨y, hy, e⟩ := List.mem_filterMap.1 hq
      have e' := swept_some e
      refine ⟨e'.2.2.2, ?_, fun s hs => ?_⟩
      · rw [e'.2.2.1, presS_all, e'.2.1]
      · rw [e'.2.1] at hs; simpa using (List.mem_filter.1 hs).2
    generalize sweepB sn sb = cb at *
    generalize sweepC sn sb = cc at *
    have hcl := HFC.out.len
    have hco := HFC.out.of user
    go_wp2_with fail
    have HI4 := Lib.hid (Is.new w4 27 #[.pointer p4] rfl)
    have bx := (Below.refl w4.heap.size w4).alloc (Nat.le_refl _) (.cells #[.pointer p4] 27)
    replace HB := Lib.hid (HB.out.trans (bx.mono HB.out.size))
    replace HK := Lib.hid (HK.out.now bx)
    replace HKC := Lib.hid (HKC.out.now bx)
    replace HI2 := Lib.hid (HI2.out.below bx HI2.out.lt)
    generalize w4.alloc (.cells #[.pointer p4] 27) = w5 at *
    clear bx
    have hC := sweep sn HKC.out HFC.out.book.1 (by omega) (fun q hq => by have := HFC.out.ses q hq; omega)
    rw [HTW.out.1, HTW.out.2] at hC
    refine hC.mono ?_
    clear hC
    rintro e w6 ⟨p6, A6, c6, rfl, k6, q6, b1⟩
    replace HB := Lib.hid (HB.out.trans (b1.mono HB.out.size))
    replace HK := Lib.hid (HK.out.now b1)
    replace HKC := Lib.hid (HKC.out.now b1)
    replace HI2 := Lib.hid (HI2.out.below b1 HI2.out.lt)
    replace HI4 := Lib.hid (HI4.out.below b1 HI4.out.lt)
    have HKD := Lib.hid k6
    clear b1 k6 q6 HTW
    go_wp2_with fail
    have HI6 := Lib.hid (Is.new w6 27 #[.pointer p6] rfl)
    have bx := (Below.refl w6.heap.size w6).alloc (Nat.le_refl _) (.cells #[.pointer p6] 27)
    replace HB := Lib.hid (HB.out.trans (bx.mono HB.out.size))
    replace HK := Lib.hid (HK.out.now bx)
    replace HKC := Lib.hid (HKC.out.now bx)
    replace HKD := Lib.hid (HKD.out.now bx)
    replace HI2 := Lib.hid (HI2.out.below bx HI2.out.lt)
    replace HI4 := Lib.hid (HI4.out.below bx HI4.out.lt)
    generalize w6.alloc (.cells #[.pointer p6] 27) = w7 at *
    clear bx
    refine (later sn by_ HUN.out HUB.out _).mono ?_
    rintro e w' ⟨rfl, rfl⟩
    have hth := le_sat HUN.out HUB.out
    have HPE := Lib.hid (HPS.out _ hth)
    clear HPS hth
    generalize sat sn by_ = th at *
    obtain ⟨s0, s1, s2, hp⟩ : ∃ s0 s1 s2, presS th (sesK user sb) = (s0, s1, s2) := ⟨_, _, _, rfl⟩
    have HP1 := Lib.hid hp
    have HP2 : Hid (presS th (sesK user cb) = (s0, s1, s2)) := HPE.out.trans hp
    clear hp
    go_wp2_with fail
    have HC1 : Hid (∀ d os, Calls Try.prog 21 #[.agg #[.pointer p2], .string user, .int .u64 th] (grow (redrawn w7 d) os) fun e w' => e = .returned (.agg #[.int .i64 s0, .int .i64 s1, .int .i64 s2]) ∧ Below (grow (redrawn w7 d) os).heap.size (grow (redrawn w7 d) os) w') := fun d os =>
      presence user th HP1.out (HK.out.now (below_regrown w7 d os)) HF.out.book.1 (by omega)
    have HC2 : Hid (∀ d os, Calls Try.prog 21 #[.agg #[.pointer p4], .string user, .int .u64 th] (grow (redrawn w7 d) os) fun e w' => e = .returned (.agg #[.int .i64 s0, .int .i64 s1, .int .i64 s2]) ∧ Below (grow (redrawn w7 d) os).heap.size (grow (redrawn w7 d) os) w') := fun d os =>
      presence user th HP2.out (HKC.out.now (below_regrown w7 d os)) HFC.out.book.1 (by omega)
    have HC3 : Hid (∀ d os, Calls Try.prog 19 #[.agg #[.pointer p4], .agg #[.pointer p6]] (grow (redrawn w7 d) os) fun e w' => e = .returned (.bool true) ∧ Below (grow (redrawn w7 d) os).heap.size (grow (redrawn w7 d) os) w') := fun d os =>
      same (by simp) (HKC.out.now (below_regrown w7 d os)) (HKD.out.now (below_regrown w7 d os)) (HFC.out.more (by omega)) (HFC.out.more (by omega))
    have r2 := cell_regrown (HI2.out.cell' (i := 0) rfl)
    have r4 := cell_regrown (HI4.out.cell' (i := 0) rfl)
    have r6 := cell_regrown (HI6.out.cell' (i := 0) rfl)
    refine wp_region_quiet_below (by kernel_rfl) (by kernel_rfl) ?_
    repeat (go_big_quiet_step (first
      | (go_at_call_of 21 (Value.agg #[.pointer p2]); with_reducible exact Calls.regrown_of (HC1.out _ _))
      | (go_at_call_of 21 (Value.agg #[.pointer p4]); with_reducible exact Calls.regrown_of (HC2.out _ _))
      | (go_at_call 19; with_reducible exact Calls.regrown_of (HC3.out _ _))))
    refine wpQuiet_nil ?_
    intro _ hw'
    obtain ⟨⟨nq, osq⟩, hw''⟩ := hw'
    subst hw''
    have b1 := below_regrown w7 nq osq
    replace HI2 := Lib.hid (HI2.out.below b1 HI2.out.lt)
    replace HI4 := Lib.hid (HI4.out.below b1 HI4.out.lt)
    replace HB := Lib.hid (HB.out.trans (b1.mono HB.out.size))
    replace HK := Lib.hid (HK.out.now b1)
    replace HKC := Lib.hid (HKC.out.now b1)
    clear b1 r2 r4 r6 HC1 HC2 HC3 HKD HI6 HP1 HP2 HPE
    generalize grow (redrawn w7 nq) osq = w8 at *
    have z4 := HI4.out.cell' (i := 0) rfl
    go_wp2_with fail
    refine (users HKC.out (by omega)).mono ?_
    rintro e w9 ⟨A9, c9, rfl, u9, b1⟩
    replace HI2 := Lib.hid (HI2.out.below b1 HI2.out.lt)
    replace HI4 := Lib.hid (HI4.out.below b1 HI4.out.lt)
    replace HB := Lib.hid (HB.out.trans (b1.mono HB.out.size))
    replace HK := Lib.hid (HK.out.now b1)
    replace HKC := Lib.hid (HKC.out.now b1)
    obtain ⟨xs, hx1, hx2, hx3⟩ := u9
    have HXS := Lib.hid hx1.seq
    have hxl : cb.length = xs.length := by rw [← hx3, mapV_length]
    have HXE : Hid (∀ q ∈ xs, q.2.n = q.2.ss.length ∧ Lain 63 w9 q.2.A (flatS q.2.ss) ∧ q.2.ss ≠ [] ∧ q.2.lv = (q.2.ss.length : Int) ∧ q.2.ss.length ≤ 120 ∧ ∀ s ∈ q.2.ss, sn < s.2.2.2) := fun q hq => by
      have hm : (q.1, q.2.en) ∈ cb := by rw [← hx3]; exact List.mem_map.2 ⟨q, hq, rfl⟩
      have h1 := HEN.out _ hm
      exact ⟨(hx2 q hq).1, (hx2 q hq).2, h1.1, h1.2.1, HFC.out.ses _ hm, h1.2.2⟩
    clear hx1 hx2 hx3 b1 z4 HEN
    rw [hxl] at hcl ⊢
    clear hxl
    go_wp2_with fail
    go_loopw [17] (fun iv wr => ∃ j : Nat, j ≤ xs.length ∧ iv = .int .i64 j ∧ Drawn w9 wr) (fun iv _ => xs.length - (intOf iv).toNat)
    case atStart => exact ⟨0, Nat.zero_le _, rfl, Drawn.refl _⟩
    case round =>
      obtain ⟨j, hj, rfl, hd⟩ := hrel
      have HD := Lib.hid hd
      by_cases hlt : j < xs.length
      · obtain ⟨b, off, rfl, _, lb, _, q1, _, _, q4⟩ := (hd.seq HXS.out).us hlt
        obtain ⟨e1, e2, e3, e4, e5, e6⟩ := HXE.out _ (List.getElem_mem hlt)
        have HSQ := Lib.hid (hd.seq e2.seq)
        generalize xs[j] = x at *
        obtain ⟨xn, vA, vn, vc, vs, vp, vl, ss⟩ := x
        simp only at q1 q4 e1 e3 e4 e5 e6 HSQ
        subst e1 e4
        have HNT := Lib.hid e6
        have d3 : ((ss.length : Int) == 0) = false := by have := List.length_pos_iff.2 e3; simp; omega
        clear e2 e3 e6 hd
        go_wp2_with fail
        go_loop [18] (fun kv => ∃ m : Nat, m ≤ ss.length ∧ kv = .int .i64 m) (fun kv => ss.length - (intOf kv).toNat)
        case atStart => exact ⟨0, Nat.zero_le _, rfl⟩
        case round =>
          obtain ⟨m, hm, rfl⟩ := hrel
          by_cases hmt : m < ss.length
          · obtain ⟨b', off', rfl, _, lb', _, _, _, y3⟩ := HSQ.out.ses hmt
            have hnt := HNT.out _ (List.getElem_mem hmt)
            generalize ss[m] = s at *
            obtain ⟨z0, z1, z2, z3⟩ := s
            simp only at y3 hnt
            have d4 : decide (z3 ≤ sn) = false := by simp; omega
            go_wp2_with fail
            go_round
            case rel => exact ⟨m + 1, by omega, by go_num⟩
            case measure => simp [intOf]; omega
          · go_wp2_with fail
            go_quiet (fail)
            go_wp2_with fail
            go_roundw
            case rel => exact ⟨j + 1, by omega, by go_num, HD.out.drewN _⟩
            case measure => simp [intOf]; omega
      · have HBF := Lib.hid (hd.below HB.out)
        have bd : Below w9.heap.size w9 wr := hd.below (Below.refl _ _)
        replace HI2 := Lib.hid (HI2.out.below bd HI2.out.lt)
        replace HI4 := Lib.hid (HI4.out.below bd HI4.out.lt)
        replace HK := Lib.hid (HK.out.now bd)
        replace HKC := Lib.hid (HKC.out.now bd)
        clear hd bd
        have HS1 : Hid (∀ d os, Calls Try.prog 20 #[.agg #[.pointer p4]] (grow (redrawn wr d) os) fun e w' => e = .returned (.int .i64 (storedB cb : Int)) ∧ Below (grow (redrawn wr d) os).heap.size (grow (redrawn wr d) os) w') := fun d os =>
          Bk.stored (HKC.out.now (below_regrown wr d os)) (by have := HFC.out.len; omega) (fun q hq => by have := HFC.out.ses q hq; omega)
        have HS2 : Hid (∀ d os, Calls Try.prog 20 #[.agg #[.pointer p2]] (grow (redrawn wr d) os) fun e w' => e = .returned (.int .i64 (storedB sb : Int)) ∧ Below (grow (redrawn wr d) os).heap.size (grow (redrawn wr d) os) w') := fun d os =>
          Bk.stored (HK.out.now (below_regrown wr d os)) (by omega) (fun q hq => by have := HF.out.ses q hq; omega)
        have d9 : decide ((storedB cb : Int) ≤ (storedB sb : Int)) = true := by have := HST.out; simp; omega
        have d8 := HST.out
        generalize storedB cb = m1 at *
        generalize storedB sb = m2 at *
        go_wp2_with fail
        have r2 := cell_regrown (HI2.out.cell' (i := 0) rfl)
        have r4 := cell_regrown (HI4.out.cell' (i := 0) rfl)
        refine wp_region_quiet_below (by kernel_rfl) (by kernel_rfl) ?_
        repeat (go_big_quiet_step (first
          | (go_at_call_of 20 (Value.agg #[.pointer p4]); with_reducible exact Calls.regrown_of (HS1.out _ _))
          | (go_at_call_of 20 (Value.agg #[.pointer p2]); with_reducible exact Calls.regrown_of (HS2.out _ _))))
        refine wpQuiet_nil ?_
        intro _ hw'
        obtain ⟨⟨nq2, osq2⟩, hw''⟩ := hw'
        subst hw''
        have HBZ := Lib.hid (HBF.out.trans ((below_regrown wr nq2 osq2).mono HBF.out.size))
        generalize grow (redrawn wr nq2) osq2 = wz at *
        go_wp2_with fail
        go_ret
        exact ⟨by simp, HBZ.out⟩

set_option maxRecDepth 100000 in
theorem lifted (os : Os) (started : os.Started) (H : Type) (enc : TypeId × Value → H) :
    ReturnsInHanded {} Try.checked os 4 .any (Rows.bookSweepsSpec.pre6 enc Try.prog Try.f4 Rows.bookSweepsRow.domain false) (Rows.bookSweepsSpec.post enc Try.prog Try.f4 false true false false) := by
  refine returnsInHanded_of_change (C := Try.checked) own started (by kernel_rfl) Try.func4
    (ChangeSpec.witness6 (enc := enc) (C := Try.checked) false ⟨#[], #[.slice none 0 0, .int .i64 0, .string ⟨#[]⟩, .int .u64 0], []⟩ 8 (by kernel_rfl) (by kernel_rfl) (by kernel_rfl) (by kernel_rfl)) ?_
  intro W base args ds gs before hval0 hW hcnd _
  have hval : ∀ (j : Nat) t v, Try.f4.params[j]? = some t → args[j]? = some v → Value.okWide Try.prog W .any base t v := hval0
  have hW' := hW
  obtain ⟨p, q, hA0, hV, rfl, hfz, hnd⟩ := hW
  have hA : DataW.TrodAll enc Try.prog W 0 (fun _ => true) true Try.f4.params.toList args.toList ds p := hA0
  rw [Try.params4] at hA hval
  obtain ⟨v0, vs0, d0, ds0, p0, q0, hargs, rfl, rfl, h0, r0⟩ := trodAll_cons hA
  obtain ⟨v1, vs1, d1, ds1, p1, q1, rfl, rfl, rfl, h1, r1⟩ := trodAll_cons r0
  obtain ⟨v2, vs2, d2, ds2, p2, q2, rfl, rfl, rfl, h2, r2⟩ := trodAll_cons r1
  obtain ⟨v3, vs3, d3, ds3, p3, q3, rfl, rfl, rfl, h3, r3⟩ := trodAll_cons r2
  obtain ⟨rfl, rfl, rfl⟩ := trodAll_nil r3
  obtain rfl : args = #[v0, v1, v2, v3] := by cases args; simp_all
  obtain ⟨A, c, l, rfl, hs, hl, hq⟩ := open_acts (hval 0 22 v0 rfl rfl) h0
  obtain ⟨a1, rfl, rfl, rfl, w1⟩ := open_int Try.underlying3 (hval 1 3 v1 rfl rfl) h1
  obtain ⟨a2, rfl, rfl, rfl, w2⟩ := Go.ChangeMaps.open_string Try.underlying9 (hval 2 9 v2 rfl rfl) h2
  obtain ⟨a3, rfl, rfl, rfl, w3⟩ := open_int Try.underlying29 (hval 3 29 v3 rfl rfl) h3
  refine (walk l A c a1 a2 w2 a3 w3 W hs hl hq).mono fun e W' ⟨he, bel⟩ => ?_
  subst he
  exact ⟨_, rfl, Law.post_law laidOut (by kernel_rfl) (by kernel_rfl) Try.underlying4 rfl (fun ds h => by match ds, h with | [_, _, _, _], _ => rfl) hW' bel⟩

theorem proved : Rows.BookSweepsSaid :=
  OpenClaim.holds_of_wide 4 Try.f4 rfl rfl rfl rfl rfl rfl rfl ⟨rfl, rfl, rfl, rfl, rfl⟩ rfl rfl rfl rfl rfl (by kernel_rfl) Try.func4 (by kernel_rfl)
    (of_decide_eq_true (by kernel_rfl)) (by unfold Func.isWrapper; rw [if_neg (by decide +kernel)]; exact ⟨rfl, rfl⟩)
    (fun os started H enc _ => lifted os started H enc)
#print axioms proved
end Go.Proofs.Ytjjemdmbhgmiiaa.bookSweeps

/-
  A line begins with the kind's name, and has more than it just if its kind tells more. For all ops, no condition.
-/
import Derived.Test.YtgongmdigeokmaaDoorOpAwk
import Derived.Test.YtgongmdigeokmaaDoorOpDec
namespace Go.Proofs.YtgongmdigeokmaaDoor
open Go.RowKit Go.ChangeShapes Go.WideShapes Go.ChangeAt
attribute [local go_sem] Oper.semAt_some
namespace opWords
open Go.Law Opx
theorem join_split (nm : ByteArray) (rest : List ByteArray) : ∃ t : ByteArray, joinB (nm :: rest) = nm ++ t ∧ (t.size = 0 ↔ rest = []) := by
  cases rest with
  | nil =>
    refine ⟨⟨#[]⟩, ?_, by decide⟩
    have e : Lib.join ([nm].map (·.data.toList)) [32] = nm.data.toList := by simp [Lib.join, List.intercalate]
    show (⟨(Lib.join ([nm].map (·.data.toList)) [32]).toArray⟩ : ByteArray) = _
    rw [e]
    apply ByteArray.ext
    rw [ByteArray.data_append]
    simp
  | cons x r =>
    refine ⟨⟨(([32] : List UInt8) ++ Lib.join ((x :: r).map fun b : ByteArray => b.data.toList) [32]).toArray⟩, ?_, ?_⟩
    · have e : Lib.join ((nm :: x :: r).map (·.data.toList)) [32] = nm.data.toList ++ ([32] ++ Lib.join ((x :: r).map (·.data.toList)) [32]) := by simp [Lib.join, List.intercalate]
      show (⟨(Lib.join ((nm :: x :: r).map (·.data.toList)) [32]).toArray⟩ : ByteArray) = _
      rw [e]
      apply ByteArray.ext
      rw [ByteArray.data_append]
      simp
    · constructor
      · intro h
        have h1 : (([32] : List UInt8) ++ Lib.join ((x :: r).map fun b : ByteArray => b.data.toList) [32]).toArray.size = 0 := h
        simp at h1
      · intro h; cases h
theorem line_split (q : OpW) (h : 1 ≤ q.kind ∧ q.kind ≤ 9) : ∃ t : ByteArray, lineB q = kindB q.kind ++ t ∧ (t.size = 0 ↔ (7 < q.kind ∨ (q.kind = 5 ∧ q.us.length = 0))) := by
  obtain ⟨kind, user, id, st, pr, ttl, A, c, us⟩ := q
  simp only at h
  unfold lineB
  simp only
  by_cases h1 : kind = 1
  · subst h1
    obtain ⟨t, e, ht⟩ := join_split (kindB 1) [quoteB user, intB id, intB st, intB pr, decB ttl.toNat]
    exact ⟨t, by simpa using e, by rw [ht]; simp⟩
  · rw [if_neg h1]
    by_cases h2 : kind = 2
    · subst h2
      obtain ⟨t, e, ht⟩ := join_split (kindB 2) [quoteB user, intB id, decB ttl.toNat]
      exact ⟨t, by simpa using e, by rw [ht]; simp⟩
    · rw [if_neg h2]
      by_cases h3 : kind = 3
      · subst h3
        obtain ⟨t, e, ht⟩ := join_split (kindB 3) [quoteB user, intB id]
        exact ⟨t, by simpa using e, by rw [ht]; simp⟩
      · rw [if_neg h3]
        by_cases h4 : kind = 4 ∨ kind = 6 ∨ kind = 7
        · rw [if_pos h4]
          obtain ⟨t, e, ht⟩ := join_split (kindB kind) [quoteB user]
          exact ⟨t, e, by rw [ht]; simp; omega⟩
        · rw [if_neg h4]
          by_cases h5 : kind = 5
          · subst h5
            obtain ⟨t, e, ht⟩ := join_split (kindB 5) (us.map quoteB)
            refine ⟨t, by simpa using e, ?_⟩
            rw [ht]
            simp
          · rw [if_neg h5, if_pos (by omega)]
            exact ⟨⟨#[]⟩, by apply ByteArray.ext; rw [ByteArray.data_append]; simp, fun _ => .inl (by omega), fun _ => rfl⟩
theorem kind_pos (k : Int) (h : 1 ≤ k ∧ k ≤ 9) : (kindB k).size ≠ 0 := by
  obtain ⟨i, rfl⟩ := Int.eq_ofNat_of_zero_le (show 0 ≤ k by omega)
  unfold kindB
  rw [if_pos (by omega)]
  have : ∀ i, i < 10 → 1 ≤ i → (nameL.getD i ⟨#[]⟩).size ≠ 0 := by decide +kernel
  exact this i (by omega) (by omega)
theorem bad_line (q : OpW) (h : ¬ (1 ≤ q.kind ∧ q.kind ≤ 9)) : lineB q = ⟨#[98, 97, 100]⟩ ∧ kindB q.kind = ⟨#[]⟩ := by
  constructor
  · unfold lineB
    rw [if_neg (by omega), if_neg (by omega), if_neg (by omega), if_neg (by omega), if_neg (by omega), if_neg (by omega)]
  · unfold kindB
    split
    · rename_i h1
      have h0 : q.kind = 0 := by omega
      rw [h0]; rfl
    · rfl
set_option maxRecDepth 100000 in
set_option maxHeartbeats 4000000 in
theorem walk (q : OpW) (w : World) (hq : q.In w) (hT : Tabs w) : Calls Tryd.prog 6 #[.agg q.box] w fun e w' => e = .returned (.bool true) ∧ Below w.heap.size w w' := by
  have hb1 := bad_line q
  have hb2 := line_split q
  have hb3 := kind_pos q.kind
  obtain ⟨kind, user, id, st, pr, ttl, A, c, us⟩ := q
  simp only at hb1 hb2 hb3
  have bb := (Below.refl w.heap.size w).alloc (Nat.le_refl _) (.cells #[.int .i64 kind, .string user, .int .i64 id, .int .i64 st, .int .i64 pr, .int .u64 ttl, .slice A us.length c] 25)
  have HX := Lib.hid (Is.new w 25 #[.int .i64 kind, .string user, .int .i64 id, .int .i64 st, .int .i64 pr, .int .u64 ttl, .slice A us.length c] rfl)
  have HIN := Lib.hid (hq.below bb)
  have HB := Lib.hid bb
  have HTb := Lib.hid (hT.below bb)
  have B1 := Lib.hid hb1
  have B2 := Lib.hid hb2
  have B3 := Lib.hid hb3
  clear hq hT bb hb1 hb2 hb3
  go_enter Tryd.func6, Tryd.ntmps6
  go_wp2_with fail
  generalize (w.alloc (.cells #[.int .i64 kind, .string user, .int .i64 id, .int .i64 st, .int .i64 pr, .int .u64 ttl, .slice A us.length c] 25)) = w1 at *
  refine (awake w1 HTb.out).mono ?_
  rintro e w2 ⟨rfl, b2⟩
  have HX2 := Lib.hid (HX.out.below b2 HX.out.lt)
  have HB2 := Lib.hid (HB.out.trans (b2.mono HB.out.size))
  have HT2 := Lib.hid (HTb.out.below b2)
  have HI2 := Lib.hid (HIN.out.below b2)
  clear b2 HX HB HTb HIN
  have x0 : w2.cell? ⟨w.heap.size, 0, none⟩ = some (.int .i64 kind) := HX2.out.cell' rfl
  have x1 : w2.cell? ⟨w.heap.size, 1, none⟩ = some (.string user) := HX2.out.cell' rfl
  have x2 : w2.cell? ⟨w.heap.size, 2, none⟩ = some (.int .i64 id) := HX2.out.cell' rfl
  have x3 : w2.cell? ⟨w.heap.size, 3, none⟩ = some (.int .i64 st) := HX2.out.cell' rfl
  have x4 : w2.cell? ⟨w.heap.size, 4, none⟩ = some (.int .i64 pr) := HX2.out.cell' rfl
  have x5 : w2.cell? ⟨w.heap.size, 5, none⟩ = some (.int .u64 ttl) := HX2.out.cell' rfl
  have x6 : w2.cell? ⟨w.heap.size, 6, none⟩ = some (.slice A us.length c) := HX2.out.cell' rfl
  have lx := HX2.out.lt
  go_wp2_with fail
  cases hsh : shortB ⟨kind, user, id, st, pr, ttl, A, c, us⟩ with
  | false =>
    refine (short ⟨kind, user, id, st, pr, ttl, A, c, us⟩ HI2.out hsh).mono ?_
    rintro e w3 ⟨rfl, bx⟩
    have HX3 := Lib.hid (HX2.out.below bx HX2.out.lt)
    have HB3 := Lib.hid (HB2.out.trans (bx.mono HB2.out.size))
    have HT3 := Lib.hid (HT2.out.below bx)
    have HI3 := Lib.hid (HI2.out.below bx)
    clear bx HX2 HB2 HT2 HI2
    clear x0 x1 x2 x3 x4 x5 x6 lx
    have x0 : w3.cell? ⟨w.heap.size, 0, none⟩ = some (.int .i64 kind) := HX3.out.cell' rfl
    have x1 : w3.cell? ⟨w.heap.size, 1, none⟩ = some (.string user) := HX3.out.cell' rfl
    have x2 : w3.cell? ⟨w.heap.size, 2, none⟩ = some (.int .i64 id) := HX3.out.cell' rfl
    have x3 : w3.cell? ⟨w.heap.size, 3, none⟩ = some (.int .i64 st) := HX3.out.cell' rfl
    have x4 : w3.cell? ⟨w.heap.size, 4, none⟩ = some (.int .i64 pr) := HX3.out.cell' rfl
    have x5 : w3.cell? ⟨w.heap.size, 5, none⟩ = some (.int .u64 ttl) := HX3.out.cell' rfl
    have x6 : w3.cell? ⟨w.heap.size, 6, none⟩ = some (.slice A us.length c) := HX3.out.cell' rfl
    have lx := HX3.out.lt
    go_wp2_with fail
    refine (awake w3 HT3.out).mono ?_
    rintro e w4 ⟨rfl, bx⟩
    have HB4 := Lib.hid (HB3.out.trans (bx.mono HB3.out.size))
    clear bx
    go_wp2_with fail
    go_ret
    exact ⟨rfl, HB4.out⟩
  | true =>
    refine (short ⟨kind, user, id, st, pr, ttl, A, c, us⟩ HI2.out hsh).mono ?_
    rintro e w3 ⟨rfl, bx⟩
    have HX3 := Lib.hid (HX2.out.below bx HX2.out.lt)
    have HB3 := Lib.hid (HB2.out.trans (bx.mono HB2.out.size))
    have HT3 := Lib.hid (HT2.out.below bx)
    have HI3 := Lib.hid (HI2.out.below bx)
    clear bx HX2 HB2 HT2 HI2
    clear x0 x1 x2 x3 x4 x5 x6 lx
    have x0 : w3.cell? ⟨w.heap.size, 0, none⟩ = some (.int .i64 kind) := HX3.out.cell' rfl
    have x1 : w3.cell? ⟨w.heap.size, 1, none⟩ = some (.string user) := HX3.out.cell' rfl
    have x2 : w3.cell? ⟨w.heap.size, 2, none⟩ = some (.int .i64 id) := HX3.out.cell' rfl
    have x3 : w3.cell? ⟨w.heap.size, 3, none⟩ = some (.int .i64 st) := HX3.out.cell' rfl
    have x4 : w3.cell? ⟨w.heap.size, 4, none⟩ = some (.int .i64 pr) := HX3.out.cell' rfl
    have x5 : w3.cell? ⟨w.heap.size, 5, none⟩ = some (.int .u64 ttl) := HX3.out.cell' rfl
    have x6 : w3.cell? ⟨w.heap.size, 6, none⟩ = some (.slice A us.length c) := HX3.out.cell' rfl
    have lx := HX3.out.lt
    go_wp2_with fail
    refine (line ⟨kind, user, id, st, pr, ttl, A, c, us⟩ hsh w3 HI3.out HT3.out).mono ?_
    rintro e w4 ⟨rfl, bx⟩
    have HX4 := Lib.hid (HX3.out.below bx HX3.out.lt)
    have HB4 := Lib.hid (HB3.out.trans (bx.mono HB3.out.size))
    have HT4 := Lib.hid (HT3.out.below bx)
    have HI4 := Lib.hid (HI3.out.below bx)
    clear bx HX3 HB3 HT3 HI3
    clear x0 x1 x2 x3 x4 x5 x6 lx
    have x0 : w4.cell? ⟨w.heap.size, 0, none⟩ = some (.int .i64 kind) := HX4.out.cell' rfl
    have x1 : w4.cell? ⟨w.heap.size, 1, none⟩ = some (.string user) := HX4.out.cell' rfl
    have x2 : w4.cell? ⟨w.heap.size, 2, none⟩ = some (.int .i64 id) := HX4.out.cell' rfl
    have x3 : w4.cell? ⟨w.heap.size, 3, none⟩ = some (.int .i64 st) := HX4.out.cell' rfl
    have x4 : w4.cell? ⟨w.heap.size, 4, none⟩ = some (.int .i64 pr) := HX4.out.cell' rfl
    have x5 : w4.cell? ⟨w.heap.size, 5, none⟩ = some (.int .u64 ttl) := HX4.out.cell' rfl
    have x6 : w4.cell? ⟨w.heap.size, 6, none⟩ = some (.slice A us.length c) := HX4.out.cell' rfl
    have lx := HX4.out.lt
    go_wp2_with fail
    refine (name_ kind w4 HT4.out (u := kindB kind) rfl).mono ?_
    rintro e w5 ⟨rfl, bx⟩
    have HX5 := Lib.hid (HX4.out.below bx HX4.out.lt)
    have HB5 := Lib.hid (HB4.out.trans (bx.mono HB4.out.size))
    have HT5 := Lib.hid (HT4.out.below bx)
    have HI5 := Lib.hid (HI4.out.below bx)
    clear bx HX4 HB4 HT4 HI4
    clear x0 x1 x2 x3 x4 x5 x6 lx
    have x0 : w5.cell? ⟨w.heap.size, 0, none⟩ = some (.int .i64 kind) := HX5.out.cell' rfl
    have x1 : w5.cell? ⟨w.heap.size, 1, none⟩ = some (.string user) := HX5.out.cell' rfl
    have x2 : w5.cell? ⟨w.heap.size, 2, none⟩ = some (.int .i64 id) := HX5.out.cell' rfl
    have x3 : w5.cell? ⟨w.heap.size, 3, none⟩ = some (.int .i64 st) := HX5.out.cell' rfl
    have x4 : w5.cell? ⟨w.heap.size, 4, none⟩ = some (.int .i64 pr) := HX5.out.cell' rfl
    have x5 : w5.cell? ⟨w.heap.size, 5, none⟩ = some (.int .u64 ttl) := HX5.out.cell' rfl
    have x6 : w5.cell? ⟨w.heap.size, 6, none⟩ = some (.slice A us.length c) := HX5.out.cell' rfl
    have lx := HX5.out.lt
    by_cases hr : 1 ≤ kind ∧ kind ≤ 9
    · obtain ⟨t, ht, htz⟩ := B2.out hr
      have hn0 := B3.out hr
      rw [ht]
      generalize kindB kind = nm at *
      have f1 : decide (kind < 1) = false := by simp; omega
      have f9 : decide (9 < kind) = false := by simp; omega
      have hsz : (nm ++ t).size = nm.size + t.size := ByteArray.size_append
      have hext : (nm ++ t).extract 0 nm.size = nm := by apply ByteArray.ext; rw [ByteArray.data_extract, ByteArray.data_append]; show (nm.data ++ t.data).extract 0 nm.data.size = nm.data; simp [Array.extract_append]
      have g1 : decide (((nm.size : Int) + (t.size : Int)) < (nm.size : Int)) = false := by simp; omega
      have g2 : ((nm.size : Int) == 0) = false := by rw [beq_eq_false_iff_ne]; omega
      clear ht B1 B2 B3
      by_cases hz : t.size = 0
      · have hor := htz.1 hz
        have g3 : (((nm.size : Int) + (t.size : Int)) == (nm.size : Int)) = true := by rw [beq_iff_eq]; omega
        by_cases h7 : 7 < kind
        · have g7 : decide (7 < kind) = true := decide_eq_true h7
          go_wp2_with fail
          go_ret
          exact ⟨rfl, HB5.out⟩
        · have g7 : decide (7 < kind) = false := decide_eq_false h7
          obtain ⟨rfl, hl0⟩ := hor.resolve_left h7
          go_wp2_with fail
          go_ret
          exact ⟨rfl, HB5.out⟩
      · have g3 : (((nm.size : Int) + (t.size : Int)) == (nm.size : Int)) = false := by rw [beq_eq_false_iff_ne]; omega
        have hor : ¬ (7 < kind ∨ (kind = 5 ∧ us.length = 0)) := fun h => hz (htz.2 h)
        have g7 : decide (7 < kind) = false := decide_eq_false (fun h => hor (.inl h))
        by_cases h5 : kind = 5
        · subst h5
          have hl0 : ¬ us.length = 0 := fun h => hor (.inr ⟨rfl, h⟩)
          have g8 : ((us.length : Int) == 0) = false := by simp; exact fun h => hl0 (by simp [h])
          go_wp2_with fail
          go_ret
          exact ⟨rfl, HB5.out⟩
        · have g5 : (kind == 5) = false := by simpa using h5
          go_wp2_with fail
          go_ret
          exact ⟨rfl, HB5.out⟩
    · obtain ⟨e1, e2⟩ := B1.out hr
      rw [e1, e2]
      clear e1 e2 B1 B2 B3
      by_cases h1 : kind < 1
      · have f1 : decide (kind < 1) = true := decide_eq_true h1
        go_wp2_with fail
        go_ret
        exact ⟨rfl, HB5.out⟩
      · have f1 : decide (kind < 1) = false := decide_eq_false h1
        have f9 : decide (9 < kind) = true := by simp; omega
        go_wp2_with fail
        go_ret
        exact ⟨rfl, HB5.out⟩

set_option maxRecDepth 100000 in
set_option maxHeartbeats 4000000 in
theorem lifted (os : Os) (started : os.Started) (H : Type) (enc : TypeId × Value → H) :
    ReturnsInHanded {} Tryd.checked os 6 .any (fun w args => (Rows.opWordsSpec.pre enc Tryd.prog Tryd.f6 [] false w args ∧ laidMetH Tryd.prog Rows.opWordsRow.laid w) ∧ sizedMet enc Tryd.prog Tryd.f6 (OpenSpec.ofChange Rows.opWordsSpec) false w args) (Rows.opWordsSpec.post enc Tryd.prog Tryd.f6 false true false false) := by
  refine returnsInHanded_of_change_and (C := Tryd.checked) (X := (fun w _ => laidMetH Tryd.prog Rows.opWordsRow.laid w)) (fun _ _ _ hh h => h.of_heap hh) own started (by kernel_rfl) Tryd.func6
    (ChangeSpec.witness_shaped (enc := enc) (C := Tryd.checked) (os := os) (X := (fun w _ => laidMetH Tryd.prog Rows.opWordsRow.laid w)) false (World.laidAll Tryd.prog os Rows.opWordsRow.laid) #[.agg #[.int .i64 0, .string ⟨#[]⟩, .int .i64 0, .int .i64 0, .int .i64 0, .int .u64 0, .slice none 0 0]] 8 (World.laidAll_os _ _ _)
      (World.shaped_of_ZipB (by kernel_rfl) (by kernel_rfl)) (by kernel_rfl) (by kernel_rfl) (by kernel_rfl)
      (by rw [MakeChecks.laidMetH_plain _ _ _ (by kernel_rfl)]; exact laidMet_laidAll _ (by kernel_rfl) (by kernel_rfl))) ?_
  intro W base args ds gs before hval0 hW _ _ hL _
  have hval : ∀ (j : Nat) t v, Tryd.f6.params[j]? = some t → args[j]? = some v → Value.okWide Tryd.prog W .any base t v := hval0
  have hW' := hW
  obtain ⟨p, q, hA0, hV, rfl, hfz, hnd⟩ := hW
  have hA : DataW.TrodAll enc Tryd.prog W 0 (fun _ => true) true Tryd.f6.params.toList args.toList ds p := hA0
  rw [Tryd.params6] at hA hval
  obtain ⟨v0, vs0, d0, ds0, p0, q0, hargs, rfl, rfl, h0, r0⟩ := trodAll_cons hA
  obtain ⟨rfl, rfl, rfl⟩ := trodAll_nil r0
  obtain rfl : args = #[v0] := by cases args; simp_all
  obtain ⟨q, rfl, hq⟩ := open_op (hval 0 25 v0 rfl rfl) h0
  rw [MakeChecks.laidMetH_plain _ _ _ (by kernel_rfl)] at hL
  have HTb := Opx.tabs_of hL
  refine (walk q W hq HTb).mono fun e W' ⟨he, bel⟩ => ?_
  subst he
  exact ⟨_, rfl, Law.post_law laidOut (by kernel_rfl) (by kernel_rfl) Tryd.underlying4 rfl (fun ds h => by match ds, h with | [_], _ => rfl) hW' bel⟩
theorem holds : Rows.OpWordsSaid :=
  OpenClaim.holds_of_wide 6 Tryd.f6 rfl rfl rfl rfl rfl rfl rfl ⟨rfl, rfl, rfl, rfl, rfl⟩ rfl rfl rfl rfl rfl (by kernel_rfl) Tryd.func6 (by kernel_rfl)
    (of_decide_eq_true (by kernel_rfl)) (by unfold Func.isWrapper; first | (rw [if_pos (by decide +kernel)]; kernel_rfl) | (rw [if_neg (by decide +kernel)]; exact ⟨rfl, rfl⟩))
    (fun os started H enc _ => lifted os started H enc)
theorem proved : Rows.OpWordsCardSaid :=
  Claim7.holds_tied_plain_at .later [] [.data, .data, .data, .data, .data, .pinned, .pinned, .pinned, .pinned, .pinned, .pinned] true (true, "3a37e73df695129aebe4334631435b9f5ee6aa9346f77900bb5ed3b67a12cb65") false holds (fun _ h => by cases h) (by kernel_rfl) (fun _ h => by cases h) opWords_row_tie rfl ⟨rfl, rfl⟩ (by kernel_rfl) rfl
    (fun f fn hf hfn => by
      obtain rfl : f = 6 := Option.some.inj ((show Tryd.prog.funcNamed Rows.opWordsRow.func = some 6 by kernel_rfl).symm.trans hf) |>.symm
      obtain rfl : fn = Tryd.f6 := (Option.some.inj (Tryd.func6.symm.trans hfn)).symm
      exact ⟨by kernel_rfl, fun j t ht => by
        rw [Tryd.params6] at ht
        have hm : t ∈ [25] := by simpa using Array.mem_of_getElem? ht
        have hall : ([25].all fun u => !Tryd.prog.wantsStandIn u) = true := by kernel_rfl
        exact (show Tryd.prog.wantsStandIn t = false by simpa using List.all_eq_true.1 hall t hm)⟩)
    (by kernel_rfl)
#print axioms proved
end opWords
end Go.Proofs.YtgongmdigeokmaaDoor

/-
  What the table's (layer 10) watched and watch come to.
-/
import Derived.Test.YtdkjcheannehhaaGreatMod05
namespace Go.Proofs.YtdkjcheannehhaaGreat
open Go.RowKit Go.Shelf
attribute [local go_sem] Oper.semAt_some
namespace Mod
open Go.Law Feed Bk
section
variable {w w' : World} {base m t c b : Nat} {S S' : Nat → Prop} {arr : Array Value} {p : Nat → Option Addr} {g : Nat → Nat} {Sk : Nat → Nat → Prop} {a : Mo}
def watchedUpto (a : Mo) (who j : Nat) : Nat := ((List.range j).map fun k => ((a.fd k).wat who).length).sum
theorem watchedUpto_next (a : Mo) (who j : Nat) : watchedUpto a who (j + 1) = watchedUpto a who j + ((a.fd j).wat who).length := by unfold watchedUpto; rw [List.range_succ, List.map_append, List.sum_append]; simp
theorem watchedUpto_le (ho : a.Ok b) {who : Nat} (hw : who < 8) : ∀ {j : Nat}, j ≤ a.n → watchedUpto a who j ≤ j * b
  | 0, _ => by simp [watchedUpto]
  | j + 1, hj => by
    have h1 := watchedUpto_le ho hw (j := j) (by omega)
    have h2 := ho.wat j (by omega) who hw
    rw [watchedUpto_next, Nat.add_mul, Nat.one_mul]
    omega
theorem watchedUpto_small (ho : a.Ok b) (hb : b ≤ 380) {who : Nat} (hw : who < 8) {j : Nat} (hj : j ≤ a.n) : watchedUpto a who j ≤ 3040 :=
  Nat.le_trans (watchedUpto_le ho hw hj) (Nat.mul_le_mul (Nat.le_trans hj ho.n8) hb)
set_option maxRecDepth 100000 in
set_option maxHeartbeats 1000000 in
theorem watched (h : Tab w base S m a) (ho : a.Ok b) (hb : b ≤ 380) {who : Nat} (hw : who < 8) {n : Int} (hn : (a.watched who : Int) = n) :
    Calls Tryz.prog 93 #[.pointer (some ⟨m, 0, none⟩), .int .i64 (who : Int)] w fun e w' => e = .returned (.int .i64 n) ∧ Below w.heap.size w w' := by
  obtain ⟨t, c, arr, p, g, Sk, h⟩ := h
  have c5 : w.cell? ⟨m, 5, none⟩ = some (.slice (some ⟨t, 0, none⟩) a.n c) := h.box.cell' rfl
  have l1 := h.box.lt
  have H := Lib.hid h
  have HO := Lib.hid ho
  have HN : Hid ((watchedUpto a who a.n : Int) = n) := hn
  have hn8 := ho.n8
  clear h ho hn
  go_enter Tryz.func93, Tryz.ntmps93
  go_wp2_with fail
  go_loopw [5, 13] (fun vn vi wr => ∃ j : Nat, j ≤ a.n ∧ vi = .int .i64 j ∧ vn = .int .i64 (watchedUpto a who j : Int) ∧ Below w.heap.size w wr) (fun _ vi _ => a.n - (intOf vi).toNat)
  case atStart => exact ⟨0, Nat.zero_le _, rfl, rfl, Below.refl _ _⟩
  case round =>
    obtain ⟨j, hj, rfl, rfl, hB⟩ := hrel
    have HB := Lib.hid hB
    have H1 := Lib.hid (H.out.below hB)
    have sz := hB.size
    clear hB
    by_cases hlt : j < a.n
    · have d1 : decide ((j : Int) < (a.n : Int)) = true := by simp; omega
      have e0 : World.cell? _ ⟨t, j * 2, none⟩ = some (.pointer (p j)) := (H1.out.row.cell _).trans (H1.out.bkc j hlt)
      have e1 : World.cell? _ ⟨t, j * 2 + 1, none⟩ = some (.pointer (some ⟨g j, 0, none⟩)) := (H1.out.row.cell _).trans (H1.out.fdc j hlt)
      have l2 := H1.out.row.lt
      have HNX := Lib.hid (watchedUpto_next a who j)
      have bb := (Below.refl wr.heap.size wr).alloc (Nat.le_refl _) (.cells #[.pointer (p j), .pointer (some ⟨g j, 0, none⟩)] 79)
      have HK := Lib.hid ((H1.out.feed j hlt).below bb)
      have HB2 := Lib.hid (HB.out.trans (bb.mono sz))
      have hfb := watchedUpto_small HO.out hb hw (j := j) (by omega)
      have hfb2 := watchedUpto_small HO.out hb hw (j := j + 1) (by omega)
      rw [HNX.out] at hfb2
      clear bb
      go_wp2_with fail
      refine (countE HK.out rfl hw rfl).mono ?_
      rintro e w2 ⟨rfl, b2⟩
      have HB3 := Lib.hid (HB2.out.trans (b2.mono HB2.out.size))
      clear b2
      go_wp2_with fail
      go_roundw
      case rel => exact ⟨j + 1, by omega, by go_num, by rw [HNX.out]; go_num, HB3.out⟩
      case measure => simp [intOf]; omega
    · obtain rfl : j = a.n := by omega
      have d1 : decide ((a.n : Int) < (a.n : Int)) = false := by simp
      have HN2 := HN.out
      go_wp2_with fail
      go_ret
      exact ⟨by rw [HN2]; rfl, HB.out⟩
set_option maxRecDepth 100000 in
set_option maxHeartbeats 1000000 in
theorem watch (h : Tab w base S m a) (ho : a.Ok b) (hb : b ≤ 380) {who : Nat} (hw : who < 8) (u : ByteArray) (hu : u.size ≤ maxLen) :
    Calls Tryz.prog 63 #[.pointer (some ⟨m, 0, none⟩), .int .i64 (who : Int), .string u] w (Did w base S m (a.watch who u).1 (a.watch who u).2) := by
  obtain ⟨a', ha'⟩ : ∃ a', (a.watch who u).1 = a' := ⟨_, rfl⟩
  obtain ⟨er, her⟩ : ∃ er, (a.watch who u).2 = er := ⟨_, rfl⟩
  rw [ha', her]
  have HA := Lib.hid ha'
  have HR := Lib.hid her
  clear ha' her
  obtain ⟨t, c, arr, p, g, Sk, h⟩ := h
  have hn1 := ho.n1
  have hn8 := ho.n8
  have HO := Lib.hid ho
  have H := Lib.hid h
  obtain ⟨k, hk⟩ : ∃ k, str u a.n = k := ⟨_, rfl⟩
  have hlt : k < a.n := hk ▸ str_lt u hn1
  have HK := Lib.hid hk
  clear h ho hk
  go_enter Tryz.func63, Tryz.ntmps63
  go_wp2_with fail
  refine (of_ H.out u hu hn1 hn8 HK.out).mono ?_
  rintro e w3 ⟨rfl, b3⟩
  have HT3 := Lib.hid (H.out.below b3)
  have HG3 : Hid (Gone w S w3 S) := Gone.of_below b3
  have l3 := HT3.out.row.lt
  have d1 : w3.cell? ⟨t, k * 2 + 1, none⟩ = some (.pointer (some ⟨g k, 0, none⟩)) := (HT3.out.row.cell _).trans (HT3.out.fdc k hlt)
  have d2 : w3.cell? ⟨m, 1, none⟩ = some (.int .i64 a.lim) := HT3.out.box.cell' rfl
  obtain ⟨bw, hbw⟩ : ∃ bw, (a.fd k).has who u = bw := ⟨_, rfl⟩
  obtain ⟨nn, hnn⟩ : ∃ nn : Int, (a.watched who : Int) = nn := ⟨_, rfl⟩
  have HWE : Hid (a.watch who u = if bw = false ∧ a.lim ≤ nn then (a, 4) else (a.feed1 k { a.fd k with wat := upd (a.fd k).wat who (putK OmapU.lt u 0 ((a.fd k).wat who)) }, 0)) := by show _ = _; unfold Mo.watch; rw [show str u a.n = k from HK.out, hbw, hnn]
  rw [HWE.out] at HA HR
  have hwl := HO.out.wat k hlt who hw
  have bd := Law.below_drewN (Below.refl w3.heap.size w3) 1
  have HT4 : Hid (TabV w3.drew base S m t c arr p g Sk a) := HT3.out.below bd
  have HG4 : Hid (Gone w S w3.drew S) := HG3.out.trans (Gone.of_below bd)
  have d4 : w3.drew.cell? ⟨m, 1, none⟩ = some (.int .i64 a.lim) := d2
  have l4 : m < w3.drew.heap.size := HT4.out.box.lt
  have HBW := Lib.hid hbw
  have HNN := Lib.hid hnn
  clear HWE HT3 HG3 bd hbw hnn
  go_upto_region 2 with (fail)
  cases bw with
  | true =>
    rw [if_neg (fun h => Bool.noConfusion h.1)] at HA HR
    obtain rfl := HA.out
    obtain rfl := HR.out
    refine wp_region_held_drew (S := fun _ => True) (by kernel_rfl) trivial (fun hS0 => ?_)
    refine wpAnyH_take (i := 0) (oi := { dst := some 14, op := .move (.tmp 7), type := _, pos := _, after := _, guard := _ }) (v := .pointer (some ⟨g k, 0, none⟩)) rfl (by kernel_rfl) (by kernel_rfl) (by kernel_rfl) (fun _ _ _ h => h) (Or.inl ⟨by rfl, ?_⟩) hS0 ?_
    · intro w' hSw
      go_simp
    try simp only [Act.put, List.setIfInBounds_toArray, List.set_cons_zero, List.set_cons_succ]
    refine wpAnyH_take (i := 1) (oi := { dst := some 15, op := .move (.tmp 1), type := _, pos := _, after := _, guard := _ }) (v := .int .i64 (who : Int)) rfl (by kernel_rfl) (by kernel_rfl) (by kernel_rfl) (fun _ _ _ h => h) (Or.inl ⟨by rfl, ?_⟩) hS0 ?_
    · intro w' hSw
      go_simp
    try simp only [Act.put, List.setIfInBounds_toArray, List.set_cons_zero, List.set_cons_succ]
    refine wpAnyH_take (i := 2) (oi := { dst := some 16, op := .move (.tmp 2), type := _, pos := _, after := _, guard := _ }) (v := .string u) rfl (by kernel_rfl) (by kernel_rfl) (by kernel_rfl) (fun _ _ _ h => h) (Or.inl ⟨by rfl, ?_⟩) hS0 ?_
    · intro w' hSw
      go_simp
    try simp only [Act.put, List.setIfInBounds_toArray, List.set_cons_zero, List.set_cons_succ]
    generalize w3.drew = w4 at *
    refine wpAnyH_ready (rs := [3]) (by kernel_rfl) (by simp) ?_
    refine AllReadyH.cons (o := { dst := some 17, op := .call { callee := .value (.func 92), args := #[.tmp 14, .tmp 15, .tmp 16], argTypes := _ }, type := _, pos := _, after := _, guard := _ }) rfl (fun K hK => ?_) AllReadyH.nil
    go_simp
    refine Calls.mono (watchingE (k := who) (HT4.out.feed k hlt) rfl hw u HBW.out) ?_
    rintro e w5 ⟨rfl, b5⟩
    have HT5 := Lib.hid (HT4.out.below b5)
    have HG5 := Lib.hid (HG4.out.trans (Gone.of_below b5))
    go_wp2_with fail
    refine hK.out _ _ trivial (fun hS1 => ?_)
    clear hK K
    try simp only [Act.put, List.setIfInBounds_toArray, List.set_cons_zero, List.set_cons_succ]
    refine wpAnyH_take (i := 4) (oi := { dst := some 18, op := .unOp .not 4 (.tmp 17), type := _, pos := _, after := _, guard := _ }) (v := .bool false) rfl (by kernel_rfl) (by kernel_rfl) (by kernel_rfl) (fun _ _ _ h => h) (Or.inl ⟨by rfl, ?_⟩) hS1 ?_
    · intro w' hSw
      go_simp
    try simp only [Act.put, List.setIfInBounds_toArray, List.set_cons_zero, List.set_cons_succ]
    refine wpAnyH_take (i := 5) (oi := { dst := some 19, op := .move (.tmp 18), type := _, pos := _, after := _, guard := _ }) (v := .bool false) rfl (by kernel_rfl) (by kernel_rfl) (by kernel_rfl) (fun _ _ _ h => h) (Or.inl ⟨by rfl, ?_⟩) hS1 ?_
    · intro w' hSw
      go_simp
    try simp only [Act.put, List.setIfInBounds_toArray, List.set_cons_zero, List.set_cons_succ]
    refine wpAnyH_take (i := 6) (oi := { dst := some 20, op := .move (.tmp 0), type := _, pos := _, after := _, guard := _ }) (v := undef) rfl (by kernel_rfl) (by kernel_rfl) (by kernel_rfl) (fun _ _ _ h => h) (Or.inr ⟨by rfl, rfl⟩) hS1 ?_
    try simp only [Act.put, List.setIfInBounds_toArray, List.set_cons_zero, List.set_cons_succ]
    refine wpAnyH_take (i := 7) (oi := { dst := some 21, op := .move (.tmp 1), type := _, pos := _, after := _, guard := _ }) (v := undef) rfl (by kernel_rfl) (by kernel_rfl) (by kernel_rfl) (fun _ _ _ h => h) (Or.inr ⟨by rfl, rfl⟩) hS1 ?_
    try simp only [Act.put, List.setIfInBounds_toArray, List.set_cons_zero, List.set_cons_succ]
    refine wpAnyH_take (i := 8) (oi := { dst := some 22, op := .call _, type := _, pos := _, after := _, guard := _ }) (v := undef) rfl (by kernel_rfl) (by kernel_rfl) (by kernel_rfl) (fun _ _ _ h => h) (Or.inr ⟨by rfl, rfl⟩) hS1 ?_
    try simp only [Act.put, List.setIfInBounds_toArray, List.set_cons_zero, List.set_cons_succ]
    refine wpAnyH_take (i := 9) (oi := { dst := some 23, op := .move (.tmp 0), type := _, pos := _, after := _, guard := _ }) (v := undef) rfl (by kernel_rfl) (by kernel_rfl) (by kernel_rfl) (fun _ _ _ h => h) (Or.inr ⟨by rfl, rfl⟩) hS1 ?_
    try simp only [Act.put, List.setIfInBounds_toArray, List.set_cons_zero, List.set_cons_succ]
    refine wpAnyH_take (i := 10) (oi := { dst := some 24, op := .nilCheck (.tmp 23), type := _, pos := _, after := _, guard := _ }) (v := undef) rfl (by kernel_rfl) (by kernel_rfl) (by kernel_rfl) (fun _ _ _ h => h) (Or.inr ⟨by rfl, rfl⟩) hS1 ?_
    try simp only [Act.put, List.setIfInBounds_toArray, List.set_cons_zero, List.set_cons_succ]
    refine wpAnyH_take (i := 11) (oi := { dst := some 25, op := .fieldAddr 72 (.tmp 24) 1, type := _, pos := _, after := _, guard := _ }) (v := undef) rfl (by kernel_rfl) (by kernel_rfl) (by kernel_rfl) (fun _ _ _ h => h) (Or.inr ⟨by rfl, rfl⟩) hS1 ?_
    try simp only [Act.put, List.setIfInBounds_toArray, List.set_cons_zero, List.set_cons_succ]
    refine wpAnyH_take (i := 12) (oi := { dst := some 26, op := .load 3 (.tmp 25), type := _, pos := _, after := _, guard := _ }) (v := undef) rfl (by kernel_rfl) (by kernel_rfl) (by kernel_rfl) (fun _ _ _ h => h) (Or.inr ⟨by rfl, rfl⟩) hS1 ?_
    try simp only [Act.put, List.setIfInBounds_toArray, List.set_cons_zero, List.set_cons_succ]
    refine wpAnyH_take (i := 13) (oi := { dst := some 27, op := .binOp .geq 3 (.tmp 22) (.tmp 26) 3, type := _, pos := _, after := _, guard := _ }) (v := undef) rfl (by kernel_rfl) (by kernel_rfl) (by kernel_rfl) (fun _ _ _ h => h) (Or.inr ⟨by rfl, rfl⟩) hS1 ?_
    try simp only [Act.put, List.setIfInBounds_toArray, List.set_cons_zero, List.set_cons_succ]
    refine wpAnyH_take (i := 14) (oi := { dst := some 28, op := .pick (.tmp 19) (.tmp 27) (.const (.bool false)), type := _, pos := _, after := _, guard := _ }) (v := .bool false) rfl (by kernel_rfl) (by kernel_rfl) (by kernel_rfl) (fun _ _ _ h => h) (Or.inl ⟨by rfl, ?_⟩) hS1 ?_
    · intro w' hSw
      go_simp
    try simp only [Act.put, List.setIfInBounds_toArray, List.set_cons_zero, List.set_cons_succ]
    refine wpAnyH_done (by kernel_rfl) ?_ _
    go_wp2_with fail
    refine (watchE (k := who) (HT5.out.feed k hlt) rfl hw u (by omega) rfl).mono ?_
    rintro e w7 ⟨rfl, hF, hW⟩
    have HT7 := Lib.hid (HT5.out.tell hlt hF hW)
    clear hF hW
    go_wp2_with fail
    go_ret
    exact ⟨rfl, _, ⟨_, _, _, _, _, _, HT7.out.1⟩, HG5.out.trans HT7.out.2⟩
  | false =>
    refine wp_region_held_drew (S := fun w' => w'.cell? ⟨m, 1, none⟩ = some (.int .i64 a.lim) ∧ m < w'.heap.size) (by kernel_rfl) ⟨d4, l4⟩ (fun hS0 => ?_)
    refine wpAnyH_take (i := 0) (oi := { dst := some 14, op := .move (.tmp 7), type := _, pos := _, after := _, guard := _ }) (v := .pointer (some ⟨g k, 0, none⟩)) rfl (by kernel_rfl) (by kernel_rfl) (by kernel_rfl) (fun _ _ _ h => h) (Or.inl ⟨by rfl, ?_⟩) hS0 ?_
    · intro w' hSw
      go_simp
    try simp only [Act.put, List.setIfInBounds_toArray, List.set_cons_zero, List.set_cons_succ]
    refine wpAnyH_take (i := 1) (oi := { dst := some 15, op := .move (.tmp 1), type := _, pos := _, after := _, guard := _ }) (v := .int .i64 (who : Int)) rfl (by kernel_rfl) (by kernel_rfl) (by kernel_rfl) (fun _ _ _ h => h) (Or.inl ⟨by rfl, ?_⟩) hS0 ?_
    · intro w' hSw
      go_simp
    try simp only [Act.put, List.setIfInBounds_toArray, List.set_cons_zero, List.set_cons_succ]
    refine wpAnyH_take (i := 2) (oi := { dst := some 16, op := .move (.tmp 2), type := _, pos := _, after := _, guard := _ }) (v := .string u) rfl (by kernel_rfl) (by kernel_rfl) (by kernel_rfl) (fun _ _ _ h => h) (Or.inl ⟨by rfl, ?_⟩) hS0 ?_
    · intro w' hSw
      go_simp
    try simp only [Act.put, List.setIfInBounds_toArray, List.set_cons_zero, List.set_cons_succ]
    generalize w3.drew = w4 at *
    refine wpAnyH_ready (rs := [3]) (by kernel_rfl) (by simp) ?_
    refine AllReadyH.cons (o := { dst := some 17, op := .call { callee := .value (.func 92), args := #[.tmp 14, .tmp 15, .tmp 16], argTypes := _ }, type := _, pos := _, after := _, guard := _ }) rfl (fun K hK => ?_) AllReadyH.nil
    go_simp
    refine Calls.mono (watchingE (k := who) (HT4.out.feed k hlt) rfl hw u HBW.out) ?_
    rintro e w5 ⟨rfl, b5⟩
    have HT5 := Lib.hid (HT4.out.below b5)
    have HG5 := Lib.hid (HG4.out.trans (Gone.of_below b5))
    go_wp2_with fail
    refine hK.out _ _ ⟨(b5.cell (p := ⟨m, 1, none⟩) l4).trans d4, Nat.lt_of_lt_of_le l4 b5.size⟩ (fun hS1 => ?_)
    clear hK K
    try simp only [Act.put, List.setIfInBounds_toArray, List.set_cons_zero, List.set_cons_succ]
    refine wpAnyH_take (i := 4) (oi := { dst := some 18, op := .unOp .not 4 (.tmp 17), type := _, pos := _, after := _, guard := _ }) (v := .bool true) rfl (by kernel_rfl) (by kernel_rfl) (by kernel_rfl) (fun _ _ _ h => h) (Or.inl ⟨by rfl, ?_⟩) hS1 ?_
    · intro w' hSw
      go_simp
    try simp only [Act.put, List.setIfInBounds_toArray, List.set_cons_zero, List.set_cons_succ]
    refine wpAnyH_take (i := 5) (oi := { dst := some 19, op := .move (.tmp 18), type := _, pos := _, after := _, guard := _ }) (v := .bool true) rfl (by kernel_rfl) (by kernel_rfl) (by kernel_rfl) (fun _ _ _ h => h) (Or.inl ⟨by rfl, ?_⟩) hS1 ?_
    · intro w' hSw
      go_simp
    try simp only [Act.put, List.setIfInBounds_toArray, List.set_cons_zero, List.set_cons_succ]
    refine wpAnyH_take (i := 6) (oi := { dst := some 20, op := .move (.tmp 0), type := _, pos := _, after := _, guard := _ }) (v := .pointer (some ⟨m, 0, none⟩)) rfl (by kernel_rfl) (by kernel_rfl) (by kernel_rfl) (fun _ _ _ h => h) (Or.inl ⟨by rfl, ?_⟩) hS1 ?_
    · intro w' hSw
      go_simp
    try simp only [Act.put, List.setIfInBounds_toArray, List.set_cons_zero, List.set_cons_succ]
    refine wpAnyH_take (i := 7) (oi := { dst := some 21, op := .move (.tmp 1), type := _, pos := _, after := _, guard := _ }) (v := .int .i64 (who : Int)) rfl (by kernel_rfl) (by kernel_rfl) (by kernel_rfl) (fun _ _ _ h => h) (Or.inl ⟨by rfl, ?_⟩) hS1 ?_
    · intro w' hSw
      go_simp
    try simp only [Act.put, List.setIfInBounds_toArray, List.set_cons_zero, List.set_cons_succ]
    refine wpAnyH_take (i := 9) (oi := { dst := some 23, op := .move (.tmp 0), type := _, pos := _, after := _, guard := _ }) (v := .pointer (some ⟨m, 0, none⟩)) rfl (by kernel_rfl) (by kernel_rfl) (by kernel_rfl) (fun _ _ _ h => h) (Or.inl ⟨by rfl, ?_⟩) hS1 ?_
    · intro w' hSw
      go_simp
    try simp only [Act.put, List.setIfInBounds_toArray, List.set_cons_zero, List.set_cons_succ]
    refine wpAnyH_take (i := 10) (oi := { dst := some 24, op := .nilCheck (.tmp 23), type := _, pos := _, after := _, guard := _ }) (v := .pointer (some ⟨m, 0, none⟩)) rfl (by kernel_rfl) (by kernel_rfl) (by kernel_rfl) (fun _ _ _ h => h) (Or.inl ⟨by rfl, ?_⟩) hS1 ?_
    · intro w' hSw
      go_simp
    try simp only [Act.put, List.setIfInBounds_toArray, List.set_cons_zero, List.set_cons_succ]
    refine wpAnyH_take (i := 11) (oi := { dst := some 25, op := .fieldAddr 72 (.tmp 24) 1, type := _, pos := _, after := _, guard := _ }) (v := .pointer (some ⟨m, 1, none⟩)) rfl (by kernel_rfl) (by kernel_rfl) (by kernel_rfl) (fun _ _ _ h => h) (Or.inl ⟨by rfl, ?_⟩) hS1 ?_
    · intro w' hSw
      go_simp
    try simp only [Act.put, List.setIfInBounds_toArray, List.set_cons_zero, List.set_cons_succ]
    refine wpAnyH_take (i := 12) (oi := { dst := some 26, op := .load 3 (.tmp 25), type := _, pos := _, after := _, guard := _ }) (v := .int .i64 a.lim) rfl (by kernel_rfl) (by kernel_rfl) (by kernel_rfl) (fun _ _ _ h => h) (Or.inl ⟨by rfl, ?_⟩) hS1 ?_
    · intro w' hSw
      obtain ⟨s1, s2⟩ := hSw
      go_simp
    try simp only [Act.put, List.setIfInBounds_toArray, List.set_cons_zero, List.set_cons_succ]
    refine wpAnyH_ready (rs := [8]) (by kernel_rfl) (by simp) ?_
    refine AllReadyH.cons (o := { dst := some 22, op := .call { callee := .value (.func 93), args := #[.tmp 20, .tmp 21], argTypes := _ }, type := _, pos := _, after := _, guard := _ }) rfl (fun K hK => ?_) AllReadyH.nil
    go_simp
    refine Calls.mono (watched ⟨_, _, _, _, _, _, HT5.out⟩ HO.out hb hw HNN.out) ?_
    rintro e w6 ⟨rfl, b6⟩
    have HT6 := Lib.hid (HT5.out.below b6)
    have HG6 := Lib.hid (HG5.out.trans (Gone.of_below b6))
    go_wp2_with fail
    refine hK.out _ _ ⟨(b6.cell (p := ⟨m, 1, none⟩) hS1.2).trans hS1.1, Nat.lt_of_lt_of_le hS1.2 b6.size⟩ (fun hS2 => ?_)
    clear hK K
    try simp only [Act.put, List.setIfInBounds_toArray, List.set_cons_zero, List.set_cons_succ]
    refine wpAnyH_take (i := 13) (oi := { dst := some 27, op := .binOp .geq 3 (.tmp 22) (.tmp 26) 3, type := _, pos := _, after := _, guard := _ }) (v := .bool (decide (a.lim ≤ nn))) rfl (by kernel_rfl) (by kernel_rfl) (by kernel_rfl) (fun _ _ _ h => h) (Or.inl ⟨by rfl, ?_⟩) hS2 ?_
    · intro w' hSw
      go_simp
    try simp only [Act.put, List.setIfInBounds_toArray, List.set_cons_zero, List.set_cons_succ]
    refine wpAnyH_take (i := 14) (oi := { dst := some 28, op := .pick (.tmp 19) (.tmp 27) (.const (.bool false)), type := _, pos := _, after := _, guard := _ }) (v := .bool (decide (a.lim ≤ nn))) rfl (by kernel_rfl) (by kernel_rfl) (by kernel_rfl) (fun _ _ _ h => h) (Or.inl ⟨by rfl, ?_⟩) hS2 ?_
    · intro w' hSw
      go_simp
    try simp only [Act.put, List.setIfInBounds_toArray, List.set_cons_zero, List.set_cons_succ]
    refine wpAnyH_done (by kernel_rfl) ?_ _
    by_cases hlim : a.lim ≤ nn
    · have dl : decide (a.lim ≤ nn) = true := by simpa using hlim
      rw [if_pos (by simpa using hlim)] at HA HR
      obtain rfl := HA.out
      obtain rfl := HR.out
      rw [dl]
      go_wp2_with fail
      go_ret
      exact ⟨rfl, S, ⟨_, _, _, _, _, _, HT6.out⟩, HG6.out⟩
    · have dl : decide (a.lim ≤ nn) = false := by simpa using hlim
      rw [if_neg (by simpa using hlim)] at HA HR
      obtain rfl := HA.out
      obtain rfl := HR.out
      rw [dl]
      go_wp2_with fail
      refine (watchE (k := who) (HT6.out.feed k hlt) rfl hw u (by omega) rfl).mono ?_
      rintro e w7 ⟨rfl, hF, hW⟩
      have HT7 := Lib.hid (HT6.out.tell hlt hF hW)
      clear hF hW
      go_wp2_with fail
      go_ret
      exact ⟨rfl, _, ⟨_, _, _, _, _, _, HT7.out.1⟩, HG6.out.trans HT7.out.2⟩
end
end Mod
end Go.Proofs.YtdkjcheannehhaaGreat

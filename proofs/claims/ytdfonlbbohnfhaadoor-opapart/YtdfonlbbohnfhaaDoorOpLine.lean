/-
  An op's line (layer 11).
-/
import Derived.Test.YtdfonlbbohnfhaaDoorOpTxt
import Derived.Test.YtdfonlbbohnfhaaDoorOpWL
import Derived.Deep.RegionHeld
namespace Go.Proofs.YtdfonlbbohnfhaaDoor
open Go.RowKit Go.Shelf Go.Lib
attribute [local go_sem] Oper.semAt_some
namespace Opx
open Go.Law
def kindB (k : Int) : ByteArray := if 0 ≤ k ∧ k < 10 then nameL.getD k.toNat ⟨#[]⟩ else ⟨#[]⟩
/-- an op's line -/
def lineB (q : OpW) : ByteArray :=
  if q.kind = 1 then joinB [kindB 1, quoteB q.user, intB q.id, intB q.st, intB q.pr, decB q.ttl.toNat]
  else if q.kind = 2 then joinB [kindB 2, quoteB q.user, intB q.id, decB q.ttl.toNat]
  else if q.kind = 3 then joinB [kindB 3, quoteB q.user, intB q.id]
  else if q.kind = 4 ∨ q.kind = 6 ∨ q.kind = 7 then joinB [kindB q.kind, quoteB q.user]
  else if q.kind = 5 then joinB (kindB 5 :: q.us.map quoteB)
  else if q.kind = 8 ∨ q.kind = 9 then kindB q.kind
  else ⟨#[98, 97, 100]⟩
theorem seq_new (w : World) (t : TypeId) (xs : List ByteArray) : ∀ (j : Nat) x, xs[j]? = some x → (w.alloc (.cells (xs.map Value.string).toArray t)).cell? ⟨w.heap.size, 0 + j, none⟩ = some (.string x) := fun j x hj => by
  have h := (Is.new w t (xs.map Value.string).toArray (g := w.heap.size) rfl).cell (0 + j)
  rw [h]
  simp [hj]
theorem join_le (xs : List ByteArray) (n : Nat) (h : ∀ x ∈ xs, x.size ≤ n) : (joinB xs).size ≤ xs.length * (n + 1) := by
  have aux : ∀ l : List (List UInt8), (∀ x ∈ l, x.length ≤ n) → (Lib.join l [32]).length ≤ l.length * (n + 1) := fun l => by
    induction l with
    | nil => intro _; exact Nat.zero_le _
    | cons x r ih =>
      intro hx
      have h1 := ih fun y hy => hx y (by simp [hy])
      have h2 := hx x (by simp)
      cases r with
      | nil =>
        have e : Lib.join [x] [32] = x := by simp [Lib.join, List.intercalate]
        rw [e]
        simp only [List.length_cons, List.length_nil]
        omega
      | cons y r' =>
        have e : Lib.join (x :: y :: r') [32] = x ++ ([32] ++ Lib.join (y :: r') [32]) := by simp [Lib.join, List.intercalate]
        rw [e]
        simp only [List.length_append, List.length_cons, List.length_nil] at h1 ⊢
        rw [Nat.add_mul, Nat.one_mul]
        omega
  have h1 := aux (xs.map (·.data.toList)) (fun x hx => by
    obtain ⟨y, hy, rfl⟩ := List.mem_map.1 hx
    show y.data.toList.length ≤ n
    rw [Array.length_toList]
    exact h y hy)
  have e : (joinB xs).size = (Lib.join (xs.map (·.data.toList)) [32]).length := by show (Lib.join (xs.map (·.data.toList)) [32]).toArray.size = _; simp
  rw [e]
  simpa using h1
theorem decDigits_len (u : Nat) (hu : u < 18446744073709551616) : (Lib.decDigits u).length ≤ 20 := by
  rw [Lib.decDigits_length]
  by_cases h1 : 1 ≤ u
  · have := Lib.numDigits_eq u h1 hu; split at this <;> omega
  · obtain rfl : u = 0 := by omega
    decide +kernel
theorem decB_size (u : Nat) (hu : u < 18446744073709551616) : (decB u).size ≤ 21 := by
  show (Lib.decDigits u).toArray.size ≤ 21
  have := decDigits_len u hu
  simp; omega
theorem intB_size (n : Int) (h : -9223372036854775808 ≤ n ∧ n ≤ 9223372036854775807) : (intB n).size ≤ 21 := by
  show (Lib.itoa n).toArray.size ≤ 21
  unfold Lib.itoa
  split
  · have := decDigits_len n.natAbs (by omega); simp; omega
  · have := decDigits_len n.toNat (by omega); simp; omega
theorem kindB_size (k : Int) : (kindB k).size ≤ 7 := by
  unfold kindB
  split
  · rename_i h
    obtain ⟨i, rfl⟩ := Int.eq_ofNat_of_zero_le h.1
    have hi : i < 10 := by omega
    have : ∀ i, i < 10 → (nameL.getD i ⟨#[]⟩).size ≤ 7 := by decide +kernel
    exact this i hi
  · decide
theorem own_one (w : World) {base : Nat} (e : TypeId) (v : Value) (hb : base ≤ w.heap.size) : (w.alloc (.cells #[v] e)).ownsRow base e 1 (.slice (some ⟨w.heap.size, 0, none⟩) 1 1) 1 [v] :=
  ⟨rfl, .inr ⟨w.heap.size, 1, #[v], rfl, hb, heap_alloc_new w _, Nat.le_refl _, by unfold maxLen; omega, rfl, rfl⟩⟩
theorem one_strv (s : ByteArray) : ∀ u ∈ [Value.string s], u.oneCell' = true := fun u hu => by obtain rfl := List.mem_singleton.1 hu; rfl
theorem elemS : ∃ i, Law.Elem Tryd.prog 23 9 i (.string .empty) 1 16 := Law.Elem.of Tryd.underlying23 (by kernel_rfl) rfl (by decide)
set_option maxRecDepth 100000 in
set_option maxHeartbeats 2000000 in
theorem batch (nm : ByteArray) (us : List ByteArray) (A : Option Addr) (c : Nat) (w : World) (hs : Seq w 0 w.heap.size A (us.map .string)) (hl : us.length ≤ 20) (hu : ∀ u ∈ us, u.size ≤ 40) (hn : nm.size ≤ 7) (hT : Tabs w) :
    Calls Tryd.prog 17 #[.string nm, .slice A us.length c] w fun e w' => e = .returned (.string (joinB (nm :: us.map quoteB))) ∧ Below w.heap.size w w' := by
  have HS := Lib.hid hs
  have HU := Lib.hid hu
  have HT := Lib.hid hT
  have bb := (Below.refl w.heap.size w).alloc (Nat.le_refl _) (.cells #[.string nm] 9)
  have HO := Lib.hid (own_one w (base := w.heap.size) 9 (.string nm) (Nat.le_refl _))
  have HB := Lib.hid bb
  obtain ⟨i1, hE1⟩ := elemS
  have HE1 := Lib.hid hE1
  clear hs hu hT bb hE1
  go_enter Tryd.func17, Tryd.ntmps17
  go_wp2_with fail
  generalize w.alloc (.cells #[.string nm] 9) = w1 at *
  go_loopw [5, 12] (fun vt vi wr => ∃ (j : Nat) (D : Option Addr) (cap : Nat), j ≤ us.length ∧ vi = .int .i64 j ∧ vt = .slice D (j + 1) cap ∧ wr.ownsRow w.heap.size 9 1 (.slice D (j + 1) cap) (j + 1) ((nm :: (us.take j).map quoteB).map .string) ∧ Below w.heap.size w wr) (fun _ vi _ => us.length - (RowKit.intOf vi).toNat)
  case atStart => exact ⟨0, _, _, Nat.zero_le _, rfl, rfl, HO.out, HB.out⟩
  case round =>
    clear HO HB
    obtain ⟨j, D, cap, hj, rfl, rfl, hO, hB⟩ := hrel
    have HO := Lib.hid hO
    have HB := Lib.hid hB
    have sz := hB.size
    clear hO hB
    by_cases hlt : j < us.length
    · have d1 : decide ((j : Int) < (us.length : Int)) = true := by simp; omega
      obtain ⟨b, off, rfl, _, hb, c0⟩ := (HS.out.below HB.out).str hlt
      have lb : b < wr.heap.size := Nat.lt_of_lt_of_le hb sz
      have hu40 := HU.out _ (List.getElem_mem hlt)
      have HTK := Lib.hid (List.take_succ_eq_append_getElem hlt)
      generalize us[j] = u at *
      go_wp2_with fail
      refine (quote u (by omega) wr (HT.out.below HB.out)).mono ?_
      rintro e w2 ⟨rfl, b2⟩
      have HB2 := Lib.hid (HB.out.trans (b2.mono sz))
      have HO2 := Lib.hid (own_below HO.out b2)
      have sz2 := HB2.out.size
      clear b2 HO HB c0
      go_wp2_with (at_builtin; refine wpList_append_own _ rfl _ _ 23 rfl w.heap.size 9 i1 (.string ⟨#[]⟩) 1 16 HE1.out.ut HE1.out.info HE1.out.zero HE1.out.sz HE1.out.by_ HE1.out.cells HE1.out.pos _ _ _ rfl (HO2.out.alloc _) ⟨w2.heap.size, 0, none⟩ 1 1 [.string (quoteB u)] rfl rfl (Law.new_one _ _ _) (one_strv _) (by unfold maxLen; omega) (by omega) (by simp; omega) ?_; intro v' w3 hown hg _; have HR3 := Lib.hid hown; have HB3 := Lib.hid ((HB2.out.alloc sz2 _).grown hg (by simp; omega) (fun g hg => (HO2.out.lt g hg).1)); obtain ⟨D', cap', rfl, _⟩ := own_shape hown; clear hown hg)
      go_roundw
      case rel => exact ⟨j + 1, _, _, by omega, by go_num, rfl, by rw [HTK.out]; simpa using HR3.out, HB3.out⟩
      case measure => simp [RowKit.intOf]; omega
    · obtain rfl : j = us.length := by omega
      have d1 : decide ((us.length : Int) < (us.length : Int)) = false := by simp
      rw [List.take_of_length_le (Nat.le_refl _)] at HO
      obtain ⟨g, hD, hgl⟩ : ∃ g, D = some ⟨g, 0, none⟩ ∧ g < wr.heap.size := by
        rcases HO.out.2 with ⟨h1, _⟩ | ⟨g, cap', cur, h1, _, h2, _⟩
        · cases h1
        · refine ⟨g, by cases h1; rfl, ?_⟩
          exact (Array.getElem?_eq_some_iff.1 h2).1
      subst hD
      have hc : us.length + 1 ≤ cap := by obtain ⟨_, _, h1, h2⟩ := own_shape HO.out; cases h1; exact h2
      have hcell : ∀ (j : Nat) x, (nm :: us.map quoteB)[j]? = some x → wr.cell? ⟨g, 0 + j, none⟩ = some (.string x) := fun j x hj => by
        have h1 := HO.out.cells (g := g) (by simp [Value.ownBlock]) j (.string x) (by rw [List.getElem?_map, hj]; rfl)
        by_cases hj0 : j = 0 <;> simpa [Addr.add, hj0] using h1
      have HC := Lib.hid hcell
      have hsz : (joinB (nm :: us.map quoteB)).size ≤ 140737488355328 := by
        refine Nat.le_trans (join_le _ 1000 fun x hx => ?_) (by simp; omega)
        rcases List.mem_cons.1 hx with rfl | hx
        · omega
        · obtain ⟨u, hu, rfl⟩ := List.mem_map.1 hx
          have := quoteB_size u
          have := HU.out u hu
          omega
      have HW := Lib.hid (words (nm :: us.map quoteB) g 0 cap wr HC.out hgl (by simp; omega) (by simpa using hc) hsz)
      rw [List.length_cons, List.length_map] at HW
      clear hcell
      go_wp2_with fail
      refine HW.out.mono ?_
      rintro e w2 ⟨rfl, b2⟩
      have HB2 := Lib.hid (HB.out.trans (b2.mono sz))
      clear b2
      go_wp2_with fail
      go_ret
      exact ⟨rfl, HB2.out⟩
set_option maxRecDepth 100000 in
set_option maxHeartbeats 4000000 in
theorem line (q : OpW) (hs : shortB q = true) (w : World) (hq : q.In w) (hT : Tabs w) :
    Calls Tryd.prog 7 #[.agg q.box] w fun e w' => e = .returned (.string (lineB q)) ∧ Below w.heap.size w w' := by
  obtain ⟨kind, user, id, st, pr, ttl, A, c, us⟩ := q
  have hu40 : user.size ≤ 40 := by simp [shortB] at hs; omega
  have hU := quoteB_size user
  have hI := intB_size id hq.id
  have hS := intB_size st hq.st
  have hP := intB_size pr hq.pr
  obtain ⟨tt, htt⟩ := Int.eq_ofNat_of_zero_le hq.ttl.1
  simp only at htt
  subst htt
  have htl : tt < 18446744073709551616 := by have := hq.ttl.2; simp only at this; omega
  have hD := decB_size tt htl
  have bb := (Below.refl w.heap.size w).alloc (Nat.le_refl _) (.cells #[.int .i64 kind, .string user, .int .i64 id, .int .i64 st, .int .i64 pr, .int .u64 (tt : Int), .slice A us.length c] 25)
  have HX := Lib.hid (Is.new w 25 #[.int .i64 kind, .string user, .int .i64 id, .int .i64 st, .int .i64 pr, .int .u64 (tt : Int), .slice A us.length c] rfl)
  have HIN := Lib.hid (hq.below bb)
  have HB := Lib.hid bb
  have HTb := Lib.hid (hT.below bb)
  have hK7 := kindB_size kind
  have hq0 := hq
  clear hq hT bb
  have HN : ∀ W, Tabs W → Calls Tryd.prog 12 #[.int .i64 kind] W fun e w' => e = .returned (.string (kindB kind)) ∧ Below W.heap.size W w' := fun W h => name_ kind W h rfl
  have HNm := Lib.hid HN
  clear HN
  go_enter Tryd.func7, Tryd.ntmps7
  go_wp2_with fail
  generalize (w.alloc (.cells #[.int .i64 kind, .string user, .int .i64 id, .int .i64 st, .int .i64 pr, .int .u64 (tt : Int), .slice A us.length c] 25)) = w1 at *
  have x0 : w1.cell? ⟨w.heap.size, 0, none⟩ = some (.int .i64 kind) := HX.out.cell' rfl
  have lx := HX.out.lt
  refine (HNm.out w1 HTb.out).mono ?_
  rintro e w2 ⟨rfl, b2⟩
  have HX2 := Lib.hid (HX.out.below b2 HX.out.lt)
  have HB2 := Lib.hid (HB.out.trans (b2.mono HB.out.size))
  have HT2 := Lib.hid (HTb.out.below b2)
  have HIN2 := Lib.hid (HIN.out.below b2)
  clear b2 HX HB HTb HIN HNm x0 lx
  have x0 : w2.cell? ⟨w.heap.size, 0, none⟩ = some (.int .i64 kind) := HX2.out.cell' rfl
  have x1 : w2.cell? ⟨w.heap.size, 1, none⟩ = some (.string user) := HX2.out.cell' rfl
  have x2 : w2.cell? ⟨w.heap.size, 2, none⟩ = some (.int .i64 id) := HX2.out.cell' rfl
  have x3 : w2.cell? ⟨w.heap.size, 3, none⟩ = some (.int .i64 st) := HX2.out.cell' rfl
  have x4 : w2.cell? ⟨w.heap.size, 4, none⟩ = some (.int .i64 pr) := HX2.out.cell' rfl
  have x5 : w2.cell? ⟨w.heap.size, 5, none⟩ = some (.int .u64 (tt : Int)) := HX2.out.cell' rfl
  have x6 : w2.cell? ⟨w.heap.size, 6, none⟩ = some (.slice A us.length c) := HX2.out.cell' rfl
  have lx := HX2.out.lt
  have lx0 : w.heap.size ≤ w.heap.size := Nat.le_refl _
  have HI := Lib.hid hq0.id
  have HSt := Lib.hid hq0.st
  have HPr := Lib.hid hq0.pr
  by_cases h1 : kind = 1
  · have e1 : (kind == 1) = true := by simpa using h1
    have HL : Hid (lineB ⟨kind, user, id, st, pr, (tt : Int), A, c, us⟩ = joinB [kindB kind, quoteB user, intB id, intB st, intB pr, decB tt]) := by show _ = _; unfold lineB; simp [h1]
    clear h1
    go_wp2_with fail
    refine wp_region_held_drew (S := fun w' => w'.cell? ⟨w.heap.size, 1, none⟩ = some (.string user) ∧ w'.cell? ⟨w.heap.size, 2, none⟩ = some (.int .i64 id) ∧ w'.cell? ⟨w.heap.size, 3, none⟩ = some (.int .i64 st) ∧ w'.cell? ⟨w.heap.size, 4, none⟩ = some (.int .i64 pr) ∧ w'.cell? ⟨w.heap.size, 5, none⟩ = some (.int .u64 (tt : Int))) (by kernel_rfl) ⟨x1, x2, x3, x4, x5⟩ (fun hS0 => ?_)
    refine Go.Law.tk 0 ⟨some 11, .move (.tmp 3), _, _, _, _⟩ (v := .string (kindB kind)) hS0 ?_ ?_
    · intro w' hSw
      go_simp
    try simp only [Go.Law.pz]
    refine Go.Law.tk 1 ⟨some 12, .fieldAddr 25 (.tmp 1) 1, _, _, _, _⟩ (v := .pointer (some ⟨w.heap.size, 1, none⟩)) hS0 ?_ ?_
    · intro w' hSw
      go_simp
    try simp only [Go.Law.pz]
    refine Go.Law.tk 2 ⟨some 13, .load 9 (.tmp 12), _, _, _, _⟩ (v := .string user) hS0 ?_ ?_
    · intro w' hSw
      obtain ⟨s1', s2', s3', s4', s5'⟩ := hSw
      go_simp
    try simp only [Go.Law.pz]
    refine Go.Law.tk 4 ⟨some 15, .fieldAddr 25 (.tmp 1) 2, _, _, _, _⟩ (v := .pointer (some ⟨w.heap.size, 2, none⟩)) hS0 ?_ ?_
    · intro w' hSw
      go_simp
    try simp only [Go.Law.pz]
    refine Go.Law.tk 5 ⟨some 16, .load 3 (.tmp 15), _, _, _, _⟩ (v := .int .i64 id) hS0 ?_ ?_
    · intro w' hSw
      obtain ⟨s1', s2', s3', s4', s5'⟩ := hSw
      go_simp
    try simp only [Go.Law.pz]
    refine Go.Law.tk 7 ⟨some 18, .fieldAddr 25 (.tmp 1) 3, _, _, _, _⟩ (v := .pointer (some ⟨w.heap.size, 3, none⟩)) hS0 ?_ ?_
    · intro w' hSw
      go_simp
    try simp only [Go.Law.pz]
    refine Go.Law.tk 8 ⟨some 19, .load 3 (.tmp 18), _, _, _, _⟩ (v := .int .i64 st) hS0 ?_ ?_
    · intro w' hSw
      obtain ⟨s1', s2', s3', s4', s5'⟩ := hSw
      go_simp
    try simp only [Go.Law.pz]
    refine Go.Law.tk 10 ⟨some 21, .fieldAddr 25 (.tmp 1) 4, _, _, _, _⟩ (v := .pointer (some ⟨w.heap.size, 4, none⟩)) hS0 ?_ ?_
    · intro w' hSw
      go_simp
    try simp only [Go.Law.pz]
    refine Go.Law.tk 11 ⟨some 22, .load 3 (.tmp 21), _, _, _, _⟩ (v := .int .i64 pr) hS0 ?_ ?_
    · intro w' hSw
      obtain ⟨s1', s2', s3', s4', s5'⟩ := hSw
      go_simp
    try simp only [Go.Law.pz]
    refine Go.Law.tk 13 ⟨some 24, .fieldAddr 25 (.tmp 1) 5, _, _, _, _⟩ (v := .pointer (some ⟨w.heap.size, 5, none⟩)) hS0 ?_ ?_
    · intro w' hSw
      go_simp
    try simp only [Go.Law.pz]
    refine Go.Law.tk 14 ⟨some 25, .load 22 (.tmp 24), _, _, _, _⟩ (v := .int .u64 (tt : Int)) hS0 ?_ ?_
    · intro w' hSw
      obtain ⟨s1', s2', s3', s4', s5'⟩ := hSw
      go_simp
    try simp only [Go.Law.pz]
    have HX3 : Hid (Is w2.drew w.heap.size 25 #[.int .i64 kind, .string user, .int .i64 id, .int .i64 st, .int .i64 pr, .int .u64 (tt : Int), .slice A us.length c]) := HX2.out.drewN 1
    have HB3 := Lib.hid (Law.below_drewN HB2.out 1)
    have HT3 := Lib.hid (HT2.out.below (Law.below_drewN (Below.refl _ w2) 1))
    skip
    refine wpAnyH_ready (rs := [3]) (by kernel_rfl) (by simp) ?_
    refine AllReadyH.cons (o := ⟨some 14, .call { callee := .value (.func 14), args := #[.tmp 13], argTypes := _ }, _, _, _, _⟩) rfl (fun K hK => ?_) AllReadyH.nil
    go_simp
    refine Calls.mono (quote user (by omega) w2.drew HT3.out) ?_
    rintro e v1 ⟨rfl, b0⟩
    have HX4 := Lib.hid (HX3.out.below b0 HX3.out.lt)
    have HB4 := Lib.hid (HB3.out.trans (b0.mono HB3.out.size))
    have HT4 := Lib.hid (HT3.out.below b0)
    clear b0
    go_wp2_with fail
    refine hK.out _ _ ⟨HX4.out.cell' rfl, HX4.out.cell' rfl, HX4.out.cell' rfl, HX4.out.cell' rfl, HX4.out.cell' rfl⟩ (fun hS1 => ?_)
    clear hK K
    try simp only [Go.Law.pz]
    refine wpAnyH_ready (rs := [6]) (by kernel_rfl) (by simp) ?_
    refine AllReadyH.cons (o := ⟨some 17, .call { callee := .value (.func 15), args := #[.tmp 16], argTypes := _ }, _, _, _, _⟩) rfl (fun K hK => ?_) AllReadyH.nil
    go_simp
    refine Calls.mono (digI id HI.out.1 HI.out.2 v1 HT4.out) ?_
    rintro e v2 ⟨rfl, b1⟩
    have HX5 := Lib.hid (HX4.out.below b1 HX4.out.lt)
    have HB5 := Lib.hid (HB4.out.trans (b1.mono HB4.out.size))
    have HT5 := Lib.hid (HT4.out.below b1)
    clear b1
    go_wp2_with fail
    refine hK.out _ _ ⟨HX5.out.cell' rfl, HX5.out.cell' rfl, HX5.out.cell' rfl, HX5.out.cell' rfl, HX5.out.cell' rfl⟩ (fun hS2 => ?_)
    clear hK K
    try simp only [Go.Law.pz]
    refine wpAnyH_ready (rs := [9]) (by kernel_rfl) (by simp) ?_
    refine AllReadyH.cons (o := ⟨some 20, .call { callee := .value (.func 15), args := #[.tmp 19], argTypes := _ }, _, _, _, _⟩) rfl (fun K hK => ?_) AllReadyH.nil
    go_simp
    refine Calls.mono (digI st HSt.out.1 HSt.out.2 v2 HT5.out) ?_
    rintro e v3 ⟨rfl, b2⟩
    have HX6 := Lib.hid (HX5.out.below b2 HX5.out.lt)
    have HB6 := Lib.hid (HB5.out.trans (b2.mono HB5.out.size))
    have HT6 := Lib.hid (HT5.out.below b2)
    clear b2
    go_wp2_with fail
    refine hK.out _ _ ⟨HX6.out.cell' rfl, HX6.out.cell' rfl, HX6.out.cell' rfl, HX6.out.cell' rfl, HX6.out.cell' rfl⟩ (fun hS3 => ?_)
    clear hK K
    try simp only [Go.Law.pz]
    refine wpAnyH_ready (rs := [12]) (by kernel_rfl) (by simp) ?_
    refine AllReadyH.cons (o := ⟨some 23, .call { callee := .value (.func 15), args := #[.tmp 22], argTypes := _ }, _, _, _, _⟩) rfl (fun K hK => ?_) AllReadyH.nil
    go_simp
    refine Calls.mono (digI pr HPr.out.1 HPr.out.2 v3 HT6.out) ?_
    rintro e v4 ⟨rfl, b3⟩
    have HX7 := Lib.hid (HX6.out.below b3 HX6.out.lt)
    have HB7 := Lib.hid (HB6.out.trans (b3.mono HB6.out.size))
    have HT7 := Lib.hid (HT6.out.below b3)
    clear b3
    go_wp2_with fail
    refine hK.out _ _ ⟨HX7.out.cell' rfl, HX7.out.cell' rfl, HX7.out.cell' rfl, HX7.out.cell' rfl, HX7.out.cell' rfl⟩ (fun hS4 => ?_)
    clear hK K
    try simp only [Go.Law.pz]
    refine wpAnyH_ready (rs := [15]) (by kernel_rfl) (by simp) ?_
    refine AllReadyH.cons (o := ⟨some 26, .call { callee := .value (.func 16), args := #[.tmp 25], argTypes := _ }, _, _, _, _⟩) rfl (fun K hK => ?_) AllReadyH.nil
    go_simp
    refine Calls.mono (digU tt htl v4 HT7.out) ?_
    rintro e v5 ⟨rfl, b4⟩
    have HX8 := Lib.hid (HX7.out.below b4 HX7.out.lt)
    have HB8 := Lib.hid (HB7.out.trans (b4.mono HB7.out.size))
    have HT8 := Lib.hid (HT7.out.below b4)
    clear b4
    go_wp2_with fail
    refine hK.out _ _ ⟨HX8.out.cell' rfl, HX8.out.cell' rfl, HX8.out.cell' rfl, HX8.out.cell' rfl, HX8.out.cell' rfl⟩ (fun hS5 => ?_)
    clear hK K
    try simp only [Go.Law.pz]
    have ba := (Below.refl v5.heap.size v5).alloc (Nat.le_refl _) (.cells #[.string (kindB kind), .string (quoteB user), .string (intB id), .string (intB st), .string (intB pr), .string (decB tt)] 9)
    have HXa := Lib.hid (HX8.out.below ba HX8.out.lt)
    have HBa := Lib.hid (HB8.out.trans (ba.mono HB8.out.size))
    have HSq := Lib.hid (seq_new v5 9 [kindB kind, quoteB user, intB id, intB st, intB pr, decB tt])
    have hlt : v5.heap.size < (v5.alloc (.cells #[.string (kindB kind), .string (quoteB user), .string (intB id), .string (intB st), .string (intB pr), .string (decB tt)] 9)).heap.size := by simp
    refine wpAnyH_ready (rs := [16]) (by kernel_rfl) (by simp) ?_
    refine AllReadyH.cons (o := ⟨some 27, .buildSlice 23 6 #[(0, .tmp 11), (1, .tmp 14), (2, .tmp 17), (3, .tmp 20), (4, .tmp 23), (5, .tmp 26)], _, _, _, _⟩) rfl (fun K hK => ?_) AllReadyH.nil
    go_simp
    refine hK.out _ _ ⟨HXa.out.cell' rfl, HXa.out.cell' rfl, HXa.out.cell' rfl, HXa.out.cell' rfl, HXa.out.cell' rfl⟩ (fun hSa => ?_)
    clear hK K
    try simp only [Go.Law.pz]
    have HSq2 : Hid (∀ (j : Nat) x, ([kindB kind, quoteB user, intB id, intB st, intB pr, decB tt] : List ByteArray)[j]? = some x → (v5.alloc (.cells #[.string (kindB kind), .string (quoteB user), .string (intB id), .string (intB st), .string (intB pr), .string (decB tt)] 9)).cell? ⟨v5.heap.size, 0 + j, none⟩ = some (.string x)) := HSq.out
    clear ba HSq
    generalize v5.alloc (.cells #[.string (kindB kind), .string (quoteB user), .string (intB id), .string (intB st), .string (intB pr), .string (decB tt)] 9) = va at *
    have hsz : (joinB [kindB kind, quoteB user, intB id, intB st, intB pr, decB tt]).size ≤ 140737488355328 := Nat.le_trans (join_le _ 1000 (by simp; omega)) (by simp)
    refine wpAnyH_ready (rs := [17]) (by kernel_rfl) (by simp) ?_
    refine AllReadyH.cons (o := ⟨some 28, .call { callee := .value (.func 13), args := #[.tmp 27], argTypes := _ }, _, _, _, _⟩) rfl (fun K hK => ?_) AllReadyH.nil
    go_simp
    refine Calls.mono (words [kindB kind, quoteB user, intB id, intB st, intB pr, decB tt] v5.heap.size 0 6 va HSq2.out hlt (by simp) (by simp) hsz) ?_
    rintro e vb ⟨rfl, bz⟩
    have HBb := Lib.hid (HBa.out.trans (bz.mono HBa.out.size))
    go_wp2_with fail
    refine hK.out _ _ ⟨(HXa.out.below bz HXa.out.lt).cell' rfl, (HXa.out.below bz HXa.out.lt).cell' rfl, (HXa.out.below bz HXa.out.lt).cell' rfl, (HXa.out.below bz HXa.out.lt).cell' rfl, (HXa.out.below bz HXa.out.lt).cell' rfl⟩ (fun hSb => ?_)
    clear hK K
    try simp only [Go.Law.pz]
    refine Go.Law.tk 18 ⟨some 2, .assign (.tmp 28), _, _, _, _⟩ (v := .string (joinB [kindB kind, quoteB user, intB id, intB st, intB pr, decB tt])) hSb ?_ ?_
    · intro w' hSw
      go_simp
    try simp only [Go.Law.pz]
    refine wpAnyH_done (by kernel_rfl) ?_ _
    go_wp2_with fail
    go_ret
    exact ⟨by rw [HL.out]; rfl, HBb.out⟩
  · have e1 : (kind == 1) = false := by simpa using h1
    by_cases h2 : kind = 2
    · have e2 : (kind == 2) = true := by simpa using h2
      have HL : Hid (lineB ⟨kind, user, id, st, pr, (tt : Int), A, c, us⟩ = joinB [kindB kind, quoteB user, intB id, decB tt]) := by show _ = _; unfold lineB; simp [h2]
      clear h2
      go_wp2_with fail
      refine wp_region_held_drew (S := fun w' => w'.cell? ⟨w.heap.size, 1, none⟩ = some (.string user) ∧ w'.cell? ⟨w.heap.size, 2, none⟩ = some (.int .i64 id) ∧ w'.cell? ⟨w.heap.size, 3, none⟩ = some (.int .i64 st) ∧ w'.cell? ⟨w.heap.size, 4, none⟩ = some (.int .i64 pr) ∧ w'.cell? ⟨w.heap.size, 5, none⟩ = some (.int .u64 (tt : Int))) (by kernel_rfl) ⟨x1, x2, x3, x4, x5⟩ (fun hS0 => ?_)
      refine Go.Law.tk 0 ⟨some 31, .move (.tmp 3), _, _, _, _⟩ (v := .string (kindB kind)) hS0 ?_ ?_
      · intro w' hSw
        go_simp
      try simp only [Go.Law.pz]
      refine Go.Law.tk 1 ⟨some 32, .fieldAddr 25 (.tmp 1) 1, _, _, _, _⟩ (v := .pointer (some ⟨w.heap.size, 1, none⟩)) hS0 ?_ ?_
      · intro w' hSw
        go_simp
      try simp only [Go.Law.pz]
      refine Go.Law.tk 2 ⟨some 33, .load 9 (.tmp 32), _, _, _, _⟩ (v := .string user) hS0 ?_ ?_
      · intro w' hSw
        obtain ⟨s1', s2', s3', s4', s5'⟩ := hSw
        go_simp
      try simp only [Go.Law.pz]
      refine Go.Law.tk 4 ⟨some 35, .fieldAddr 25 (.tmp 1) 2, _, _, _, _⟩ (v := .pointer (some ⟨w.heap.size, 2, none⟩)) hS0 ?_ ?_
      · intro w' hSw
        go_simp
      try simp only [Go.Law.pz]
      refine Go.Law.tk 5 ⟨some 36, .load 3 (.tmp 35), _, _, _, _⟩ (v := .int .i64 id) hS0 ?_ ?_
      · intro w' hSw
        obtain ⟨s1', s2', s3', s4', s5'⟩ := hSw
        go_simp
      try simp only [Go.Law.pz]
      refine Go.Law.tk 7 ⟨some 38, .fieldAddr 25 (.tmp 1) 5, _, _, _, _⟩ (v := .pointer (some ⟨w.heap.size, 5, none⟩)) hS0 ?_ ?_
      · intro w' hSw
        go_simp
      try simp only [Go.Law.pz]
      refine Go.Law.tk 8 ⟨some 39, .load 22 (.tmp 38), _, _, _, _⟩ (v := .int .u64 (tt : Int)) hS0 ?_ ?_
      · intro w' hSw
        obtain ⟨s1', s2', s3', s4', s5'⟩ := hSw
        go_simp
      try simp only [Go.Law.pz]
      have HX3 : Hid (Is w2.drew w.heap.size 25 #[.int .i64 kind, .string user, .int .i64 id, .int .i64 st, .int .i64 pr, .int .u64 (tt : Int), .slice A us.length c]) := HX2.out.drewN 1
      have HB3 := Lib.hid (Law.below_drewN HB2.out 1)
      have HT3 := Lib.hid (HT2.out.below (Law.below_drewN (Below.refl _ w2) 1))
      skip
      refine wpAnyH_ready (rs := [3]) (by kernel_rfl) (by simp) ?_
      refine AllReadyH.cons (o := ⟨some 34, .call { callee := .value (.func 14), args := #[.tmp 33], argTypes := _ }, _, _, _, _⟩) rfl (fun K hK => ?_) AllReadyH.nil
      go_simp
      refine Calls.mono (quote user (by omega) w2.drew HT3.out) ?_
      rintro e v1 ⟨rfl, b0⟩
      have HX4 := Lib.hid (HX3.out.below b0 HX3.out.lt)
      have HB4 := Lib.hid (HB3.out.trans (b0.mono HB3.out.size))
      have HT4 := Lib.hid (HT3.out.below b0)
      clear b0
      go_wp2_with fail
      refine hK.out _ _ ⟨HX4.out.cell' rfl, HX4.out.cell' rfl, HX4.out.cell' rfl, HX4.out.cell' rfl, HX4.out.cell' rfl⟩ (fun hS1 => ?_)
      clear hK K
      try simp only [Go.Law.pz]
      refine wpAnyH_ready (rs := [6]) (by kernel_rfl) (by simp) ?_
      refine AllReadyH.cons (o := ⟨some 37, .call { callee := .value (.func 15), args := #[.tmp 36], argTypes := _ }, _, _, _, _⟩) rfl (fun K hK => ?_) AllReadyH.nil
      go_simp
      refine Calls.mono (digI id HI.out.1 HI.out.2 v1 HT4.out) ?_
      rintro e v2 ⟨rfl, b1⟩
      have HX5 := Lib.hid (HX4.out.below b1 HX4.out.lt)
      have HB5 := Lib.hid (HB4.out.trans (b1.mono HB4.out.size))
      have HT5 := Lib.hid (HT4.out.below b1)
      clear b1
      go_wp2_with fail
      refine hK.out _ _ ⟨HX5.out.cell' rfl, HX5.out.cell' rfl, HX5.out.cell' rfl, HX5.out.cell' rfl, HX5.out.cell' rfl⟩ (fun hS2 => ?_)
      clear hK K
      try simp only [Go.Law.pz]
      refine wpAnyH_ready (rs := [9]) (by kernel_rfl) (by simp) ?_
      refine AllReadyH.cons (o := ⟨some 40, .call { callee := .value (.func 16), args := #[.tmp 39], argTypes := _ }, _, _, _, _⟩) rfl (fun K hK => ?_) AllReadyH.nil
      go_simp
      refine Calls.mono (digU tt htl v2 HT5.out) ?_
      rintro e v3 ⟨rfl, b2⟩
      have HX6 := Lib.hid (HX5.out.below b2 HX5.out.lt)
      have HB6 := Lib.hid (HB5.out.trans (b2.mono HB5.out.size))
      have HT6 := Lib.hid (HT5.out.below b2)
      clear b2
      go_wp2_with fail
      refine hK.out _ _ ⟨HX6.out.cell' rfl, HX6.out.cell' rfl, HX6.out.cell' rfl, HX6.out.cell' rfl, HX6.out.cell' rfl⟩ (fun hS3 => ?_)
      clear hK K
      try simp only [Go.Law.pz]
      have ba := (Below.refl v3.heap.size v3).alloc (Nat.le_refl _) (.cells #[.string (kindB kind), .string (quoteB user), .string (intB id), .string (decB tt)] 9)
      have HXa := Lib.hid (HX6.out.below ba HX6.out.lt)
      have HBa := Lib.hid (HB6.out.trans (ba.mono HB6.out.size))
      have HSq := Lib.hid (seq_new v3 9 [kindB kind, quoteB user, intB id, decB tt])
      have hlt : v3.heap.size < (v3.alloc (.cells #[.string (kindB kind), .string (quoteB user), .string (intB id), .string (decB tt)] 9)).heap.size := by simp
      refine wpAnyH_ready (rs := [10]) (by kernel_rfl) (by simp) ?_
      refine AllReadyH.cons (o := ⟨some 41, .buildSlice 23 4 #[(0, .tmp 31), (1, .tmp 34), (2, .tmp 37), (3, .tmp 40)], _, _, _, _⟩) rfl (fun K hK => ?_) AllReadyH.nil
      go_simp
      refine hK.out _ _ ⟨HXa.out.cell' rfl, HXa.out.cell' rfl, HXa.out.cell' rfl, HXa.out.cell' rfl, HXa.out.cell' rfl⟩ (fun hSa => ?_)
      clear hK K
      try simp only [Go.Law.pz]
      have HSq2 : Hid (∀ (j : Nat) x, ([kindB kind, quoteB user, intB id, decB tt] : List ByteArray)[j]? = some x → (v3.alloc (.cells #[.string (kindB kind), .string (quoteB user), .string (intB id), .string (decB tt)] 9)).cell? ⟨v3.heap.size, 0 + j, none⟩ = some (.string x)) := HSq.out
      clear ba HSq
      generalize v3.alloc (.cells #[.string (kindB kind), .string (quoteB user), .string (intB id), .string (decB tt)] 9) = va at *
      have hsz : (joinB [kindB kind, quoteB user, intB id, decB tt]).size ≤ 140737488355328 := Nat.le_trans (join_le _ 1000 (by simp; omega)) (by simp)
      refine wpAnyH_ready (rs := [11]) (by kernel_rfl) (by simp) ?_
      refine AllReadyH.cons (o := ⟨some 42, .call { callee := .value (.func 13), args := #[.tmp 41], argTypes := _ }, _, _, _, _⟩) rfl (fun K hK => ?_) AllReadyH.nil
      go_simp
      refine Calls.mono (words [kindB kind, quoteB user, intB id, decB tt] v3.heap.size 0 4 va HSq2.out hlt (by simp) (by simp) hsz) ?_
      rintro e vb ⟨rfl, bz⟩
      have HBb := Lib.hid (HBa.out.trans (bz.mono HBa.out.size))
      go_wp2_with fail
      refine hK.out _ _ ⟨(HXa.out.below bz HXa.out.lt).cell' rfl, (HXa.out.below bz HXa.out.lt).cell' rfl, (HXa.out.below bz HXa.out.lt).cell' rfl, (HXa.out.below bz HXa.out.lt).cell' rfl, (HXa.out.below bz HXa.out.lt).cell' rfl⟩ (fun hSb => ?_)
      clear hK K
      try simp only [Go.Law.pz]
      refine Go.Law.tk 12 ⟨some 2, .assign (.tmp 42), _, _, _, _⟩ (v := .string (joinB [kindB kind, quoteB user, intB id, decB tt])) hSb ?_ ?_
      · intro w' hSw
        go_simp
      try simp only [Go.Law.pz]
      refine wpAnyH_done (by kernel_rfl) ?_ _
      go_wp2_with fail
      go_ret
      exact ⟨by rw [HL.out]; rfl, HBb.out⟩
    · have e2 : (kind == 2) = false := by simpa using h2
      by_cases h3 : kind = 3
      · have e3 : (kind == 3) = true := by simpa using h3
        have HL : Hid (lineB ⟨kind, user, id, st, pr, (tt : Int), A, c, us⟩ = joinB [kindB kind, quoteB user, intB id]) := by show _ = _; unfold lineB; simp [h3]
        clear h3
        go_wp2_with fail
        refine wp_region_held_drew (S := fun w' => w'.cell? ⟨w.heap.size, 1, none⟩ = some (.string user) ∧ w'.cell? ⟨w.heap.size, 2, none⟩ = some (.int .i64 id) ∧ w'.cell? ⟨w.heap.size, 3, none⟩ = some (.int .i64 st) ∧ w'.cell? ⟨w.heap.size, 4, none⟩ = some (.int .i64 pr) ∧ w'.cell? ⟨w.heap.size, 5, none⟩ = some (.int .u64 (tt : Int))) (by kernel_rfl) ⟨x1, x2, x3, x4, x5⟩ (fun hS0 => ?_)
        refine Go.Law.tk 0 ⟨some 45, .move (.tmp 3), _, _, _, _⟩ (v := .string (kindB kind)) hS0 ?_ ?_
        · intro w' hSw
          go_simp
        try simp only [Go.Law.pz]
        refine Go.Law.tk 1 ⟨some 46, .fieldAddr 25 (.tmp 1) 1, _, _, _, _⟩ (v := .pointer (some ⟨w.heap.size, 1, none⟩)) hS0 ?_ ?_
        · intro w' hSw
          go_simp
        try simp only [Go.Law.pz]
        refine Go.Law.tk 2 ⟨some 47, .load 9 (.tmp 46), _, _, _, _⟩ (v := .string user) hS0 ?_ ?_
        · intro w' hSw
          obtain ⟨s1', s2', s3', s4', s5'⟩ := hSw
          go_simp
        try simp only [Go.Law.pz]
        refine Go.Law.tk 4 ⟨some 49, .fieldAddr 25 (.tmp 1) 2, _, _, _, _⟩ (v := .pointer (some ⟨w.heap.size, 2, none⟩)) hS0 ?_ ?_
        · intro w' hSw
          go_simp
        try simp only [Go.Law.pz]
        refine Go.Law.tk 5 ⟨some 50, .load 3 (.tmp 49), _, _, _, _⟩ (v := .int .i64 id) hS0 ?_ ?_
        · intro w' hSw
          obtain ⟨s1', s2', s3', s4', s5'⟩ := hSw
          go_simp
        try simp only [Go.Law.pz]
        have HX3 : Hid (Is w2.drew w.heap.size 25 #[.int .i64 kind, .string user, .int .i64 id, .int .i64 st, .int .i64 pr, .int .u64 (tt : Int), .slice A us.length c]) := HX2.out.drewN 1
        have HB3 := Lib.hid (Law.below_drewN HB2.out 1)
        have HT3 := Lib.hid (HT2.out.below (Law.below_drewN (Below.refl _ w2) 1))
        skip
        refine wpAnyH_ready (rs := [3]) (by kernel_rfl) (by simp) ?_
        refine AllReadyH.cons (o := ⟨some 48, .call { callee := .value (.func 14), args := #[.tmp 47], argTypes := _ }, _, _, _, _⟩) rfl (fun K hK => ?_) AllReadyH.nil
        go_simp
        refine Calls.mono (quote user (by omega) w2.drew HT3.out) ?_
        rintro e v1 ⟨rfl, b0⟩
        have HX4 := Lib.hid (HX3.out.below b0 HX3.out.lt)
        have HB4 := Lib.hid (HB3.out.trans (b0.mono HB3.out.size))
        have HT4 := Lib.hid (HT3.out.below b0)
        clear b0
        go_wp2_with fail
        refine hK.out _ _ ⟨HX4.out.cell' rfl, HX4.out.cell' rfl, HX4.out.cell' rfl, HX4.out.cell' rfl, HX4.out.cell' rfl⟩ (fun hS1 => ?_)
        clear hK K
        try simp only [Go.Law.pz]
        refine wpAnyH_ready (rs := [6]) (by kernel_rfl) (by simp) ?_
        refine AllReadyH.cons (o := ⟨some 51, .call { callee := .value (.func 15), args := #[.tmp 50], argTypes := _ }, _, _, _, _⟩) rfl (fun K hK => ?_) AllReadyH.nil
        go_simp
        refine Calls.mono (digI id HI.out.1 HI.out.2 v1 HT4.out) ?_
        rintro e v2 ⟨rfl, b1⟩
        have HX5 := Lib.hid (HX4.out.below b1 HX4.out.lt)
        have HB5 := Lib.hid (HB4.out.trans (b1.mono HB4.out.size))
        have HT5 := Lib.hid (HT4.out.below b1)
        clear b1
        go_wp2_with fail
        refine hK.out _ _ ⟨HX5.out.cell' rfl, HX5.out.cell' rfl, HX5.out.cell' rfl, HX5.out.cell' rfl, HX5.out.cell' rfl⟩ (fun hS2 => ?_)
        clear hK K
        try simp only [Go.Law.pz]
        have ba := (Below.refl v2.heap.size v2).alloc (Nat.le_refl _) (.cells #[.string (kindB kind), .string (quoteB user), .string (intB id)] 9)
        have HXa := Lib.hid (HX5.out.below ba HX5.out.lt)
        have HBa := Lib.hid (HB5.out.trans (ba.mono HB5.out.size))
        have HSq := Lib.hid (seq_new v2 9 [kindB kind, quoteB user, intB id])
        have hlt : v2.heap.size < (v2.alloc (.cells #[.string (kindB kind), .string (quoteB user), .string (intB id)] 9)).heap.size := by simp
        refine wpAnyH_ready (rs := [7]) (by kernel_rfl) (by simp) ?_
        refine AllReadyH.cons (o := ⟨some 52, .buildSlice 23 3 #[(0, .tmp 45), (1, .tmp 48), (2, .tmp 51)], _, _, _, _⟩) rfl (fun K hK => ?_) AllReadyH.nil
        go_simp
        refine hK.out _ _ ⟨HXa.out.cell' rfl, HXa.out.cell' rfl, HXa.out.cell' rfl, HXa.out.cell' rfl, HXa.out.cell' rfl⟩ (fun hSa => ?_)
        clear hK K
        try simp only [Go.Law.pz]
        have HSq2 : Hid (∀ (j : Nat) x, ([kindB kind, quoteB user, intB id] : List ByteArray)[j]? = some x → (v2.alloc (.cells #[.string (kindB kind), .string (quoteB user), .string (intB id)] 9)).cell? ⟨v2.heap.size, 0 + j, none⟩ = some (.string x)) := HSq.out
        clear ba HSq
        generalize v2.alloc (.cells #[.string (kindB kind), .string (quoteB user), .string (intB id)] 9) = va at *
        have hsz : (joinB [kindB kind, quoteB user, intB id]).size ≤ 140737488355328 := Nat.le_trans (join_le _ 1000 (by simp; omega)) (by simp)
        refine wpAnyH_ready (rs := [8]) (by kernel_rfl) (by simp) ?_
        refine AllReadyH.cons (o := ⟨some 53, .call { callee := .value (.func 13), args := #[.tmp 52], argTypes := _ }, _, _, _, _⟩) rfl (fun K hK => ?_) AllReadyH.nil
        go_simp
        refine Calls.mono (words [kindB kind, quoteB user, intB id] v2.heap.size 0 3 va HSq2.out hlt (by simp) (by simp) hsz) ?_
        rintro e vb ⟨rfl, bz⟩
        have HBb := Lib.hid (HBa.out.trans (bz.mono HBa.out.size))
        go_wp2_with fail
        refine hK.out _ _ ⟨(HXa.out.below bz HXa.out.lt).cell' rfl, (HXa.out.below bz HXa.out.lt).cell' rfl, (HXa.out.below bz HXa.out.lt).cell' rfl, (HXa.out.below bz HXa.out.lt).cell' rfl, (HXa.out.below bz HXa.out.lt).cell' rfl⟩ (fun hSb => ?_)
        clear hK K
        try simp only [Go.Law.pz]
        refine Go.Law.tk 9 ⟨some 2, .assign (.tmp 53), _, _, _, _⟩ (v := .string (joinB [kindB kind, quoteB user, intB id])) hSb ?_ ?_
        · intro w' hSw
          go_simp
        try simp only [Go.Law.pz]
        refine wpAnyH_done (by kernel_rfl) ?_ _
        go_wp2_with fail
        go_ret
        exact ⟨by rw [HL.out]; rfl, HBb.out⟩
      · have e3 : (kind == 3) = false := by simpa using h3
        by_cases h4 : kind = 4
        · have e4 : (kind == 4) = true := by simpa using h4
          have HL : Hid (lineB ⟨kind, user, id, st, pr, (tt : Int), A, c, us⟩ = joinB [kindB kind, quoteB user]) := by show _ = _; unfold lineB; simp [h4]
          clear h4
          go_wp2_with fail
          refine (quote user (by omega) w2 HT2.out).mono ?_
          rintro e v1 ⟨rfl, b1⟩
          have HB3 := Lib.hid (HB2.out.trans (b1.mono HB2.out.size))
          have ba := (Below.refl v1.heap.size v1).alloc (Nat.le_refl _) (.cells #[.string (kindB kind), .string (quoteB user)] 9)
          have HBa := Lib.hid (HB3.out.trans (ba.mono HB3.out.size))
          have HSq := Lib.hid (seq_new v1 9 [kindB kind, quoteB user])
          have hlt : v1.heap.size < (v1.alloc (.cells #[.string (kindB kind), .string (quoteB user)] 9)).heap.size := by simp
          have HSq2 : Hid (∀ (j : Nat) x, ([kindB kind, quoteB user] : List ByteArray)[j]? = some x → (v1.alloc (.cells #[.string (kindB kind), .string (quoteB user)] 9)).cell? ⟨v1.heap.size, 0 + j, none⟩ = some (.string x)) := HSq.out
          have hsz : (joinB [kindB kind, quoteB user]).size ≤ 140737488355328 := Nat.le_trans (join_le _ 1000 (by simp; omega)) (by simp)
          clear ba HSq b1
          go_wp2_with fail
          generalize v1.alloc (.cells #[.string (kindB kind), .string (quoteB user)] 9) = va at *
          refine (words [kindB kind, quoteB user] v1.heap.size 0 2 va HSq2.out hlt (by simp) (by simp) hsz).mono ?_
          rintro e vb ⟨rfl, bz⟩
          have HBb := Lib.hid (HBa.out.trans (bz.mono HBa.out.size))
          go_wp2_with fail
          go_ret
          exact ⟨by rw [HL.out]; rfl, HBb.out⟩
        · have e4 : (kind == 4) = false := by simpa using h4
          by_cases h6 : kind = 6
          · have e6 : (kind == 6) = true := by simpa using h6
            have HL : Hid (lineB ⟨kind, user, id, st, pr, (tt : Int), A, c, us⟩ = joinB [kindB kind, quoteB user]) := by show _ = _; unfold lineB; simp [h6]
            clear h6
            go_wp2_with fail
            refine (quote user (by omega) w2 HT2.out).mono ?_
            rintro e v1 ⟨rfl, b1⟩
            have HB3 := Lib.hid (HB2.out.trans (b1.mono HB2.out.size))
            have ba := (Below.refl v1.heap.size v1).alloc (Nat.le_refl _) (.cells #[.string (kindB kind), .string (quoteB user)] 9)
            have HBa := Lib.hid (HB3.out.trans (ba.mono HB3.out.size))
            have HSq := Lib.hid (seq_new v1 9 [kindB kind, quoteB user])
            have hlt : v1.heap.size < (v1.alloc (.cells #[.string (kindB kind), .string (quoteB user)] 9)).heap.size := by simp
            have HSq2 : Hid (∀ (j : Nat) x, ([kindB kind, quoteB user] : List ByteArray)[j]? = some x → (v1.alloc (.cells #[.string (kindB kind), .string (quoteB user)] 9)).cell? ⟨v1.heap.size, 0 + j, none⟩ = some (.string x)) := HSq.out
            have hsz : (joinB [kindB kind, quoteB user]).size ≤ 140737488355328 := Nat.le_trans (join_le _ 1000 (by simp; omega)) (by simp)
            clear ba HSq b1
            go_wp2_with fail
            generalize v1.alloc (.cells #[.string (kindB kind), .string (quoteB user)] 9) = va at *
            refine (words [kindB kind, quoteB user] v1.heap.size 0 2 va HSq2.out hlt (by simp) (by simp) hsz).mono ?_
            rintro e vb ⟨rfl, bz⟩
            have HBb := Lib.hid (HBa.out.trans (bz.mono HBa.out.size))
            go_wp2_with fail
            go_ret
            exact ⟨by rw [HL.out]; rfl, HBb.out⟩
          · have e6 : (kind == 6) = false := by simpa using h6
            by_cases h7 : kind = 7
            · have e7 : (kind == 7) = true := by simpa using h7
              have HL : Hid (lineB ⟨kind, user, id, st, pr, (tt : Int), A, c, us⟩ = joinB [kindB kind, quoteB user]) := by show _ = _; unfold lineB; simp [h7]
              clear h7
              go_wp2_with fail
              refine (quote user (by omega) w2 HT2.out).mono ?_
              rintro e v1 ⟨rfl, b1⟩
              have HB3 := Lib.hid (HB2.out.trans (b1.mono HB2.out.size))
              have ba := (Below.refl v1.heap.size v1).alloc (Nat.le_refl _) (.cells #[.string (kindB kind), .string (quoteB user)] 9)
              have HBa := Lib.hid (HB3.out.trans (ba.mono HB3.out.size))
              have HSq := Lib.hid (seq_new v1 9 [kindB kind, quoteB user])
              have hlt : v1.heap.size < (v1.alloc (.cells #[.string (kindB kind), .string (quoteB user)] 9)).heap.size := by simp
              have HSq2 : Hid (∀ (j : Nat) x, ([kindB kind, quoteB user] : List ByteArray)[j]? = some x → (v1.alloc (.cells #[.string (kindB kind), .string (quoteB user)] 9)).cell? ⟨v1.heap.size, 0 + j, none⟩ = some (.string x)) := HSq.out
              have hsz : (joinB [kindB kind, quoteB user]).size ≤ 140737488355328 := Nat.le_trans (join_le _ 1000 (by simp; omega)) (by simp)
              clear ba HSq b1
              go_wp2_with fail
              generalize v1.alloc (.cells #[.string (kindB kind), .string (quoteB user)] 9) = va at *
              refine (words [kindB kind, quoteB user] v1.heap.size 0 2 va HSq2.out hlt (by simp) (by simp) hsz).mono ?_
              rintro e vb ⟨rfl, bz⟩
              have HBb := Lib.hid (HBa.out.trans (bz.mono HBa.out.size))
              go_wp2_with fail
              go_ret
              exact ⟨by rw [HL.out]; rfl, HBb.out⟩
            · have e7 : (kind == 7) = false := by simpa using h7
              by_cases h5 : kind = 5
              · have e5 : (kind == 5) = true := by simpa using h5
                have hus : us.length ≤ 20 := by simp [shortB] at hs; omega
                have hut : ∀ u ∈ us, u.size ≤ 40 := by simp [shortB] at hs; exact fun u hu => by simpa using hs.2.2 u hu
                have HL : Hid (lineB ⟨kind, user, id, st, pr, (tt : Int), A, c, us⟩ = joinB (kindB kind :: us.map quoteB)) := by show _ = _; unfold lineB; simp [h5]
                clear h5
                go_wp2_with fail
                refine (batch (kindB kind) us A c w2 HIN2.out.us hus hut hK7 HT2.out).mono ?_
                rintro e v1 ⟨rfl, b1⟩
                have HB3 := Lib.hid (HB2.out.trans (b1.mono HB2.out.size))
                go_wp2_with fail
                go_ret
                exact ⟨by rw [HL.out]; rfl, HB3.out⟩
              · have e5 : (kind == 5) = false := by simpa using h5
                by_cases h8 : kind = 8
                · have e8 : (kind == 8) = true := by simpa using h8
                  have HL : Hid (lineB ⟨kind, user, id, st, pr, (tt : Int), A, c, us⟩ = kindB kind) := by show _ = _; unfold lineB; simp [h8]
                  clear h8
                  go_wp2_with fail
                  go_ret
                  exact ⟨by rw [HL.out]; rfl, HB2.out⟩
                · have e8 : (kind == 8) = false := by simpa using h8
                  by_cases h9 : kind = 9
                  · have e9 : (kind == 9) = true := by simpa using h9
                    have HL : Hid (lineB ⟨kind, user, id, st, pr, (tt : Int), A, c, us⟩ = kindB kind) := by show _ = _; unfold lineB; simp [h9]
                    clear h9
                    go_wp2_with fail
                    go_ret
                    exact ⟨by rw [HL.out]; rfl, HB2.out⟩
                  · have e9 : (kind == 9) = false := by simpa using h9
                    have HL : Hid (lineB ⟨kind, user, id, st, pr, (tt : Int), A, c, us⟩ = ⟨#[98, 97, 100]⟩) := by show _ = _; unfold lineB; simp only; rw [if_neg h1, if_neg h2, if_neg h3, if_neg (by omega), if_neg h5, if_neg (by omega)]
                    go_wp2_with fail
                    go_ret
                    exact ⟨by rw [HL.out]; rfl, HB2.out⟩
end Opx
end Go.Proofs.YtdfonlbbohnfhaaDoor

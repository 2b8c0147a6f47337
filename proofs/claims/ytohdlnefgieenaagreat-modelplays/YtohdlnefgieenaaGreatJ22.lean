/-
  What Users (layer 10) comes to.
-/
import Derived.Test.YtohdlnefgieenaaGreatJ21
namespace Go.Proofs.YtohdlnefgieenaaGreat
open Go.RowKit Go.Shelf
attribute [local go_sem] Oper.semAt_some
namespace Mod
open Go.Law Feed Bk
theorem elemT : ∃ i, Law.Elem Tryz.prog 35 9 i (.string ⟨#[]⟩) 1 16 := Law.Elem.of Tryz.underlying35 (by kernel_rfl) rfl (by decide)
@[go_sem] theorem run_nilT (n c : Nat) (w : World) : Sem.run Tryz.prog (binOp .eql 35 (.slice none n c) (.slice none 0 0)) w = .ok (.bool true) w := by kernel_rfl
@[go_sem] theorem run_not_nilT (a : Addr) (n c : Nat) (w : World) : Sem.run Tryz.prog (binOp .eql 35 (.slice (some a) n c) (.slice none 0 0)) w = .ok (.bool false) w := by kernel_rfl
theorem own_emptyT (w : World) {base : Nat} (e : TypeId) (hb : base ≤ w.heap.size) : (w.alloc (.cells #[] e)).ownsRow base e 1 (.slice (some ⟨w.heap.size, 0, none⟩) 0 0) 0 [] :=
  ⟨rfl, .inr ⟨w.heap.size, 0, #[], rfl, hb, heap_alloc_new w _, Nat.le_refl _, Nat.zero_le _, rfl, rfl⟩⟩
/-- names in new memory -/
def Names (w : World) (us : List ByteArray) (e : Ending) (w' : World) : Prop := ∃ A c, e = .returned (.slice A us.length c) ∧ Seq w' w.heap.size w'.heap.size A (us.map .string) ∧ Below w.heap.size w w'
set_option maxHeartbeats 1000000 in
theorem cloneT (us : List ByteArray) (A : Option Addr) (c : Nat) (w : World) (hs : Seq w 0 w.heap.size A (us.map .string)) (hl : us.length ≤ 1000) :
    Calls Tryz.prog 76 #[.slice A us.length c] w (Names w us) := by
  obtain ⟨i0, hE⟩ := elemT
  have HE := Lib.hid hE
  have HS := Lib.hid hs
  clear hs hE
  cases A with
  | none =>
    have hz : us = [] := by
      cases us with
      | nil => rfl
      | cons x r => obtain ⟨_, _, h, _⟩ := HS.out (by simp); cases h
    subst hz
    go_enter Tryz.func76, Tryz.ntmps76
    go_wp2_with fail
    go_ret
    exact ⟨none, 0, rfl, fun h => absurd rfl h, Below.refl _ _⟩
  | some a =>
    have HO := Lib.hid (own_emptyT w 9 (base := w.heap.size) (Nat.le_refl _))
    have HS1 := Lib.hid (HS.out.alloc (Nat.le_refl _) (.cells #[] 9))
    go_enter Tryz.func76, Tryz.ntmps76
    go_wp2_with (at_builtin; refine Law.wpList_append_seq _ w.heap.size 35 rfl _ _ rfl HE.out _ 0 [] rfl HO.out 0 w.heap.size (some a) us.length c (us.map .string) rfl (by simp) HS1.out (str_one _) (by unfold maxLen; omega) (by omega) (by simp) ?_)
    intro v1 w1 hown hgrow
    have B1 : Below w.heap.size w w1 := ((Below.refl _ w).alloc (Nat.le_refl _) (.cells #[] 9)).grown hgrow (by simp) (fun k hk => by have h9 : w.heap.size = k := Option.some.inj hk; omega)
    have OW : w1.ownsRow w.heap.size 9 1 v1 us.length (us.map .string) := by simpa using hown
    obtain ⟨A1, c1, rfl, hc1⟩ := own_shape OW
    have HB := Lib.hid B1
    have HW := Lib.hid OW
    clear hown hgrow B1 OW HO HS1
    go_wp2_with fail
    go_ret
    exact ⟨A1, c1, rfl, Seq.own HW.out, HB.out⟩
set_option maxHeartbeats 1000000 in
theorem users4 (user : ByteArray) (id st pr ttl : Int) (us : Value) (w : World) :
    Calls Tryz.prog 49 #[.agg #[.int .i64 4, .string user, .int .i64 id, .int .i64 st, .int .i64 pr, .int .u64 ttl, us]] w (Names w [user]) := by
  have bb := ((Below.refl w.heap.size w).alloc (Nat.le_refl _) (.cells #[.int .i64 4, .string user, .int .i64 id, .int .i64 st, .int .i64 pr, .int .u64 ttl, us] 37)).alloc (by simp) (.cells #[.string user] 9)
  have hs : Seq ((w.alloc (.cells #[.int .i64 4, .string user, .int .i64 id, .int .i64 st, .int .i64 pr, .int .u64 ttl, us] 37)).alloc (.cells #[.string user] 9)) w.heap.size ((w.alloc (.cells #[.int .i64 4, .string user, .int .i64 id, .int .i64 st, .int .i64 pr, .int .u64 ttl, us] 37)).alloc (.cells #[.string user] 9)).heap.size (some ⟨w.heap.size + 1, 0, none⟩) ([user].map .string) := fun _ =>
    ⟨w.heap.size + 1, 0, rfl, by omega, by simp, fun i u hu => by
      have hi : i = 0 := by have := (List.getElem?_eq_some_iff.1 hu).1; simp at this; omega
      subst hi
      obtain rfl : Value.string user = u := by simpa using hu
      simp⟩
  have HB := Lib.hid bb
  have HS := Lib.hid hs
  clear bb hs
  go_enter Tryz.func49, Tryz.ntmps49
  go_wp2_with fail
  go_ret
  exact ⟨_, 1, rfl, HS.out, HB.out⟩
set_option maxHeartbeats 1000000 in
theorem users5 (user : ByteArray) (id st pr ttl : Int) (us : List ByteArray) (A : Option Addr) (c : Nat) (w : World) (hs : Seq w 0 w.heap.size A (us.map .string)) (hl : us.length ≤ 1000) :
    Calls Tryz.prog 49 #[.agg #[.int .i64 5, .string user, .int .i64 id, .int .i64 st, .int .i64 pr, .int .u64 ttl, .slice A us.length c]] w (Names w us) := by
  have bb := (Below.refl w.heap.size w).alloc (Nat.le_refl _) (.cells #[.int .i64 5, .string user, .int .i64 id, .int .i64 st, .int .i64 pr, .int .u64 ttl, .slice A us.length c] 37)
  have HB := Lib.hid bb
  have HC := Lib.hid (cloneT us A c _ ((hs.below bb).more bb.size) hl)
  clear bb hs
  go_enter Tryz.func49, Tryz.ntmps49
  go_wp2_with fail
  refine HC.out.mono ?_
  rintro e w2 ⟨A2, c2, rfl, hs2, b2⟩
  have HS2 := Lib.hid (hs2.from_ HB.out.size)
  have HB2 := Lib.hid (HB.out.trans (b2.mono HB.out.size))
  clear hs2 b2
  go_wp2_with fail
  go_ret
  exact ⟨A2, c2, rfl, HS2.out, HB2.out⟩
end Mod
end Go.Proofs.YtohdlnefgieenaaGreat
/-
  What Right and New (layer 10) come to.
-/
namespace Go.Proofs.YtohdlnefgieenaaGreat
open Go.RowKit Go.Shelf
attribute [local go_sem] Oper.semAt_some
namespace Mod
open Go.Law Feed Bk
/-- sizes -/
structure Cf where
  st : Int
  se : Int
  qu : Int
  wa : Int
  re : Int
  ep : Int
  sta : Int
abbrev Cf.val (q : Cf) : Value := .agg #[.int .i64 q.st, .int .i64 q.se, .int .i64 q.qu, .int .i64 q.wa, .int .i64 q.re, .int .u64 q.ep, .int .u64 q.sta]
def Cf.right (q : Cf) : Bool := (decide (1 ≤ q.st) && decide (q.st ≤ 8)) && ((decide (1 ≤ q.se) && decide (q.se ≤ 8)) && ((decide (1 ≤ q.qu) && decide (q.qu ≤ 16)) && ((decide (1 ≤ q.wa) && decide (q.wa ≤ 8)) && (decide (0 ≤ q.re) && decide (q.re ≤ 4)))))
/-- a table that nobody is in -/
def Mo.new (q : Cf) : Mo := ⟨q.se, q.wa, q.sta, 0, false, q.st.toNat, q.qu.toNat, fun _ => [], fun _ => St.zero⟩
theorem new_ok (q : Cf) (h : q.right = true) (hs : Door.U q.sta) : (Mo.new q).Ok 0 := by
  simp only [Cf.right, Bool.and_eq_true, decide_eq_true_eq] at h
  exact ⟨by show 1 ≤ q.st.toNat; omega, by show q.st.toNat ≤ 8; omega, by show q.qu.toNat ≤ 16; omega, hs, (⟨by decide, by decide⟩ : Door.U 0), fun _ _ => Fit.nil 0, fun _ _ _ _ => Nat.le_refl _, fun _ _ _ _ => Nat.zero_le _⟩
set_option maxRecDepth 100000 in
set_option maxHeartbeats 2000000 in
theorem right (q : Cf) (w : World) {r : Bool} (hr : q.right = r) : Calls Tryz.prog 8 #[q.val] w fun e w' => e = .returned (.bool r) ∧ Below w.heap.size w w' := by
  obtain ⟨st, se, qu, wa, re, ep, sta⟩ := q
  subst hr
  have bb := (Below.refl w.heap.size w).alloc (Nat.le_refl _) (.cells #[.int .i64 st, .int .i64 se, .int .i64 qu, .int .i64 wa, .int .i64 re, .int .u64 ep, .int .u64 sta] 24)
  have HB := Lib.hid bb
  clear bb
  unfold Cf.right
  simp only
  cases h0 : (decide ((1 : Int) ≤ st) && decide (st ≤ 8)) with
  | false =>
    go_enter Tryz.func8, Tryz.ntmps8
    go_wp2_with fail
    refine (within st 1 8 false h0 _).mono ?_
    rintro e w1 ⟨rfl, rfl⟩
    go_wp2_with fail
    go_ret
    exact ⟨rfl, HB.out⟩
  | true =>
    cases h1 : (decide ((1 : Int) ≤ se) && decide (se ≤ 8)) with
    | false =>
      go_enter Tryz.func8, Tryz.ntmps8
      go_wp2_with fail
      refine (within st 1 8 true h0 _).mono ?_
      rintro e w1 ⟨rfl, rfl⟩
      go_wp2_with fail
      refine (within se 1 8 false h1 _).mono ?_
      rintro e w2 ⟨rfl, rfl⟩
      go_wp2_with fail
      go_ret
      exact ⟨rfl, HB.out⟩
    | true =>
      cases h2 : (decide ((1 : Int) ≤ qu) && decide (qu ≤ 16)) with
      | false =>
        go_enter Tryz.func8, Tryz.ntmps8
        go_wp2_with fail
        refine (within st 1 8 true h0 _).mono ?_
        rintro e w1 ⟨rfl, rfl⟩
        go_wp2_with fail
        refine (within se 1 8 true h1 _).mono ?_
        rintro e w2 ⟨rfl, rfl⟩
        go_wp2_with fail
        refine (within qu 1 16 false h2 _).mono ?_
        rintro e w3 ⟨rfl, rfl⟩
        go_wp2_with fail
        go_ret
        exact ⟨rfl, HB.out⟩
      | true =>
        cases h3 : (decide ((1 : Int) ≤ wa) && decide (wa ≤ 8)) with
        | false =>
          go_enter Tryz.func8, Tryz.ntmps8
          go_wp2_with fail
          refine (within st 1 8 true h0 _).mono ?_
          rintro e w1 ⟨rfl, rfl⟩
          go_wp2_with fail
          refine (within se 1 8 true h1 _).mono ?_
          rintro e w2 ⟨rfl, rfl⟩
          go_wp2_with fail
          refine (within qu 1 16 true h2 _).mono ?_
          rintro e w3 ⟨rfl, rfl⟩
          go_wp2_with fail
          refine (within wa 1 8 false h3 _).mono ?_
          rintro e w4 ⟨rfl, rfl⟩
          go_wp2_with fail
          go_ret
          exact ⟨rfl, HB.out⟩
        | true =>
          cases h4 : (decide ((0 : Int) ≤ re) && decide (re ≤ 4)) with
          | false =>
            go_enter Tryz.func8, Tryz.ntmps8
            go_wp2_with fail
            refine (within st 1 8 true h0 _).mono ?_
            rintro e w1 ⟨rfl, rfl⟩
            go_wp2_with fail
            refine (within se 1 8 true h1 _).mono ?_
            rintro e w2 ⟨rfl, rfl⟩
            go_wp2_with fail
            refine (within qu 1 16 true h2 _).mono ?_
            rintro e w3 ⟨rfl, rfl⟩
            go_wp2_with fail
            refine (within wa 1 8 true h3 _).mono ?_
            rintro e w4 ⟨rfl, rfl⟩
            go_wp2_with fail
            refine (within re 0 4 false h4 _).mono ?_
            rintro e w5 ⟨rfl, rfl⟩
            go_wp2_with fail
            go_ret
            exact ⟨rfl, HB.out⟩
          | true =>
            go_enter Tryz.func8, Tryz.ntmps8
            go_wp2_with fail
            refine (within st 1 8 true h0 _).mono ?_
            rintro e w1 ⟨rfl, rfl⟩
            go_wp2_with fail
            refine (within se 1 8 true h1 _).mono ?_
            rintro e w2 ⟨rfl, rfl⟩
            go_wp2_with fail
            refine (within qu 1 16 true h2 _).mono ?_
            rintro e w3 ⟨rfl, rfl⟩
            go_wp2_with fail
            refine (within wa 1 8 true h3 _).mono ?_
            rintro e w4 ⟨rfl, rfl⟩
            go_wp2_with fail
            refine (within re 0 4 true h4 _).mono ?_
            rintro e w5 ⟨rfl, rfl⟩
            go_wp2_with fail
            go_ret
            exact ⟨rfl, HB.out⟩
set_option maxRecDepth 100000 in
set_option maxHeartbeats 1000000 in
theorem new_no (q : Cf) (w : World) (hr : q.right = false) : Calls Tryz.prog 6 #[q.val] w fun e w' => e = .returned (.tuple #[.pointer none, .int .i64 1]) ∧ Below w.heap.size w w' := by
  have bb := (Below.refl w.heap.size w).alloc (Nat.le_refl _) (.cells #[.int .i64 q.st, .int .i64 q.se, .int .i64 q.qu, .int .i64 q.wa, .int .i64 q.re, .int .u64 q.ep, .int .u64 q.sta] 24)
  have HB := Lib.hid bb
  clear bb
  go_enter Tryz.func6, Tryz.ntmps6
  go_wp2_with fail
  refine (right q _ hr).mono ?_
  rintro e w2 ⟨rfl, b2⟩
  have HB2 := Lib.hid (HB.out.trans (b2.mono HB.out.size))
  clear b2
  go_wp2_with fail
  go_ret2
  exact ⟨rfl, HB2.out⟩
theorem run_make_two {P : Program} (t e : TypeId) (z : Value) (ht : P.underlying t = some (.slice e)) (hinfo : (P.info? e).map (fun i => (i.zero, i.size, i.bytes)) = some (some z, 2, 16)) (n : Nat) (hn : n ≤ 1000) (w : World) :
    (Instr.makeSlice t (.int .i64 (n : Int)) (.int .i64 (n : Int))).run P w = .ok (.slice (some ⟨w.heap.size, 0, none⟩) n n) (w.alloc (.cells (madeCells z.cells (n * 2)) e)) := by
  obtain ⟨i, hi, hzz⟩ := Option.map_eq_some_iff.1 hinfo
  simp only [Prod.mk.injEq] at hzz
  obtain ⟨hz, hs, hb⟩ := hzz
  have hr := run_make (P := P) w t e i z ht hi hz .i64 .i64 n n (by omega) (Int.le_refl _) (by rw [hb]; omega) (by omega)
  simp only [Int.toNat_natCast, hs] at hr
  exact hr
theorem made_at (n k : Nat) (hk : k < n * 2) : (madeCells #[.pointer none, .pointer none] (n * 2))[k]? = some (.pointer none) := by
  rw [Array.getElem?_eq_getElem (by rw [size_madeCells]; exact hk)]
  simp only [madeCells, Array.getElem_map, Array.getElem_range]
  rcases Nat.mod_two_eq_zero_or_one k with h | h
  · show some (#[Value.pointer none, .pointer none][k % 2]!) = _
    rw [h]; rfl
  · show some (#[Value.pointer none, .pointer none][k % 2]!) = _
    rw [h]; rfl
/-- on the way of a new table: the stripes below j have their feeds -/
structure NewI (w wr : World) (base : Nat) (bx bm bt : Nat) (q : Cf) (n j : Nat) (arr : Array Value) (g : Nat → Nat) (Sk : Nat → Nat → Prop) : Prop where
  cfg : Is wr bx 24 #[.int .i64 q.st, .int .i64 q.se, .int .i64 q.qu, .int .i64 q.wa, .int .i64 q.re, .int .u64 q.ep, .int .u64 q.sta]
  box : Is wr bm 67 #[.int .i64 q.se, .int .i64 q.wa, .int .u64 q.sta, .int .u64 0, .bool false, .slice (some ⟨bt, 0, none⟩) n n]
  row : Is wr bt 74 arr
  size : arr.size = n * 2
  bk : ∀ k, k < n → arr[k * 2]? = some (.pointer none)
  fd : ∀ k, k < j → arr[k * 2 + 1]? = some (.pointer (some ⟨g k, 0, none⟩))
  feed : ∀ k, k < j → Fed wr base (Sk k) (g k) q.qu.toNat St.zero
  apart : ∀ i k, i < j → k < j → i ≠ k → ∀ x, Sk i x → ¬ Sk k x
  off : ∀ k, k < j → ∀ x, Sk k x → x ≠ bm ∧ x ≠ bt ∧ w.heap.size ≤ x
  lo : w.heap.size ≤ bm ∧ w.heap.size ≤ bt
  bel : Below w.heap.size w wr
theorem NewI.next {w wr w3 : World} {base bx bm bt n j : Nat} {q : Cf} {arr : Array Value} {g : Nat → Nat} {Sk : Nat → Nat → Prop} (h : NewI w wr base bx bm bt q n j arr g Sk) (hj : j < n) (hx : bx ≠ bt) (hm : bm ≠ bt)
    (hF : Fed w3 base (fun x => wr.heap.size ≤ x ∧ x < w3.heap.size) wr.heap.size q.qu.toNat St.zero) (hb : Below wr.heap.size wr w3) :
    NewI w (w3.setCell ⟨bt, j * 2 + 1, none⟩ (.pointer (some ⟨wr.heap.size, 0, none⟩))) base bx bm bt q n (j + 1) (arr.setIfInBounds (j * 2 + 1) (.pointer (some ⟨wr.heap.size, 0, none⟩))) (upd g j wr.heap.size) (upd Sk j (fun x => wr.heap.size ≤ x ∧ x < w3.heap.size)) := by
  have hts := Law.Touch.store (T := fun k => k = bt) w3 ⟨bt, j * 2 + 1, none⟩ (.pointer (some ⟨wr.heap.size, 0, none⟩)) rfl
  have r3 := h.row.below hb h.row.lt
  have hk : Keeps 200 w3 (w3.setCell ⟨bt, j * 2 + 1, none⟩ (.pointer (some ⟨wr.heap.size, 0, none⟩))) := Keeps.store r3 (by decide) _
  have hlt := h.row.lt
  have hlm := h.box.lt
  refine ⟨hts.is (h.cfg.below hb h.cfg.lt) hx, hts.is (h.box.below hb h.box.lt) hm, r3.set _ _ rfl, by simpa using h.size, fun k hk => set_at _ _ _ (by omega) (h.bk k hk), fun k hk' => ?_, fun k hk' => ?_, fun i k hi hk' hne x => ?_, fun k hk' x => ?_, h.lo, ?_⟩
  · by_cases e : k = j
    · subst e
      rw [upd_same, Array.getElem?_setIfInBounds_self_of_lt (by rw [h.size]; omega)]
    · rw [upd_other _ _ e]
      exact set_at _ _ _ (by omega) (h.fd k (by omega))
  · by_cases e : k = j
    · subst e
      rw [upd_same, upd_same]
      exact hF.touch hts (fun x hx e => by have := hx.1; omega) hk
    · rw [upd_other _ _ e, upd_other _ _ e]
      exact ((h.feed k (by omega)).below hb).touch hts (fun x hx e => (h.off k (by omega) x hx).2.1 e) hk
  · by_cases e : i = j
    · subst e
      rw [upd_same, upd_other _ _ (Ne.symm hne)]
      exact fun hx hk2 => by have := ((h.feed k (by omega)).ok x hk2).2; have := hx.1; omega
    · rw [upd_other _ _ e]
      by_cases e' : k = j
      · subst e'
        rw [upd_same]
        exact fun hx hk2 => by have := ((h.feed i (by omega)).ok x hx).2; have := hk2.1; omega
      · rw [upd_other _ _ e']
        exact h.apart i k (by omega) (by omega) hne x
  · by_cases e : k = j
    · subst e
      rw [upd_same]
      exact fun hx => ⟨by have := hx.1; omega, by have := hx.1; omega, by have := hx.1; have := h.bel.size; omega⟩
    · rw [upd_other _ _ e]
      exact h.off k (by omega) x
  · exact (h.bel.trans (hb.mono h.bel.size)).setCell h.lo.2 _
theorem NewI.tab {w wr : World} {base bx bm bt n : Nat} {q : Cf} {arr : Array Value} {g : Nat → Nat} {Sk : Nat → Nat → Prop} (h : NewI w wr base bx bm bt q n n arr g Sk) (hb : base ≤ w.heap.size) (hn : q.st = (n : Int)) :
    ∃ S, Tab wr base S bm (Mo.new q) ∧ ∀ x, S x → w.heap.size ≤ x := by
  have hn' : (Mo.new q).n = n := by show q.st.toNat = n; omega
  have ho : ∀ x, (x = bm ∨ x = bt ∨ ∃ k, k < n ∧ Sk k x) → w.heap.size ≤ x ∧ x < wr.heap.size := fun x hx => by
    rcases hx with rfl | rfl | ⟨k, hk, hx⟩
    · exact ⟨h.lo.1, h.box.lt⟩
    · exact ⟨h.lo.2, h.row.lt⟩
    · exact ⟨(h.off k hk x hx).2.2, ((h.feed k hk).ok x hx).2⟩
  refine ⟨fun x => x = bm ∨ x = bt ∨ ∃ k, k < n ∧ Sk k x, ⟨bt, n, arr, fun _ => none, g, Sk, ?_⟩, fun x hx => (ho x hx).1⟩
  refine ⟨?_, h.row, ?_, ?_, fun _ _ => Booked.nil wr, ?_, ?_, ?_, ?_, .inl rfl, .inr (.inl rfl), ?_, fun x hx => ⟨Nat.le_trans hb (ho x hx).1, (ho x hx).2⟩⟩
  · have : (Mo.new q).cells bt n = #[.int .i64 q.se, .int .i64 q.wa, .int .u64 q.sta, .int .u64 0, .bool false, .slice (some ⟨bt, 0, none⟩) n n] := by unfold Mo.cells; rw [hn']; rfl
    rw [this]; exact h.box
  · rw [hn']; exact h.bk
  · rw [hn']; exact h.fd
  · rw [hn']; exact h.feed
  · rw [hn']; exact h.apart
  · rw [hn']; exact fun k hk hx => (h.off k hk _ hx).1 rfl
  · rw [hn']; exact fun k hk hx => (h.off k hk _ hx).2.1 rfl
  · rw [hn']; exact fun k hk x hx => .inr (.inr ⟨k, hk, hx⟩)
/-- a new table: it lies in new blocks alone -/
def Made (w : World) (base : Nat) (a : Mo) (e : Ending) (w' : World) : Prop := ∃ m S, e = .returned (.tuple #[.pointer (some ⟨m, 0, none⟩), .int .i64 0]) ∧ Tab w' base S m a ∧ (∀ x, S x → w.heap.size ≤ x) ∧ Below w.heap.size w w'
set_option maxRecDepth 100000 in
set_option maxHeartbeats 2000000 in
theorem new_yes (q : Cf) (w : World) {base : Nat} (hbase : base ≤ w.heap.size) (hr : q.right = true) : Calls Tryz.prog 6 #[q.val] w (Made w base (Mo.new q)) := by
  obtain ⟨st, se, qu, wa, re, ep, sta⟩ := q
  have hst := hr
  simp only [Cf.right, Bool.and_eq_true, decide_eq_true_eq] at hst
  obtain ⟨n, rfl⟩ := Int.eq_ofNat_of_zero_le (show 0 ≤ st by omega)
  have bb := (Below.refl w.heap.size w).alloc (Nat.le_refl _) (.cells #[.int .i64 (n : Int), .int .i64 se, .int .i64 qu, .int .i64 wa, .int .i64 re, .int .u64 ep, .int .u64 sta] 24)
  have HB := Lib.hid bb
  have HX := Lib.hid (Is.new w 24 #[.int .i64 (n : Int), .int .i64 se, .int .i64 qu, .int .i64 wa, .int .i64 re, .int .u64 ep, .int .u64 sta] rfl)
  clear bb
  go_enter Tryz.func6, Tryz.ntmps6
  go_wp2_with fail
  generalize (w.alloc (.cells #[.int .i64 (n : Int), .int .i64 se, .int .i64 qu, .int .i64 wa, .int .i64 re, .int .u64 ep, .int .u64 sta] 24)) = w1 at *
  refine (right _ _ hr).mono ?_
  rintro e w2 ⟨rfl, b2⟩
  have bd := Law.below_drewN b2 1
  have HB2 : Hid (Below w.heap.size w w2.drew) := HB.out.trans (bd.mono HB.out.size)
  have HX2 : Hid (Is w2.drew w.heap.size 24 #[.int .i64 (n : Int), .int .i64 se, .int .i64 qu, .int .i64 wa, .int .i64 re, .int .u64 ep, .int .u64 sta]) := HX.out.below bd HX.out.lt
  have HKS : Hid (∀ W, Below w2.drew.heap.size w2.drew W → (W.cell? ⟨w.heap.size, 0, none⟩ = some (.int .i64 (n : Int)) ∧ W.cell? ⟨w.heap.size, 1, none⟩ = some (.int .i64 se) ∧ W.cell? ⟨w.heap.size, 3, none⟩ = some (.int .i64 wa) ∧ w.heap.size < W.heap.size)) := fun W K =>
    ⟨(K.cell (p := ⟨w.heap.size, 0, none⟩) HX2.out.lt).trans (HX2.out.cell' rfl), (K.cell (p := ⟨w.heap.size, 1, none⟩) HX2.out.lt).trans (HX2.out.cell' rfl), (K.cell (p := ⟨w.heap.size, 3, none⟩) HX2.out.lt).trans (HX2.out.cell' rfl), Nat.lt_of_lt_of_le HX2.out.lt K.size⟩
  have lx := HX2.out.lt
  have hmk := fun W => run_make_two (P := Tryz.prog) 65 74 (.agg #[.pointer none, .pointer none]) Tryz.underlying65 (by kernel_rfl) n (by omega) W
  clear b2 HB HX bd
  go_upto_region 3 with (fail)
  refine wp_region_held_drew (S := fun W => W.cell? ⟨w.heap.size, 0, none⟩ = some (.int .i64 (n : Int)) ∧ W.cell? ⟨w.heap.size, 1, none⟩ = some (.int .i64 se) ∧ W.cell? ⟨w.heap.size, 3, none⟩ = some (.int .i64 wa) ∧ w.heap.size < W.heap.size) (by kernel_rfl) (HKS.out _ (Below.refl _ _)) (fun hS0 => ?_)
  refine wpAnyH_take (i := 0) (oi := { dst := some 9, op := .fieldAddr 24 (.tmp 1) 1, type := _, pos := _, after := _, guard := _ }) (v := .pointer (some ⟨w.heap.size, 1, none⟩)) rfl (by kernel_rfl) (by kernel_rfl) (by kernel_rfl) (fun _ _ _ h => h) (Or.inl ⟨by rfl, ?_⟩) hS0 ?_
  · intro w' hSw
    go_simp
  try simp only [Act.put, List.setIfInBounds_toArray, List.set_cons_zero, List.set_cons_succ]
  refine wpAnyH_take (i := 1) (oi := { dst := some 10, op := .load 3 (.tmp 9), type := _, pos := _, after := _, guard := _ }) (v := .int .i64 se) rfl (by kernel_rfl) (by kernel_rfl) (by kernel_rfl) (fun _ _ _ h => h) (Or.inl ⟨by rfl, ?_⟩) hS0 ?_
  · intro w' hSw
    obtain ⟨s1, s2, s3, s4⟩ := hSw
    go_simp
  try simp only [Act.put, List.setIfInBounds_toArray, List.set_cons_zero, List.set_cons_succ]
  refine wpAnyH_take (i := 2) (oi := { dst := some 11, op := .fieldAddr 24 (.tmp 1) 3, type := _, pos := _, after := _, guard := _ }) (v := .pointer (some ⟨w.heap.size, 3, none⟩)) rfl (by kernel_rfl) (by kernel_rfl) (by kernel_rfl) (fun _ _ _ h => h) (Or.inl ⟨by rfl, ?_⟩) hS0 ?_
  · intro w' hSw
    go_simp
  try simp only [Act.put, List.setIfInBounds_toArray, List.set_cons_zero, List.set_cons_succ]
  refine wpAnyH_take (i := 3) (oi := { dst := some 12, op := .load 3 (.tmp 11), type := _, pos := _, after := _, guard := _ }) (v := .int .i64 wa) rfl (by kernel_rfl) (by kernel_rfl) (by kernel_rfl) (fun _ _ _ h => h) (Or.inl ⟨by rfl, ?_⟩) hS0 ?_
  · intro w' hSw
    obtain ⟨s1, s2, s3, s4⟩ := hSw
    go_simp
  try simp only [Act.put, List.setIfInBounds_toArray, List.set_cons_zero, List.set_cons_succ]
  refine wpAnyH_take (i := 4) (oi := { dst := some 13, op := .fieldAddr 24 (.tmp 1) 0, type := _, pos := _, after := _, guard := _ }) (v := .pointer (some ⟨w.heap.size, 0, none⟩)) rfl (by kernel_rfl) (by kernel_rfl) (by kernel_rfl) (fun _ _ _ h => h) (Or.inl ⟨by rfl, ?_⟩) hS0 ?_
  · intro w' hSw
    go_simp
  try simp only [Act.put, List.setIfInBounds_toArray, List.set_cons_zero, List.set_cons_succ]
  refine wpAnyH_take (i := 5) (oi := { dst := some 14, op := .load 3 (.tmp 13), type := _, pos := _, after := _, guard := _ }) (v := .int .i64 (n : Int)) rfl (by kernel_rfl) (by kernel_rfl) (by kernel_rfl) (fun _ _ _ h => h) (Or.inl ⟨by rfl, ?_⟩) hS0 ?_
  · intro w' hSw
    obtain ⟨s1, s2, s3, s4⟩ := hSw
    go_simp
  try simp only [Act.put, List.setIfInBounds_toArray, List.set_cons_zero, List.set_cons_succ]
  generalize w2.drew = w3 at *
  have b4 := (Below.refl w3.heap.size w3).alloc (Nat.le_refl _) (.cells (madeCells #[.pointer none, .pointer none] (n * 2)) 74)
  refine wpAnyH_ready (rs := [6]) (by kernel_rfl) (by simp) ?_
  refine AllReadyH.cons (o := { dst := some 15, op := .makeSlice 65 (.tmp 14) (.tmp 14), type := _, pos := _, after := _, guard := _ }) rfl (fun K hK => ?_) AllReadyH.nil
  go_simp
  refine hK.out _ _ (HKS.out _ b4) (fun hS1 => ?_)
  clear hK K
  try simp only [Act.put, List.setIfInBounds_toArray, List.set_cons_zero, List.set_cons_succ]
  refine wpAnyH_take (i := 7) (oi := { dst := some 16, op := .build 67 #[(0, .tmp 10), (1, .tmp 12), (3, .tmp 15)], type := _, pos := _, after := _, guard := _ }) (v := .agg #[.int .i64 se, .int .i64 wa, .int .u64 0, .int .u64 0, .bool false, .slice (some ⟨w3.heap.size, 0, none⟩) n n]) rfl (by kernel_rfl) (by kernel_rfl) (by kernel_rfl) (fun _ _ _ h => h) (Or.inl ⟨by rfl, ?_⟩) hS1 ?_
  · intro w' hSw
    go_simp
  try simp only [Act.put, List.setIfInBounds_toArray, List.set_cons_zero, List.set_cons_succ]
  have b5 := b4.alloc (by simp) (.cells #[.int .i64 se, .int .i64 wa, .int .u64 0, .int .u64 0, .bool false, .slice (some ⟨w3.heap.size, 0, none⟩) n n] 67)
  refine wpAnyH_ready (rs := [8]) (by kernel_rfl) (by simp) ?_
  refine AllReadyH.cons (o := { dst := some 17, op := .box 67 (.tmp 16), type := _, pos := _, after := _, guard := _ }) rfl (fun K hK => ?_) AllReadyH.nil
  go_simp
  refine hK.out _ _ (HKS.out _ b5) (fun hS2 => ?_)
  clear hK K
  try simp only [Act.put, List.setIfInBounds_toArray, List.set_cons_zero, List.set_cons_succ]
  refine wpAnyH_take (i := 9) (oi := { dst := some 4, op := .assign (.tmp 17), type := _, pos := _, after := _, guard := _ }) (v := .pointer (some ⟨w3.heap.size + 1, 0, none⟩)) rfl (by kernel_rfl) (by kernel_rfl) (by kernel_rfl) (fun _ _ _ h => h) (Or.inl ⟨by rfl, ?_⟩) hS2 ?_
  · intro w' hSw
    go_simp
  try simp only [Act.put, List.setIfInBounds_toArray, List.set_cons_zero, List.set_cons_succ]
  refine wpAnyH_done (by kernel_rfl) ?_ _
  have r0 := (Is.new w3 74 (madeCells #[.pointer none, .pointer none] (n * 2)) rfl).alloc (.cells #[.int .i64 se, .int .i64 wa, .int .u64 0, .int .u64 0, .bool false, .slice (some ⟨w3.heap.size, 0, none⟩) n n] 67)
  have i0 := Is.new (w3.alloc (.cells (madeCells #[.pointer none, .pointer none] (n * 2)) 74)) 67 #[.int .i64 se, .int .i64 wa, .int .u64 0, .int .u64 0, .bool false, .slice (some ⟨w3.heap.size, 0, none⟩) n n] (g := w3.heap.size + 1) (by simp)
  have c0 := HX2.out.below b5 HX2.out.lt
  have s3 := HB2.out.size
  have HB5 := Lib.hid (HB2.out.trans (b5.mono s3))
  have HX6 := HX2
  have HB6 := HB2
  clear HX2 HKS b4 b5 HB2 hS2 hS1 hmk HB5
  have y6 : World.cell? _ ⟨w.heap.size, 6, none⟩ = some (.int .u64 sta) := c0.cell' rfl
  have ly := c0.lt
  have z2 : World.cell? _ ⟨w3.heap.size + 1, 2, none⟩ = some (.int .u64 0) := i0.cell' rfl
  have lz := i0.lt
  have fz := i0.frozen 2
  go_wp2_with fail
  have hbs : w.heap.size < w3.heap.size := hS0.2.2.2
  have H0 : Hid (NewI w ((w3.alloc (.cells (madeCells #[.pointer none, .pointer none] (n * 2)) 74)).alloc (.cells #[.int .i64 se, .int .i64 wa, .int .u64 sta, .int .u64 0, .bool false, .slice (some ⟨w3.heap.size, 0, none⟩) n n] 67)) base w.heap.size (w3.heap.size + 1) w3.heap.size ⟨(n : Int), se, qu, wa, re, ep, sta⟩ n 0 (madeCells #[.pointer none, .pointer none] (n * 2)) (fun _ => 0) (fun _ _ => False)) := by
    have b6 := ((Below.refl w3.heap.size w3).alloc (Nat.le_refl _) (.cells (madeCells #[.pointer none, .pointer none] (n * 2)) 74)).alloc (by simp) (.cells #[.int .i64 se, .int .i64 wa, .int .u64 sta, .int .u64 0, .bool false, .slice (some ⟨w3.heap.size, 0, none⟩) n n] 67)
    exact ⟨HX6.out.below b6 HX6.out.lt, Is.new _ _ _ (by simp), (Is.new w3 _ _ rfl).alloc _, size_madeCells _ _, fun k hk => made_at n _ (by omega), fun k hk => by omega, fun k hk => by omega, fun i k hi => by omega, fun k hk => by omega, ⟨by omega, by omega⟩, HB6.out.trans (b6.mono (by omega))⟩
  generalize ((w3.alloc (.cells (madeCells #[.pointer none, .pointer none] (n * 2)) 74)).alloc (.cells #[.int .i64 se, .int .i64 wa, .int .u64 sta, .int .u64 0, .bool false, .slice (some ⟨w3.heap.size, 0, none⟩) n n] 67)) = w4 at *
  have hbx : w.heap.size ≠ w3.heap.size := by omega
  generalize w3.heap.size = bt at *
  clear HX6 HB6 hS0
  go_loopw [29] (fun vi wr => ∃ (j : Nat) (arr : Array Value) (g : Nat → Nat) (Sk : Nat → Nat → Prop), j ≤ n ∧ vi = .int .i64 j ∧ NewI w wr base w.heap.size (bt + 1) bt ⟨(n : Int), se, qu, wa, re, ep, sta⟩ n j arr g Sk) (fun vi _ => n - (intOf vi).toNat)
  case atStart => exact ⟨0, _, _, _, Nat.zero_le _, rfl, H0.out⟩
  case round =>
    clear H0
    obtain ⟨j, arr, g, Sk, hj, rfl, hN⟩ := hrel
    have HN := Lib.hid hN
    clear hN
    by_cases hlt : j < n
    · have d1 : decide ((j : Int) < (n : Int)) = true := by simp; omega
      have lm := HN.out.box.lt
      have lx2 := HN.out.cfg.lt
      have bd : Below wr.heap.size wr wr.drew := Law.below_drewN (Below.refl _ wr) 1
      have HS : Hid (∀ W, Below wr.heap.size wr W → (W.cell? ⟨bt + 1, 5, none⟩ = some (.slice (some ⟨bt, 0, none⟩) n n) ∧ W.cell? ⟨w.heap.size, 2, none⟩ = some (.int .i64 qu) ∧ bt + 1 < W.heap.size ∧ w.heap.size < W.heap.size)) := fun W K =>
        ⟨(K.cell (p := ⟨bt + 1, 5, none⟩) lm).trans (HN.out.box.cell' rfl), (K.cell (p := ⟨w.heap.size, 2, none⟩) lx2).trans (HN.out.cfg.cell' rfl), Nat.lt_of_lt_of_le lm K.size, Nat.lt_of_lt_of_le lx2 K.size⟩
      have sb := HN.out.bel.size
      have lsz : j * 2 + 1 < arr.size := by rw [HN.out.size]; omega
      go_upto_region 8 with (fail)
      refine wp_region_held_drew (S := fun W => W.cell? ⟨bt + 1, 5, none⟩ = some (.slice (some ⟨bt, 0, none⟩) n n) ∧ W.cell? ⟨w.heap.size, 2, none⟩ = some (.int .i64 qu) ∧ bt + 1 < W.heap.size ∧ w.heap.size < W.heap.size) (by kernel_rfl) (HS.out _ bd) (fun hS0 => ?_)
      refine wpAnyH_take (i := 0) (oi := { dst := some 32, op := .move (.tmp 4), type := _, pos := _, after := _, guard := _ }) (v := .pointer (some ⟨bt + 1, 0, none⟩)) rfl (by kernel_rfl) (by kernel_rfl) (by kernel_rfl) (fun _ _ _ h => h) (Or.inl ⟨by rfl, ?_⟩) hS0 ?_
      · intro w' hSw
        go_simp
      try simp only [Act.put, List.setIfInBounds_toArray, List.set_cons_zero, List.set_cons_succ]
      refine wpAnyH_take (i := 1) (oi := { dst := some 33, op := .nilCheck (.tmp 32), type := _, pos := _, after := _, guard := _ }) (v := .pointer (some ⟨bt + 1, 0, none⟩)) rfl (by kernel_rfl) (by kernel_rfl) (by kernel_rfl) (fun _ _ _ h => h) (Or.inl ⟨by rfl, ?_⟩) hS0 ?_
      · intro w' hSw
        go_simp
      try simp only [Act.put, List.setIfInBounds_toArray, List.set_cons_zero, List.set_cons_succ]
      refine wpAnyH_take (i := 2) (oi := { dst := some 34, op := .fieldAddr 67 (.tmp 33) 3, type := _, pos := _, after := _, guard := _ }) (v := .pointer (some ⟨bt + 1, 5, none⟩)) rfl (by kernel_rfl) (by kernel_rfl) (by kernel_rfl) (fun _ _ _ h => h) (Or.inl ⟨by rfl, ?_⟩) hS0 ?_
      · intro w' hSw
        go_simp
      try simp only [Act.put, List.setIfInBounds_toArray, List.set_cons_zero, List.set_cons_succ]
      refine wpAnyH_take (i := 3) (oi := { dst := some 35, op := .load 65 (.tmp 34), type := _, pos := _, after := _, guard := _ }) (v := .slice (some ⟨bt, 0, none⟩) n n) rfl (by kernel_rfl) (by kernel_rfl) (by kernel_rfl) (fun _ _ _ h => h) (Or.inl ⟨by rfl, ?_⟩) hS0 ?_
      · intro w' hSw
        obtain ⟨s1, s2, s3, s4⟩ := hSw
        go_simp
      try simp only [Act.put, List.setIfInBounds_toArray, List.set_cons_zero, List.set_cons_succ]
      refine wpAnyH_take (i := 4) (oi := { dst := some 36, op := .move (.tmp 5), type := _, pos := _, after := _, guard := _ }) (v := .int .i64 (j : Int)) rfl (by kernel_rfl) (by kernel_rfl) (by kernel_rfl) (fun _ _ _ h => h) (Or.inl ⟨by rfl, ?_⟩) hS0 ?_
      · intro w' hSw
        go_simp
      try simp only [Act.put, List.setIfInBounds_toArray, List.set_cons_zero, List.set_cons_succ]
      refine wpAnyH_take (i := 5) (oi := { dst := some 37, op := .fieldAddr 24 (.tmp 1) 2, type := _, pos := _, after := _, guard := _ }) (v := .pointer (some ⟨w.heap.size, 2, none⟩)) rfl (by kernel_rfl) (by kernel_rfl) (by kernel_rfl) (fun _ _ _ h => h) (Or.inl ⟨by rfl, ?_⟩) hS0 ?_
      · intro w' hSw
        go_simp
      try simp only [Act.put, List.setIfInBounds_toArray, List.set_cons_zero, List.set_cons_succ]
      refine wpAnyH_take (i := 6) (oi := { dst := some 38, op := .load 3 (.tmp 37), type := _, pos := _, after := _, guard := _ }) (v := .int .i64 qu) rfl (by kernel_rfl) (by kernel_rfl) (by kernel_rfl) (fun _ _ _ h => h) (Or.inl ⟨by rfl, ?_⟩) hS0 ?_
      · intro w' hSw
        obtain ⟨s1, s2, s3, s4⟩ := hSw
        go_simp
      try simp only [Act.put, List.setIfInBounds_toArray, List.set_cons_zero, List.set_cons_succ]
      refine wpAnyH_ready (rs := [7]) (by kernel_rfl) (by simp) ?_
      refine AllReadyH.cons (o := { dst := some 39, op := .call { callee := .value (.func 23), args := #[.tmp 38], argTypes := _ }, type := _, pos := _, after := _, guard := _ }) rfl (fun K hK => ?_) AllReadyH.nil
      go_simp
      refine Calls.mono (new qu wr.drew (base := base) (Nat.le_trans hbase sb)) ?_
      rintro e w5 ⟨rfl, hF, b5⟩
      have b6 : Below wr.heap.size wr w5 := bd.trans (b5.mono (Nat.le_refl _))
      have HNX : Hid (NewI w (w5.setCell ⟨bt, j * 2 + 1, none⟩ (.pointer (some ⟨wr.heap.size, 0, none⟩))) base w.heap.size (bt + 1) bt ⟨(n : Int), se, qu, wa, re, ep, sta⟩ n (j + 1) _ _ _) := HN.out.next hlt hbx (by omega) hF b6
      have HR5 := Lib.hid (HN.out.row.below b6 HN.out.row.lt)
      go_wp2_with fail
      refine hK.out _ _ (HS.out _ (bd.trans (b5.mono (Nat.le_refl _)))) (fun hS1 => ?_)
      clear hK K
      try simp only [Act.put, List.setIfInBounds_toArray, List.set_cons_zero, List.set_cons_succ]
      clear hF b5
      refine wpAnyH_take (i := 8) (oi := { dst := some 40, op := .indexAddr 65 (.tmp 35) (.tmp 36), type := _, pos := _, after := _, guard := _ }) (v := .pointer (some ⟨bt, j * 2, none⟩)) rfl (by kernel_rfl) (by kernel_rfl) (by kernel_rfl) (fun _ _ _ h => h) (Or.inl ⟨by rfl, ?_⟩) hS1 ?_
      · intro w' hSw
        go_simp; (try (intro h8; omega))
      try simp only [Act.put, List.setIfInBounds_toArray, List.set_cons_zero, List.set_cons_succ]
      refine wpAnyH_take (i := 9) (oi := { dst := some 41, op := .fieldAddr 74 (.tmp 40) 1, type := _, pos := _, after := _, guard := _ }) (v := .pointer (some ⟨bt, j * 2 + 1, none⟩)) rfl (by kernel_rfl) (by kernel_rfl) (by kernel_rfl) (fun _ _ _ h => h) (Or.inl ⟨by rfl, ?_⟩) hS1 ?_
      · intro w' hSw
        go_simp
      try simp only [Act.put, List.setIfInBounds_toArray, List.set_cons_zero, List.set_cons_succ]
      have z1 := (HR5.out.cell (j * 2 + 1)).trans (Array.getElem?_eq_getElem lsz)
      have zf := HR5.out.frozen (j * 2 + 1)
      have zl := HR5.out.lt
      refine wpAnyH_ready (rs := [10]) (by kernel_rfl) (by simp) ?_
      refine AllReadyH.cons (o := { dst := none, op := .store 68 (.tmp 41) (.tmp 39), type := _, pos := _, after := _, guard := _ }) rfl (fun K hK => ?_) AllReadyH.nil
      go_simp
      refine hK.out _ _ ⟨HNX.out.box.cell' rfl, HNX.out.cfg.cell' rfl, HNX.out.box.lt, HNX.out.cfg.lt⟩ (fun hS2 => ?_)
      clear hK K
      try simp only [Act.put, List.setIfInBounds_toArray, List.set_cons_zero, List.set_cons_succ]
      refine wpAnyH_done (by kernel_rfl) ?_ _
      go_wp2_with fail
      go_roundw
      case rel => exact ⟨j + 1, _, _, _, by omega, by go_num, HNX.out⟩
      case measure => simp [intOf]; omega
    · obtain rfl : j = n := by omega
      have d1 : decide ((j : Int) < (j : Int)) = false := by simp
      obtain ⟨S, hT, hS⟩ := HN.out.tab hbase rfl
      have HT := Lib.hid hT
      have HS := Lib.hid hS
      clear hT hS
      go_wp2_with fail
      go_ret2
      exact ⟨bt + 1, S, rfl, HT.out, HS.out, HN.out.bel⟩
end Mod
end Go.Proofs.YtohdlnefgieenaaGreat
/-
  A table that stays small enough (layer 10): what each act makes of its bounds. Plain.
-/
namespace Go.Proofs.YtohdlnefgieenaaGreat
open Go.RowKit
namespace Mod
open Go.Law Feed Bk
section
variable {a : Mo} {b who : Nat}
theorem Mo.Ok.more {b' : Nat} (h : a.Ok b) (hb : b ≤ b') : a.Ok b' := ⟨h.n1, h.n8, h.room, h.now, h.seq, fun k hk => (h.fit k hk).more hb, fun k hk i hi => Nat.le_trans (h.wat k hk i hi) hb, h.que⟩
theorem upto_le16 {room : Nat} (hr : room ≤ 16) {s : St} (e : Ev) {i : Nat} (h : (s.que i).length ≤ 16) (n : Nat) : ((s.upto room e n).que i).length ≤ 16 := by
  rw [upto_que]
  split
  · unfold putL
    split
    · simp; omega
    · exact h
  · exact h
theorem tell_le16 {room : Nat} (hr : room ≤ 16) (seq : Int) {i : Nat} : ∀ (l : List Cg) (s : St), (s.que i).length ≤ 16 → ((s.tell room l seq).que i).length ≤ 16
  | [], _, h => h
  | c :: r, s, h => by
    show ((St.tell room (s.upto room (c.ev seq) 8) r seq).que i).length ≤ 16
    exact tell_le16 hr seq r _ (upto_le16 hr _ h 8)
theorem tell_wat (room : Nat) (seq : Int) : ∀ (l : List Cg) (s : St), (s.tell room l seq).wat = s.wat
  | [], _ => rfl
  | c :: r, s => by
    show (St.tell room (s.upto room (c.ev seq) 8) r seq).wat = _
    rw [tell_wat room seq r, upto_wat]
theorem take_ok (h : a.Ok b) : a.take.Ok b := ⟨h.n1, h.n8, h.room, h.now, Door.sat_U h.seq Door.U1, h.fit, h.wat, h.que⟩
theorem become_ok {b' : Nat} (h : a.Ok b) (hb : b ≤ b') {k : Nat} {nb : List (ByteArray × En)} (hn : Fit b' nb) (cs : List Ch) (seq : Int) : (a.become k nb cs seq).Ok b' := by
  refine ⟨h.n1, h.n8, h.room, h.now, h.seq, fun i hi => ?_, fun i hi j hj => ?_, fun i hi j hj => ?_⟩
  · show Fit b' (upd a.bk k nb i)
    by_cases e : i = k
    · subst e; rw [upd_same]; exact hn
    · rw [upd_other _ _ e]; exact (h.fit i hi).more hb
  · show ((upd a.fd k _ i).wat j).length ≤ b'
    by_cases e : i = k
    · subst e; rw [upd_same, tell_wat]; exact Nat.le_trans (h.wat i hi j hj) hb
    · rw [upd_other _ _ e]; exact Nat.le_trans (h.wat i hi j hj) hb
  · show ((upd a.fd k _ i).que j).length ≤ 16
    by_cases e : i = k
    · subst e; rw [upd_same]; exact tell_le16 h.room _ _ _ (h.que i hi j hj)
    · rw [upd_other _ _ e]; exact h.que i hi j hj
theorem sweep_ok (h : a.Ok b) (s : Int) : (a.sweep s).Ok b := by
  unfold Mo.sweep
  split
  · rename_i hs
    exact become_ok (take_ok h) (Nat.le_refl _) ((h.fit s.toNat (by omega)).sweep) _ _
  · exact h
theorem tick_ok (h : a.Ok b) {t : Int} (ht : Door.U t) : (a.tick t).Ok b := ⟨h.n1, h.n8, h.room, Door.sat_U h.now ht, h.seq, h.fit, h.wat, h.que⟩
theorem write_ok (h : a.Ok b) (x : OpV) : (a.write x).1.Ok (b + 1) := by
  unfold Mo.write
  split
  · exact (take_ok h).more (by omega)
  · exact become_ok (take_ok h) (by omega) ((h.fit _ (str_lt _ h.n1)).write) _ _
theorem feed1_ok (h : a.Ok b) (k : Nat) (s : St) (h1 : ∀ j, j < 8 → (s.wat j).length ≤ b + 1) (h2 : ∀ j, j < 8 → (s.que j).length ≤ 16) : (a.feed1 k s).Ok (b + 1) := by
  refine ⟨h.n1, h.n8, h.room, h.now, h.seq, fun i hi => (h.fit i hi).more (by omega), fun i hi j hj => ?_, fun i hi j hj => ?_⟩
  · show ((upd a.fd k s i).wat j).length ≤ b + 1
    by_cases e : i = k
    · subst e; rw [upd_same]; exact h1 j hj
    · rw [upd_other _ _ e]; exact Nat.le_succ_of_le (h.wat i hi j hj)
  · show ((upd a.fd k s i).que j).length ≤ 16
    by_cases e : i = k
    · subst e; rw [upd_same]; exact h2 j hj
    · rw [upd_other _ _ e]; exact h.que i hi j hj
theorem watch_ok (h : a.Ok b) (u : ByteArray) : (a.watch who u).1.Ok (b + 1) := by
  unfold Mo.watch
  split
  · exact h.more (by omega)
  · have hk := str_lt u h.n1
    refine feed1_ok h _ _ (fun j hj => ?_) (fun j hj => h.que _ hk j hj)
    show (upd (a.fd (str u a.n)).wat who _ j).length ≤ b + 1
    by_cases e : j = who
    · subst e; rw [upd_same]; have := (putK_length OmapU.lt u 0 ((a.fd (str u a.n)).wat j)).1; have := h.wat _ hk j hj; omega
    · rw [upd_other _ _ e]; exact Nat.le_succ_of_le (h.wat _ hk j hj)
theorem unwatch_ok (h : a.Ok b) (u : ByteArray) : (a.unwatch who u).Ok (b + 1) := by
  unfold Mo.unwatch
  have hk := str_lt u h.n1
  refine feed1_ok h _ _ (fun j hj => ?_) (fun j hj => h.que _ hk j hj)
  show (upd (a.fd (str u a.n)).wat who _ j).length ≤ b + 1
  by_cases e : j = who
  · subst e; rw [upd_same]; have := outK_length u ((a.fd (str u a.n)).wat j); have := h.wat _ hk j hj; omega
  · rw [upd_other _ _ e]; exact Nat.le_succ_of_le (h.wat _ hk j hj)
theorem poll_ok (h : a.Ok b) : (a.poll who).1.Ok (b + 1) := by
  refine ⟨h.n1, h.n8, h.room, h.now, h.seq, fun i hi => (h.fit i hi).more (by omega), fun i hi j hj => ?_, fun i hi j hj => ?_⟩
  · show ((if i < a.n then drained who (a.fd i) else a.fd i).wat j).length ≤ b + 1
    split
    · exact Nat.le_succ_of_le (h.wat i hi j hj)
    · exact Nat.le_succ_of_le (h.wat i hi j hj)
  · show ((if i < a.n then drained who (a.fd i) else a.fd i).que j).length ≤ 16
    split
    · show (upd (a.fd i).que who [] j).length ≤ 16
      by_cases e : j = who
      · subst e; rw [upd_same]; simp
      · rw [upd_other _ _ e]; exact h.que i hi j hj
    · exact h.que i hi j hj
theorem do_ok (h : a.Ok b) (who : Int) (q : OpW) : (a.do_ who q).1.Ok (b + 1) := by
  have hm := h.more (Nat.le_succ b)
  unfold Mo.do_
  split
  · unfold Mo.ask
    split
    · exact write_ok h _
    · split
      · exact poll_ok h
      · split
        · exact hm
        · split
          · exact hm
          · split
            · exact hm
            · split
              · exact watch_ok h _
              · split
                · exact unwatch_ok h _
                · exact ⟨hm.n1, hm.n8, hm.room, hm.now, hm.seq, hm.fit, hm.wat, hm.que⟩
  · exact hm
end
end Mod
end Go.Proofs.YtohdlnefgieenaaGreat

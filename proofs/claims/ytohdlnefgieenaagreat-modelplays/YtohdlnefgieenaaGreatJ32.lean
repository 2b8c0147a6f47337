/-
  What the reference's Right and New (layer 10) come to.
-/
import Derived.Test.YtohdlnefgieenaaGreatJ31
import Derived.Test.YtohdlnefgieenaaGreatJ25
namespace Go.Proofs.YtohdlnefgieenaaGreat
open Go.RowKit Go.Shelf
attribute [local go_sem] Oper.semAt_some
namespace Mod
open Go.Law Feed Bk
theorem right_eq (q : Cf) : q.right = true ↔ (1 ≤ q.st ∧ q.st ≤ 8) ∧ (1 ≤ q.se ∧ q.se ≤ 8) ∧ (1 ≤ q.qu ∧ q.qu ≤ 16) ∧ (1 ≤ q.wa ∧ q.wa ≤ 8) ∧ 0 ≤ q.re ∧ q.re ≤ 4 := by
 unfold Cf.right
 simp only [Bool.and_eq_true, decide_eq_true_eq]
set_option maxRecDepth 100000 in
set_option maxHeartbeats 2000000 in
theorem rright (q : Cf) (w : World) {r : Bool} (hr : q.right = r) : Calls Tryz.prog 7 #[q.val] w fun e w' => e = .returned (.bool r) ∧ Below w.heap.size w w' := by
 have hq := right_eq q
 rw [hr] at hq
 obtain ⟨st, se, qu, wa, re, ep, sta⟩ := q
 simp only at hq
 clear hr
 have bb := (Below.refl w.heap.size w).alloc (Nat.le_refl _) (.cells #[.int .i64 st, .int .i64 se, .int .i64 qu, .int .i64 wa, .int .i64 re, .int .u64 ep, .int .u64 sta] 24)
 have HB := Lib.hid bb
 clear bb
 by_cases h0 : 0 < st
 ·have e0 : decide (0 < st) = true := decide_eq_true h0
  by_cases h1 : st < 9
  ·have e1 : decide (st < 9) = true := decide_eq_true h1
   by_cases h2 : 0 < se
   ·have e2 : decide (0 < se) = true := decide_eq_true h2
    by_cases h3 : se < 9
    ·have e3 : decide (se < 9) = true := decide_eq_true h3
     by_cases h4 : 0 < qu
     ·have e4 : decide (0 < qu) = true := decide_eq_true h4
      by_cases h5 : qu < 17
      ·have e5 : decide (qu < 17) = true := decide_eq_true h5
       by_cases h6 : 0 < wa
       ·have e6 : decide (0 < wa) = true := decide_eq_true h6
        by_cases h7 : wa < 9
        ·have e7 : decide (wa < 9) = true := decide_eq_true h7
         by_cases h8 : 0 ≤ re
         ·have e8 : decide (0 ≤ re) = true := decide_eq_true h8
          by_cases h9 : re < 5
          ·have e9 : decide (re < 5) = true := decide_eq_true h9
           obtain rfl : r = true := hq.2 (by omega)
           go_enter Tryz.func7, Tryz.ntmps7
           go_wp2_with fail
           go_ret
           exact ⟨rfl, HB.out⟩
          ·have e9 : decide (re < 5) = false := decide_eq_false h9
           obtain rfl : r = false := by cases r with | false => rfl | true => (have := hq.1 rfl; omega)
           go_enter Tryz.func7, Tryz.ntmps7
           go_wp2_with fail
           go_ret
           exact ⟨rfl, HB.out⟩
         ·have e8 : decide (0 ≤ re) = false := decide_eq_false h8
          obtain rfl : r = false := by cases r with | false => rfl | true => (have := hq.1 rfl; omega)
          go_enter Tryz.func7, Tryz.ntmps7
          go_wp2_with fail
          go_ret
          exact ⟨rfl, HB.out⟩
        ·have e7 : decide (wa < 9) = false := decide_eq_false h7
         obtain rfl : r = false := by cases r with | false => rfl | true => (have := hq.1 rfl; omega)
         go_enter Tryz.func7, Tryz.ntmps7
         go_wp2_with fail
         go_ret
         exact ⟨rfl, HB.out⟩
       ·have e6 : decide (0 < wa) = false := decide_eq_false h6
        obtain rfl : r = false := by cases r with | false => rfl | true => (have := hq.1 rfl; omega)
        go_enter Tryz.func7, Tryz.ntmps7
        go_wp2_with fail
        go_ret
        exact ⟨rfl, HB.out⟩
      ·have e5 : decide (qu < 17) = false := decide_eq_false h5
       obtain rfl : r = false := by cases r with | false => rfl | true => (have := hq.1 rfl; omega)
       go_enter Tryz.func7, Tryz.ntmps7
       go_wp2_with fail
       go_ret
       exact ⟨rfl, HB.out⟩
     ·have e4 : decide (0 < qu) = false := decide_eq_false h4
      obtain rfl : r = false := by cases r with | false => rfl | true => (have := hq.1 rfl; omega)
      go_enter Tryz.func7, Tryz.ntmps7
      go_wp2_with fail
      go_ret
      exact ⟨rfl, HB.out⟩
    ·have e3 : decide (se < 9) = false := decide_eq_false h3
     obtain rfl : r = false := by cases r with | false => rfl | true => (have := hq.1 rfl; omega)
     go_enter Tryz.func7, Tryz.ntmps7
     go_wp2_with fail
     go_ret
     exact ⟨rfl, HB.out⟩
   ·have e2 : decide (0 < se) = false := decide_eq_false h2
    obtain rfl : r = false := by cases r with | false => rfl | true => (have := hq.1 rfl; omega)
    go_enter Tryz.func7, Tryz.ntmps7
    go_wp2_with fail
    go_ret
    exact ⟨rfl, HB.out⟩
  ·have e1 : decide (st < 9) = false := decide_eq_false h1
   obtain rfl : r = false := by cases r with | false => rfl | true => (have := hq.1 rfl; omega)
   go_enter Tryz.func7, Tryz.ntmps7
   go_wp2_with fail
   go_ret
   exact ⟨rfl, HB.out⟩
 ·have e0 : decide (0 < st) = false := decide_eq_false h0
  obtain rfl : r = false := by cases r with | false => rfl | true => (have := hq.1 rfl; omega)
  go_enter Tryz.func7, Tryz.ntmps7
  go_wp2_with fail
  go_ret
  exact ⟨rfl, HB.out⟩
theorem own_is {w : World} {base n : Nat} {e : TypeId} {v : Value} {xs : List Value} (h : w.ownsRow base e 1 v n xs) (hn : 0 < n) : ∃ g cap cur, v = .slice (some ⟨g, 0, none⟩) n cap ∧ base ≤ g ∧ Is w g e cur ∧ ∀ (i : Nat) u, xs[i]? = some u → cur[i]? = some u := by
 rcases h.2 with ⟨_, h2⟩ | ⟨k, cap, cur, hv, hk, hh, hr⟩
 ·omega
 ·refine ⟨k, cap, cur, hv, hk, hh, fun i u hu => ?_⟩
  rw [← hr.2.2.2] at hu
  rw [List.getElem?_take] at hu
  split at hu
  ·simpa using hu
  ·cases hu
theorem newFeed {w : World} {g : Nat} {room : Int} (h : Is w g 81 (cellsRf room (.slice none 0 0) (fun _ => .slice none 0 0) (fun _ => false))) : RefAt w (fun _ => False) g room [] (fun _ => []) (fun _ => false) :=
 ⟨_, _, h, fun h => h, fun _ h => h.elim, ⟨none, 0, rfl, fun h => absurd rfl h⟩, fun _ _ => ⟨none, 0, rfl, fun h => absurd rfl h⟩, fun _ _ _ _ _ e => by injection e with _ e2 e3; omega⟩
structure RNewI (w W : World) (t n : Nat) (q : Cf) (sb sf : Nat) (vb vf : Value) (gs : List Nat) : Prop where
 box : Is W t 55 #[.int .i64 (n : Int), .int .i64 q.se, .int .i64 q.qu, .int .i64 q.wa, .int .i64 q.re, .int .u64 q.ep, .int .u64 q.sta, .int .u64 q.sta, .int .u64 0, .bool false, vb, vf]
 cfg : Is W w.heap.size 24 #[.int .i64 (n : Int), .int .i64 q.se, .int .i64 q.qu, .int .i64 q.wa, .int .i64 q.re, .int .u64 q.ep, .int .u64 q.sta]
 bk : W.ownsRow (t + 1) 84 1 vb sb (List.replicate sb (.slice none 0 0))
 fd : W.ownsRow (t + 1) 76 1 vf sf (gs.map fun g => .pointer (some ⟨g, 0, none⟩))
 len : gs.length = sf
 feed : ∀ g ∈ gs, t < g ∧ Is W g 81 (cellsRf q.qu (.slice none 0 0) (fun _ => .slice none 0 0) (fun _ => false))
 nd : gs.Nodup
 bel : Below w.heap.size w W
 lt : w.heap.size < t
section
variable {w W w1 : World} {t n sb sf g : Nat} {q : Cf} {vb vf v1 : Value} {gs : List Nat}
theorem RNewI.below (h : RNewI w W t n q sb sf vb vf gs) (hb : Below W.heap.size W w1) : RNewI w w1 t n q sb sf vb vf gs :=
 ⟨h.box.below hb h.box.lt, h.cfg.below hb h.cfg.lt, own_below h.bk hb, own_below h.fd hb, h.len, fun g hg => ⟨(h.feed g hg).1, (h.feed g hg).2.below hb (h.feed g hg).2.lt⟩, h.nd, h.bel.trans (hb.mono h.bel.size), h.lt⟩
theorem rows_apart {W : World} {base : Nat} {e e' : TypeId} {n m k : Nat} {v v' : Value} {xs ys : List Value} (h : W.ownsRow base e 1 v n xs) (h' : W.ownsRow base e' 1 v' m ys) (hne : e ≠ e') (hk : v.ownBlock = some k) : v'.ownBlock ≠ some k := fun hk' => by
 rcases h.2 with ⟨rfl, _⟩ | ⟨g, cap, cur, rfl, _, hh, _⟩
 ·cases hk
 ·have e1 : g = k := by simpa [Value.ownBlock] using hk
  subst e1
  exact own_ne h' (t := e) (cs := cur) hh (fun e => hne e.symm) hk'
theorem RNewI.bks (h : RNewI w W t n q sb sf vb vf gs) (hg : W.grownBy w1 vb.ownBlock) (hown : w1.ownsRow (t + 1) 84 1 v1 (sb + 1) (List.replicate (sb + 1) (.slice none 0 0))) : RNewI w (w1.setCell ⟨t, 10, none⟩ v1) t n q (sb + 1) sf v1 vf gs := by
 have ht : Law.Touch W w1 (fun k => t < k) := Law.Touch.grown hg (fun k hk => (h.bk.lt k hk).1)
 have hl := h.lt
 have hs := Law.Touch.store (T := fun k => k = t) w1 ⟨t, 10, none⟩ v1 rfl
 have hfd : w1.ownsRow (t + 1) 76 1 vf sf (gs.map fun g => .pointer (some ⟨g, 0, none⟩)) := (Law.Touch.grown (T := fun k => vb.ownBlock = some k) hg (fun _ hk => hk)).own h.fd (fun k hk hk' => rows_apart h.bk h.fd (by decide) hk' hk)
 refine ⟨(ht.is h.box (by omega)).set 10 v1 rfl, (ht.is h.cfg (by omega)).far (p := ⟨t, 10, none⟩) (by show _ ≠ t; omega) _, hs.own hown (fun k hk e => by have := (hown.lt k hk).1; omega), hs.own hfd (fun k hk e => by have := (hfd.lt k hk).1; omega), h.len, fun g hg' => ⟨(h.feed g hg').1, ((Keeps.grown h.bk hg (by decide)).is (h.feed g hg').2).far (p := ⟨t, 10, none⟩) (by have := (h.feed g hg').1; show g ≠ t; omega) _⟩, h.nd, ?_, h.lt⟩
 exact (ht.below h.bel (fun k hk => by omega) h.bel.size).setCell (p := ⟨t, 10, none⟩) (by show _ ≤ t; omega) _
theorem RNewI.fds (h : RNewI w W t n q sb sf vb vf gs) (htg : t < g) (hng : g ∉ gs) (hfe : Is W g 81 (cellsRf q.qu (.slice none 0 0) (fun _ => .slice none 0 0) (fun _ => false))) (hg : W.grownBy w1 vf.ownBlock) (hown : w1.ownsRow (t + 1) 76 1 v1 (sf + 1) ((gs ++ [g]).map fun g => .pointer (some ⟨g, 0, none⟩))) : RNewI w (w1.setCell ⟨t, 11, none⟩ v1) t n q sb (sf + 1) vb v1 (gs ++ [g]) := by
 have ht : Law.Touch W w1 (fun k => t < k) := Law.Touch.grown hg (fun k hk => (h.fd.lt k hk).1)
 have hl := h.lt
 have hs := Law.Touch.store (T := fun k => k = t) w1 ⟨t, 11, none⟩ v1 rfl
 have hbk : w1.ownsRow (t + 1) 84 1 vb sb (List.replicate sb (.slice none 0 0)) := (Law.Touch.grown (T := fun k => vf.ownBlock = some k) hg (fun _ hk => hk)).own h.bk (fun k hk hk' => rows_apart h.fd h.bk (by decide) hk' hk)
 refine ⟨(ht.is h.box (by omega)).set 11 v1 rfl, (ht.is h.cfg (by omega)).far (p := ⟨t, 11, none⟩) (by show _ ≠ t; omega) _, hs.own hbk (fun k hk e => by have := (hbk.lt k hk).1; omega), hs.own hown (fun k hk e => by have := (hown.lt k hk).1; omega), by simp [h.len], fun k hk => ?_, ?_, ?_, h.lt⟩
 ·rcases List.mem_append.1 hk with hk | hk
  ·exact ⟨(h.feed k hk).1, ((Keeps.grown h.fd hg (by decide)).is (h.feed k hk).2).far (p := ⟨t, 11, none⟩) (by have := (h.feed k hk).1; show k ≠ t; omega) _⟩
  ·obtain rfl := List.mem_singleton.1 hk
   exact ⟨htg, ((Keeps.grown h.fd hg (by decide)).is hfe).far (p := ⟨t, 11, none⟩) (by show k ≠ t; omega) _⟩
 ·rw [List.nodup_append]
  exact ⟨h.nd, by simp, fun a ha b hb e => by obtain rfl := List.mem_singleton.1 hb; exact hng (e ▸ ha)⟩
 ·exact (ht.below h.bel (fun k hk => by omega) h.bel.size).setCell (p := ⟨t, 11, none⟩) (by show _ ≤ t; omega) _
theorem RNewI.tab {q : Cf} {base : Nat} (h : RNewI w W t n q n n vb vf gs) (hbase : base ≤ w.heap.size) (hn : 1 ≤ n) (hst : q.st = (n : Int)) (hqu : 0 ≤ q.qu) : RTab W base (fun y => w.heap.size ≤ y ∧ y < W.heap.size) 0 t q (Mo.new q) := by
 obtain ⟨b, cb, cur, rfl, hb1, hb2, hb3⟩ := own_is h.bk hn
 obtain ⟨f, cf, cuf, rfl, hf1, hf2, hf3⟩ := own_is h.fd hn
 have hl := h.lt
 have hgl := h.len
 have hsz := h.bel.size
 have en : (Mo.new q).n = n := by show q.st.toNat = n; rw [hst]; simp
 have er : ((Mo.new q).room : Int) = q.qu := by show ((q.qu.toNat : Nat) : Int) = q.qu; omega
 have hat : ∀ k, k < n → ∃ g, gs[k]? = some g ∧ gs.getD k 0 = g ∧ g ∈ gs := fun k hk => ⟨gs[k]'(by omega), List.getElem?_eq_getElem _, by simp [List.getD_eq_getElem?_getD, List.getElem?_eq_getElem (show k < gs.length by omega)], List.getElem_mem _⟩
 refine ⟨b, f, cb, cf, cur, cuf, fun k => gs.getD k 0, fun _ _ => False, fun _ => [], ?_, ?_, ?_, ?_, fun y hy => ⟨Nat.le_trans hbase hy.1, hy.2⟩⟩
 ·have h1 := h.box
  have e2 : (Mo.new q).rcells q b f cb cf = #[.int .i64 (n : Int), .int .i64 q.se, .int .i64 q.qu, .int .i64 q.wa, .int .i64 q.re, .int .u64 q.ep, .int .u64 q.sta, .int .u64 q.sta, .int .u64 0, .bool false, .slice (some ⟨b, 0, none⟩) n cb, .slice (some ⟨f, 0, none⟩) n cf] := by
   unfold Mo.rcells; rw [en, er]; rfl
  rw [e2]; exact h1
 ·rw [en]
  refine ⟨hb2, hf2, fun k hk => ⟨none, 0, by show cur[k]? = some (.slice none 0 0); exact hb3 k _ (by simp [hk]), [], Lain.nil, fun _ h => (by cases h), rfl⟩, fun k hk => ?_, fun k hk => ?_, fun k hk => PI.nil 0 (fun _ _ => rfl), fun i j hi hj hij => ?_, fun _ _ _ _ h => h, fun _ _ => ⟨fun h => h, fun h => h, fun h => h⟩⟩
  ·obtain ⟨g, h1, h2, _⟩ := hat k hk
   rw [h2]
   exact hf3 k _ (by simp [h1])
  ·obtain ⟨g, h1, h2, h3⟩ := hat k hk
   show RefAt W (fun _ => False) (gs.getD k 0) ((Mo.new q).room : Int) [] (fun _ => []) (fun _ => false)
   rw [h2, er]
   exact newFeed (h.feed g h3).2
  ·obtain ⟨g, h1, h2, _⟩ := hat i hi
   obtain ⟨g', h1', h2', _⟩ := hat j hj
   rw [h2, h2']
   intro e
   subst e
   obtain ⟨l1, e1⟩ := List.getElem?_eq_some_iff.1 h1
   obtain ⟨l2, e2⟩ := List.getElem?_eq_some_iff.1 h1'
   have hp := List.pairwise_iff_getElem.1 h.nd
   rcases Nat.lt_or_gt_of_ne hij with h5 | h5
   ·exact hp i j l1 l2 h5 (e1.trans e2.symm)
   ·exact hp j i l2 l1 h5 (e2.trans e1.symm)
 ·exact ⟨⟨by omega, h.box.lt⟩, ⟨by omega, hb2.lt⟩, ⟨by omega, hf2.lt⟩⟩
 ·rw [en]
  intro k hk
  obtain ⟨g, h1, h2, h3⟩ := hat k hk
  have := h.feed g h3
  refine ⟨by rw [h2]; exact ⟨by omega, this.2.lt⟩, fun y hy => hy.elim⟩
end
set_option maxRecDepth 100000 in
set_option maxHeartbeats 4000000 in
theorem rnew (q : Cf) (w : World) {base : Nat} (hbase : base ≤ w.heap.size) (hr : q.right = true) :
  Calls Tryz.prog 9 #[q.val] w fun e w' => ∃ t Q, e = .returned (.pointer (some ⟨t, 0, none⟩)) ∧ RTab w' base Q 0 t q (Mo.new q) ∧ (∀ y, Q y → w.heap.size ≤ y) ∧ Below w.heap.size w w' := by
 have hq := (right_eq q).1 hr
 obtain ⟨st, se, qu, wa, re, ep, sta⟩ := q
 simp only at hq
 obtain ⟨n, rfl⟩ := Int.eq_ofNat_of_zero_le (show 0 ≤ st by omega)
 obtain ⟨room, rfl⟩ := Int.eq_ofNat_of_zero_le (show 0 ≤ qu by omega)
 have hn8 : n ≤ 8 := by omega
 have hn1 : 1 ≤ n := by omega
 obtain ⟨i1, hE1⟩ : ∃ i, Law.Elem Tryz.prog 52 84 i (.slice none 0 0) 1 24 := Law.Elem.of Tryz.underlying52 (by kernel_rfl) rfl (by decide)
 obtain ⟨i2, hE2⟩ : ∃ i, Law.Elem Tryz.prog 53 76 i (.pointer none) 1 8 := Law.Elem.of Tryz.underlying53 (by kernel_rfl) rfl (by decide)
 have HE1 := Lib.hid hE1
 have HE2 := Lib.hid hE2
 clear hE1 hE2
 have H0 : Hid (RNewI w ((w.alloc (.cells #[.int .i64 (n : Int), .int .i64 se, .int .i64 (room : Int), .int .i64 wa, .int .i64 re, .int .u64 ep, .int .u64 sta] 24)).alloc (.cells #[.int .i64 (n : Int), .int .i64 se, .int .i64 (room : Int), .int .i64 wa, .int .i64 re, .int .u64 ep, .int .u64 sta, .int .u64 sta, .int .u64 0, .bool false, .slice none 0 0, .slice none 0 0] 55)) (w.heap.size + 1) n ⟨n, se, room, wa, re, ep, sta⟩ 0 0 (.slice none 0 0) (.slice none 0 0) []) := by
  have b0 := ((Below.refl w.heap.size w).alloc (Nat.le_refl _) (.cells #[.int .i64 (n : Int), .int .i64 se, .int .i64 (room : Int), .int .i64 wa, .int .i64 re, .int .u64 ep, .int .u64 sta] 24)).alloc (by simp) (.cells #[.int .i64 (n : Int), .int .i64 se, .int .i64 (room : Int), .int .i64 wa, .int .i64 re, .int .u64 ep, .int .u64 sta, .int .u64 sta, .int .u64 0, .bool false, .slice none 0 0, .slice none 0 0] 55)
  exact ⟨Is.new _ _ _ (by simp), (Is.new w _ _ rfl).alloc _, World.ownsRow_nil _ _ _ _, World.ownsRow_nil _ _ _ _, rfl, fun _ h => (by cases h), List.nodup_nil, b0, by omega⟩
 go_enter Tryz.func9, Tryz.ntmps9
 go_upto_region 3 with (fail)
 generalize ((w.alloc (.cells #[.int .i64 (n : Int), .int .i64 se, .int .i64 (room : Int), .int .i64 wa, .int .i64 re, .int .u64 ep, .int .u64 sta] 24)).alloc (.cells #[.int .i64 (n : Int), .int .i64 se, .int .i64 (room : Int), .int .i64 wa, .int .i64 re, .int .u64 ep, .int .u64 sta, .int .u64 sta, .int .u64 0, .bool false, .slice none 0 0, .slice none 0 0] 55)) = w3 at *
 obtain ⟨t, ht⟩ : ∃ t, w.heap.size + 1 = t := ⟨_, rfl⟩
 rw [ht] at H0 ⊢
 clear ht
 go_wp2_with fail
 go_loopw [4] (fun vs wr => ∃ (s : Nat) (vb vf : Value) (gs : List Nat), s ≤ n ∧ vs = .int .i64 s ∧ RNewI w wr t n ⟨n, se, room, wa, re, ep, sta⟩ s s vb vf gs) (fun vs _ => n - (intOf vs).toNat)
 case atStart => exact ⟨0, _, _, [], Nat.zero_le _, rfl, H0.out⟩
 case round =>
  clear H0
  obtain ⟨s, vb, vf, gs, hs, rfl, hN⟩ := hrel
  obtain ⟨Ab, cb, rfl, hcb⟩ := own_shape hN.bk
  obtain ⟨Af, cf, rfl, hcf⟩ := own_shape hN.fd
  have HN := Lib.hid hN
  clear hN
  have k0 := HN.out.cfg.cell' (i := 0) rfl
  have kl := HN.out.cfg.lt
  by_cases hlt : s < n
  ·have d1 : decide ((s : Int) < (n : Int)) = true := by simp; omega
   have b10 := HN.out.box.cell' (i := 10) rfl
   have bl := HN.out.box.lt
   have hbw : t + 1 ≤ wr.heap.size := bl
   go_upto_region 7 with (at_builtin; refine wpList_append_own _ rfl _ _ 52 rfl (t + 1) 84 i1 (.slice none 0 0) 1 24 HE1.out.ut HE1.out.info HE1.out.zero HE1.out.sz HE1.out.by_ HE1.out.cells HE1.out.pos _ _ _ rfl (HN.out.bk.alloc _) ⟨wr.heap.size, 0, none⟩ 1 1 [.slice none 0 0] rfl rfl ?_ ?_ (by unfold maxLen; omega) (by omega) (by simp; omega) ?_; (intro jj uu huu; have h0 : jj = 0 := by have := (List.getElem?_eq_some_iff.1 huu).1; simpa using this); (subst h0; simp at huu; subst huu; simp [Addr.add]); (intro uu huu; simp at huu; subst huu; rfl); intro v1 w1 hown hgr _; obtain ⟨A1, c1, rfl, _⟩ := own_shape hown; have bq := (Below.refl wr.heap.size wr).alloc (Nat.le_refl _) (.cells #[.slice none 0 0] 84); have HA := Lib.hid (HN.out.below bq); have HX := Lib.hid (HA.out.bks hgr (by rw [List.replicate_succ']; exact hown)); have ht1 : Law.Touch (wr.alloc (.cells #[.slice none 0 0] 84)) w1 (fun k => t < k) := Law.Touch.grown hgr (fun k hk => (HA.out.bk.lt k hk).1); have hib := ht1.is HA.out.box (by omega); have z10 := hib.cell' (i := 10) rfl; have zf := hib.frozen 10; have zl := hib.lt; clear hown hgr bq ht1 hib)
   generalize w1.setCell ⟨t, 10, none⟩ (.slice A1 (s + 1) c1) = w2 at *
   clear HN HA k0 kl b10 bl z10 zf zl
   have hbw2 : t + 1 ≤ w2.heap.size := HX.out.box.lt
   have HKS : Hid (∀ W', Is W' w.heap.size 24 #[.int .i64 (n : Int), .int .i64 se, .int .i64 (room : Int), .int .i64 wa, .int .i64 re, .int .u64 ep, .int .u64 sta] → W'.cell? ⟨w.heap.size, 2, none⟩ = some (.int .i64 (room : Int))) := fun W' hi => hi.cell' rfl
   go_wp2_with fail
   have bd : Below w2.heap.size w2 w2.drew := Law.below_drewN (Below.refl _ _) 1
   have HXd := Lib.hid (HX.out.below bd)
   refine wp_region_held_drew (S := fun w' => w'.cell? ⟨w.heap.size, 2, none⟩ = some (.int .i64 (room : Int))) (by kernel_rfl) (HKS.out _ HXd.out.cfg) (fun hS0 => ?_)
   refine Go.Law.tk 0 ⟨some 29, .move (.tmp 3), _, _, _, _⟩ (v := .pointer (some ⟨t, 0, none⟩)) hS0 ?_ ?_
   ·intro w' hSw
    go_simp
   try simp only [Go.Law.pz]
   refine Go.Law.tk 1 ⟨some 30, .move (.tmp 3), _, _, _, _⟩ (v := .pointer (some ⟨t, 0, none⟩)) hS0 ?_ ?_
   ·intro w' hSw
    go_simp
   try simp only [Go.Law.pz]
   refine Go.Law.tk 2 ⟨some 31, .nilCheck (.tmp 30), _, _, _, _⟩ (v := .pointer (some ⟨t, 0, none⟩)) hS0 ?_ ?_
   ·intro w' hSw
    go_simp
   try simp only [Go.Law.pz]
   refine Go.Law.tk 3 ⟨some 32, .fieldAddr 55 (.tmp 31) 3, _, _, _, _⟩ (v := .pointer (some ⟨t, 11, none⟩)) hS0 ?_ ?_
   ·intro w' hSw
    go_simp
   try simp only [Go.Law.pz]
   refine Go.Law.tk 5 ⟨some 34, .fieldAddr 24 (.tmp 1) 2, _, _, _, _⟩ (v := .pointer (some ⟨w.heap.size, 2, none⟩)) hS0 ?_ ?_
   ·intro w' hSw
    go_simp
   try simp only [Go.Law.pz]
   refine Go.Law.tk 6 ⟨some 35, .load 3 (.tmp 34), _, _, _, _⟩ (v := .int .i64 (room : Int)) hS0 ?_ ?_
   ·intro w' hSw
    have s1 := hSw
    go_simp
   try simp only [Go.Law.pz]
   refine Go.Law.tk 7 ⟨some 36, .build 81 #[(0, .tmp 35)], _, _, _, _⟩ (v := .agg #[.int .i64 (room : Int), .slice none 0 0, .slice none 0 0, .slice none 0 0, .slice none 0 0, .slice none 0 0, .slice none 0 0, .slice none 0 0, .slice none 0 0, .slice none 0 0, .bool false, .bool false, .bool false, .bool false, .bool false, .bool false, .bool false, .bool false]) hS0 ?_ ?_
   ·intro w' hSw
    go_simp
   try simp only [Go.Law.pz]
   clear hS0 HX bd
   generalize w2.drew = W0 at *
   refine wpAnyH_ready (rs := [4, 8]) (by kernel_rfl) (by simp) ?_
   refine AllReadyH.cons (o := ⟨some 33, .load 53 (.tmp 32), _, _, _, _⟩) rfl (fun K' hK => ?_) ?_
   ·have cl : W0.cell? ⟨t, 11, none⟩ = some (.slice Af s cf) := HXd.out.box.cell' rfl
    go_simp
    refine hK.out _ _ (HKS.out _ HXd.out.cfg) (fun _ => ?_)
    clear hK K' cl
    try simp only [Go.Law.pz]
    refine wpAnyH_ready (rs := [8]) (by kernel_rfl) (by simp) ?_
    refine AllReadyH.cons (o := ⟨some 37, .box 81 (.tmp 36), _, _, _, _⟩) rfl (fun K' hK => ?_) AllReadyH.nil
    have bq := (Below.refl W0.heap.size W0).alloc (Nat.le_refl _) (.cells #[.int .i64 (room : Int), .slice none 0 0, .slice none 0 0, .slice none 0 0, .slice none 0 0, .slice none 0 0, .slice none 0 0, .slice none 0 0, .slice none 0 0, .slice none 0 0, .bool false, .bool false, .bool false, .bool false, .bool false, .bool false, .bool false, .bool false] 81)
    have HX2 := Lib.hid (HXd.out.below bq)
    have HG2 : Hid (Is (W0.alloc (.cells #[.int .i64 (room : Int), .slice none 0 0, .slice none 0 0, .slice none 0 0, .slice none 0 0, .slice none 0 0, .slice none 0 0, .slice none 0 0, .slice none 0 0, .slice none 0 0, .bool false, .bool false, .bool false, .bool false, .bool false, .bool false, .bool false, .bool false] 81)) W0.heap.size 81 (cellsRf (room : Int) (.slice none 0 0) (fun _ => .slice none 0 0) (fun _ => false))) := Is.new W0 _ _ rfl
    have hng2 : W0.heap.size ∉ gs := fun hm => by have := (HXd.out.feed _ hm).2.lt; omega
    have htg2 : t < W0.heap.size := HXd.out.box.lt
    go_simp
    refine hK.out _ _ (HKS.out _ HX2.out.cfg) (fun _ => ?_)
    clear hK K' bq
    try simp only [Go.Law.pz]
    generalize W0.alloc (.cells #[.int .i64 (room : Int), .slice none 0 0, .slice none 0 0, .slice none 0 0, .slice none 0 0, .slice none 0 0, .slice none 0 0, .slice none 0 0, .slice none 0 0, .slice none 0 0, .bool false, .bool false, .bool false, .bool false, .bool false, .bool false, .bool false, .bool false] 81) = Y2 at *
    generalize W0.heap.size = g2 at *
    refine wpAnyH_ready (rs := [9]) (by kernel_rfl) (by simp) ?_
    refine AllReadyH.cons (o := ⟨some 38, .buildSlice 53 1 #[(0, .tmp 37)], _, _, _, _⟩) rfl (fun K' hK => ?_) AllReadyH.nil
    have bq := (Below.refl Y2.heap.size Y2).alloc (Nat.le_refl _) (.cells #[.pointer (some ⟨g2, 0, none⟩)] 76)
    have HX3 := Lib.hid (HX2.out.below bq)
    have HG3 := Lib.hid (HG2.out.below bq HG2.out.lt)
    have HN3 := Lib.hid (Is.new Y2 76 #[.pointer (some ⟨g2, 0, none⟩)] rfl)
    go_simp
    refine hK.out _ _ (HKS.out _ HX3.out.cfg) (fun _ => ?_)
    clear hK K' bq
    try simp only [Go.Law.pz]
    generalize Y2.alloc (.cells #[.pointer (some ⟨g2, 0, none⟩)] 76) = Y3 at *
    generalize Y2.heap.size = gn3 at *
    refine wpAnyH_ready (rs := [10]) (by kernel_rfl) (by simp) ?_
    refine AllReadyH.cons (o := ⟨some 39, .call { callee := .builtin .append, args := #[.tmp 33, .tmp 38], argTypes := #[53, 53] }, _, _, _, _⟩) rfl (fun K' hK => ?_) AllReadyH.nil
    have hs_ : Seq Y3 gn3 (gn3 + 1) (some ⟨gn3, 0, none⟩) [.pointer (some ⟨g2, 0, none⟩)] := fun _ => ⟨gn3, 0, rfl, Nat.le_refl _, Nat.lt_succ_self _, fun i u' hu' => by rw [Nat.zero_add, HN3.out.cell]; simpa using hu'⟩
    refine Law.step_append_seq _ (t + 1) 53 rfl (.tmp 33) (.tmp 38) rfl HE2.out (.slice Af s cf) s (gs.map fun g => .pointer (some ⟨g, 0, none⟩)) (by simp [Act.eval]) (by exact HX3.out.fd) gn3 (gn3 + 1) (some ⟨gn3, 0, none⟩) 1 1 [.pointer (some ⟨g2, 0, none⟩)] (by simp [Act.eval]) rfl hs_ (fun u hu => by simp at hu; subst hu; rfl) (by unfold maxLen; omega) (by omega) HX3.out.box.lt ?_
    intro vz WZ own grow
    obtain ⟨Az, cz, rfl, _⟩ := own_shape own
    have own2 : WZ.ownsRow (t + 1) 76 1 (.slice Az (s + 1) cz) (s + 1) ((gs ++ [g2]).map fun g => .pointer (some ⟨g, 0, none⟩)) := by rw [List.map_append]; exact own
    have HXZ := Lib.hid (HX3.out.fds htg2 hng2 HG3.out grow own2)
    have ht1 : Law.Touch Y3 WZ (fun k => t < k) := Law.Touch.grown grow (fun k hk => (HX3.out.fd.lt k hk).1)
    have hlt_ := HX3.out.lt
    have HIB := Lib.hid (ht1.is HX3.out.box (by omega))
    have HIC := Lib.hid (ht1.is HX3.out.cfg (by omega))
    refine hK.out _ _ (HKS.out _ HIC.out) (fun _ => ?_)
    clear hK K' hs_ own own2 grow ht1
    try simp only [Go.Law.pz]
    refine Go.Law.tk 11 ⟨some 40, .nilCheck (.tmp 29), _, _, _, _⟩ (v := .pointer (some ⟨t, 0, none⟩)) (HKS.out _ HIC.out) ?_ ?_
    ·intro w' hSw
     go_simp
    try simp only [Go.Law.pz]
    refine Go.Law.tk 12 ⟨some 41, .fieldAddr 55 (.tmp 40) 3, _, _, _, _⟩ (v := .pointer (some ⟨t, 11, none⟩)) (HKS.out _ HIC.out) ?_ ?_
    ·intro w' hSw
     go_simp
    try simp only [Go.Law.pz]
    refine wpAnyH_ready (rs := [13]) (by kernel_rfl) (by simp) ?_
    refine AllReadyH.cons (o := ⟨none, .store 53 (.tmp 41) (.tmp 39), _, _, _, _⟩) rfl (fun K' hK => ?_) AllReadyH.nil
    have cl : WZ.cell? ⟨t, 11, none⟩ = some (.slice Af s cf) := HIB.out.cell' rfl
    have fl := HIB.out.frozen 11
    have ll := HIB.out.lt
    go_simp
    refine hK.out _ _ (HKS.out _ HXZ.out.cfg) (fun _ => ?_)
    clear hK K' cl fl ll
    try simp only [Go.Law.pz]
    refine wpAnyH_done (by kernel_rfl) ?_ _
    go_wp2_with fail
    go_roundw
    case rel => exact ⟨s + 1, _, _, _, by omega, by go_num, HXZ.out⟩
    case measure => simp [intOf]; omega
   refine AllReadyH.cons (o := ⟨some 37, .box 81 (.tmp 36), _, _, _, _⟩) rfl (fun K' hK => ?_) AllReadyH.nil
   have bq := (Below.refl W0.heap.size W0).alloc (Nat.le_refl _) (.cells #[.int .i64 (room : Int), .slice none 0 0, .slice none 0 0, .slice none 0 0, .slice none 0 0, .slice none 0 0, .slice none 0 0, .slice none 0 0, .slice none 0 0, .slice none 0 0, .bool false, .bool false, .bool false, .bool false, .bool false, .bool false, .bool false, .bool false] 81)
   have HX4 := Lib.hid (HXd.out.below bq)
   have HG4 : Hid (Is (W0.alloc (.cells #[.int .i64 (room : Int), .slice none 0 0, .slice none 0 0, .slice none 0 0, .slice none 0 0, .slice none 0 0, .slice none 0 0, .slice none 0 0, .slice none 0 0, .slice none 0 0, .bool false, .bool false, .bool false, .bool false, .bool false, .bool false, .bool false, .bool false] 81)) W0.heap.size 81 (cellsRf (room : Int) (.slice none 0 0) (fun _ => .slice none 0 0) (fun _ => false))) := Is.new W0 _ _ rfl
   have hng4 : W0.heap.size ∉ gs := fun hm => by have := (HXd.out.feed _ hm).2.lt; omega
   have htg4 : t < W0.heap.size := HXd.out.box.lt
   go_simp
   refine hK.out _ _ (HKS.out _ HX4.out.cfg) (fun _ => ?_)
   clear hK K' bq
   try simp only [Go.Law.pz]
   generalize W0.alloc (.cells #[.int .i64 (room : Int), .slice none 0 0, .slice none 0 0, .slice none 0 0, .slice none 0 0, .slice none 0 0, .slice none 0 0, .slice none 0 0, .slice none 0 0, .slice none 0 0, .bool false, .bool false, .bool false, .bool false, .bool false, .bool false, .bool false, .bool false] 81) = Y4 at *
   generalize W0.heap.size = g4 at *
   refine wpAnyH_ready (rs := [4, 9]) (by kernel_rfl) (by simp) ?_
   refine AllReadyH.cons (o := ⟨some 33, .load 53 (.tmp 32), _, _, _, _⟩) rfl (fun K' hK => ?_) ?_
   ·have cl : Y4.cell? ⟨t, 11, none⟩ = some (.slice Af s cf) := HX4.out.box.cell' rfl
    go_simp
    refine hK.out _ _ (HKS.out _ HX4.out.cfg) (fun _ => ?_)
    clear hK K' cl
    try simp only [Go.Law.pz]
    refine wpAnyH_ready (rs := [9]) (by kernel_rfl) (by simp) ?_
    refine AllReadyH.cons (o := ⟨some 38, .buildSlice 53 1 #[(0, .tmp 37)], _, _, _, _⟩) rfl (fun K' hK => ?_) AllReadyH.nil
    have bq := (Below.refl Y4.heap.size Y4).alloc (Nat.le_refl _) (.cells #[.pointer (some ⟨g4, 0, none⟩)] 76)
    have HX6 := Lib.hid (HX4.out.below bq)
    have HG6 := Lib.hid (HG4.out.below bq HG4.out.lt)
    have HN6 := Lib.hid (Is.new Y4 76 #[.pointer (some ⟨g4, 0, none⟩)] rfl)
    go_simp
    refine hK.out _ _ (HKS.out _ HX6.out.cfg) (fun _ => ?_)
    clear hK K' bq
    try simp only [Go.Law.pz]
    generalize Y4.alloc (.cells #[.pointer (some ⟨g4, 0, none⟩)] 76) = Y6 at *
    generalize Y4.heap.size = gn6 at *
    refine wpAnyH_ready (rs := [10]) (by kernel_rfl) (by simp) ?_
    refine AllReadyH.cons (o := ⟨some 39, .call { callee := .builtin .append, args := #[.tmp 33, .tmp 38], argTypes := #[53, 53] }, _, _, _, _⟩) rfl (fun K' hK => ?_) AllReadyH.nil
    have hs_ : Seq Y6 gn6 (gn6 + 1) (some ⟨gn6, 0, none⟩) [.pointer (some ⟨g4, 0, none⟩)] := fun _ => ⟨gn6, 0, rfl, Nat.le_refl _, Nat.lt_succ_self _, fun i u' hu' => by rw [Nat.zero_add, HN6.out.cell]; simpa using hu'⟩
    refine Law.step_append_seq _ (t + 1) 53 rfl (.tmp 33) (.tmp 38) rfl HE2.out (.slice Af s cf) s (gs.map fun g => .pointer (some ⟨g, 0, none⟩)) (by simp [Act.eval]) (by exact HX6.out.fd) gn6 (gn6 + 1) (some ⟨gn6, 0, none⟩) 1 1 [.pointer (some ⟨g4, 0, none⟩)] (by simp [Act.eval]) rfl hs_ (fun u hu => by simp at hu; subst hu; rfl) (by unfold maxLen; omega) (by omega) HX6.out.box.lt ?_
    intro vz WZ own grow
    obtain ⟨Az, cz, rfl, _⟩ := own_shape own
    have own2 : WZ.ownsRow (t + 1) 76 1 (.slice Az (s + 1) cz) (s + 1) ((gs ++ [g4]).map fun g => .pointer (some ⟨g, 0, none⟩)) := by rw [List.map_append]; exact own
    have HXZ := Lib.hid (HX6.out.fds htg4 hng4 HG6.out grow own2)
    have ht1 : Law.Touch Y6 WZ (fun k => t < k) := Law.Touch.grown grow (fun k hk => (HX6.out.fd.lt k hk).1)
    have hlt_ := HX6.out.lt
    have HIB := Lib.hid (ht1.is HX6.out.box (by omega))
    have HIC := Lib.hid (ht1.is HX6.out.cfg (by omega))
    refine hK.out _ _ (HKS.out _ HIC.out) (fun _ => ?_)
    clear hK K' hs_ own own2 grow ht1
    try simp only [Go.Law.pz]
    refine Go.Law.tk 11 ⟨some 40, .nilCheck (.tmp 29), _, _, _, _⟩ (v := .pointer (some ⟨t, 0, none⟩)) (HKS.out _ HIC.out) ?_ ?_
    ·intro w' hSw
     go_simp
    try simp only [Go.Law.pz]
    refine Go.Law.tk 12 ⟨some 41, .fieldAddr 55 (.tmp 40) 3, _, _, _, _⟩ (v := .pointer (some ⟨t, 11, none⟩)) (HKS.out _ HIC.out) ?_ ?_
    ·intro w' hSw
     go_simp
    try simp only [Go.Law.pz]
    refine wpAnyH_ready (rs := [13]) (by kernel_rfl) (by simp) ?_
    refine AllReadyH.cons (o := ⟨none, .store 53 (.tmp 41) (.tmp 39), _, _, _, _⟩) rfl (fun K' hK => ?_) AllReadyH.nil
    have cl : WZ.cell? ⟨t, 11, none⟩ = some (.slice Af s cf) := HIB.out.cell' rfl
    have fl := HIB.out.frozen 11
    have ll := HIB.out.lt
    go_simp
    refine hK.out _ _ (HKS.out _ HXZ.out.cfg) (fun _ => ?_)
    clear hK K' cl fl ll
    try simp only [Go.Law.pz]
    refine wpAnyH_done (by kernel_rfl) ?_ _
    go_wp2_with fail
    go_roundw
    case rel => exact ⟨s + 1, _, _, _, by omega, by go_num, HXZ.out⟩
    case measure => simp [intOf]; omega
   refine AllReadyH.cons (o := ⟨some 38, .buildSlice 53 1 #[(0, .tmp 37)], _, _, _, _⟩) rfl (fun K' hK => ?_) AllReadyH.nil
   have bq := (Below.refl Y4.heap.size Y4).alloc (Nat.le_refl _) (.cells #[.pointer (some ⟨g4, 0, none⟩)] 76)
   have HX7 := Lib.hid (HX4.out.below bq)
   have HG7 := Lib.hid (HG4.out.below bq HG4.out.lt)
   have HN7 := Lib.hid (Is.new Y4 76 #[.pointer (some ⟨g4, 0, none⟩)] rfl)
   go_simp
   refine hK.out _ _ (HKS.out _ HX7.out.cfg) (fun _ => ?_)
   clear hK K' bq
   try simp only [Go.Law.pz]
   generalize Y4.alloc (.cells #[.pointer (some ⟨g4, 0, none⟩)] 76) = Y7 at *
   generalize Y4.heap.size = gn7 at *
   refine wpAnyH_ready (rs := [4]) (by kernel_rfl) (by simp) ?_
   refine AllReadyH.cons (o := ⟨some 33, .load 53 (.tmp 32), _, _, _, _⟩) rfl (fun K' hK => ?_) AllReadyH.nil
   have cl : Y7.cell? ⟨t, 11, none⟩ = some (.slice Af s cf) := HX7.out.box.cell' rfl
   go_simp
   refine hK.out _ _ (HKS.out _ HX7.out.cfg) (fun _ => ?_)
   clear hK K' cl
   try simp only [Go.Law.pz]
   refine wpAnyH_ready (rs := [10]) (by kernel_rfl) (by simp) ?_
   refine AllReadyH.cons (o := ⟨some 39, .call { callee := .builtin .append, args := #[.tmp 33, .tmp 38], argTypes := #[53, 53] }, _, _, _, _⟩) rfl (fun K' hK => ?_) AllReadyH.nil
   have hs_ : Seq Y7 gn7 (gn7 + 1) (some ⟨gn7, 0, none⟩) [.pointer (some ⟨g4, 0, none⟩)] := fun _ => ⟨gn7, 0, rfl, Nat.le_refl _, Nat.lt_succ_self _, fun i u' hu' => by rw [Nat.zero_add, HN7.out.cell]; simpa using hu'⟩
   refine Law.step_append_seq _ (t + 1) 53 rfl (.tmp 33) (.tmp 38) rfl HE2.out (.slice Af s cf) s (gs.map fun g => .pointer (some ⟨g, 0, none⟩)) (by simp [Act.eval]) (by exact HX7.out.fd) gn7 (gn7 + 1) (some ⟨gn7, 0, none⟩) 1 1 [.pointer (some ⟨g4, 0, none⟩)] (by simp [Act.eval]) rfl hs_ (fun u hu => by simp at hu; subst hu; rfl) (by unfold maxLen; omega) (by omega) HX7.out.box.lt ?_
   intro vz WZ own grow
   obtain ⟨Az, cz, rfl, _⟩ := own_shape own
   have own2 : WZ.ownsRow (t + 1) 76 1 (.slice Az (s + 1) cz) (s + 1) ((gs ++ [g4]).map fun g => .pointer (some ⟨g, 0, none⟩)) := by rw [List.map_append]; exact own
   have HXZ := Lib.hid (HX7.out.fds htg4 hng4 HG7.out grow own2)
   have ht1 : Law.Touch Y7 WZ (fun k => t < k) := Law.Touch.grown grow (fun k hk => (HX7.out.fd.lt k hk).1)
   have hlt_ := HX7.out.lt
   have HIB := Lib.hid (ht1.is HX7.out.box (by omega))
   have HIC := Lib.hid (ht1.is HX7.out.cfg (by omega))
   refine hK.out _ _ (HKS.out _ HIC.out) (fun _ => ?_)
   clear hK K' hs_ own own2 grow ht1
   try simp only [Go.Law.pz]
   refine Go.Law.tk 11 ⟨some 40, .nilCheck (.tmp 29), _, _, _, _⟩ (v := .pointer (some ⟨t, 0, none⟩)) (HKS.out _ HIC.out) ?_ ?_
   ·intro w' hSw
    go_simp
   try simp only [Go.Law.pz]
   refine Go.Law.tk 12 ⟨some 41, .fieldAddr 55 (.tmp 40) 3, _, _, _, _⟩ (v := .pointer (some ⟨t, 11, none⟩)) (HKS.out _ HIC.out) ?_ ?_
   ·intro w' hSw
    go_simp
   try simp only [Go.Law.pz]
   refine wpAnyH_ready (rs := [13]) (by kernel_rfl) (by simp) ?_
   refine AllReadyH.cons (o := ⟨none, .store 53 (.tmp 41) (.tmp 39), _, _, _, _⟩) rfl (fun K' hK => ?_) AllReadyH.nil
   have cl : WZ.cell? ⟨t, 11, none⟩ = some (.slice Af s cf) := HIB.out.cell' rfl
   have fl := HIB.out.frozen 11
   have ll := HIB.out.lt
   go_simp
   refine hK.out _ _ (HKS.out _ HXZ.out.cfg) (fun _ => ?_)
   clear hK K' cl fl ll
   try simp only [Go.Law.pz]
   refine wpAnyH_done (by kernel_rfl) ?_ _
   go_wp2_with fail
   go_roundw
   case rel => exact ⟨s + 1, _, _, _, by omega, by go_num, HXZ.out⟩
   case measure => simp [intOf]; omega
  ·have d1 : decide ((s : Int) < (n : Int)) = false := by simp; omega
   obtain rfl : s = n := by omega
   go_wp2_with fail
   go_ret
   exact ⟨t, rfl, _, HN.out.tab hbase hn1 rfl (by show (0 : Int) ≤ (room : Int); omega), fun y hy => hy.1, HN.out.bel⟩
end Mod
end Go.Proofs.YtohdlnefgieenaaGreat
namespace Go.Proofs.YtohdlnefgieenaaGreat
open Go.RowKit Go.Shelf
attribute [local go_sem] Oper.semAt_some
namespace Mod
open Go.Law Feed Bk
abbrev Rep.val (r : Rep) (A : Option Addr) (c : Nat) (A2 : Option Addr) (c2 : Nat) : Value := .agg #[.int .i64 r.err, .slice A r.vals.length c, .slice A2 r.evs.length c2, .bool r.lost]
set_option maxRecDepth 100000 in
set_option maxHeartbeats 2000000 in
theorem refSame10 (r : Rep) (A B A2 B2 : Option Addr) (c d c2 d2 : Nat) (w : World) (hv : Seq w 0 w.heap.size A (flatPr r.vals)) (hv' : Seq w 0 w.heap.size B (flatPr r.vals)) (he : Seq w 0 w.heap.size A2 (flatE r.evs)) (he' : Seq w 0 w.heap.size B2 (flatE r.evs)) (hl : r.vals.length ≤ 1000) (hl2 : r.evs.length ≤ 1000) :
  Calls Tryz.prog 14 #[r.val A c A2 c2, r.val B d B2 d2] w fun e w' => e = .returned (.bool true) ∧ Below w.heap.size w w' := by
 obtain ⟨er, vs, es, lo⟩ := r
 simp only at hv hv' he he' hl hl2
 have b1 := ((Below.refl w.heap.size w).alloc (Nat.le_refl _) (.cells #[.int .i64 er, .slice A vs.length c, .slice A2 es.length c2, .bool lo] 43)).alloc (by simp) (.cells #[.int .i64 er, .slice B vs.length d, .slice B2 es.length d2, .bool lo] 43)
 have HX : Hid (Is ((w.alloc (.cells #[.int .i64 er, .slice A vs.length c, .slice A2 es.length c2, .bool lo] 43)).alloc (.cells #[.int .i64 er, .slice B vs.length d, .slice B2 es.length d2, .bool lo] 43)) w.heap.size 43 #[.int .i64 er, .slice A vs.length c, .slice A2 es.length c2, .bool lo]) := (Is.new w _ _ rfl).alloc _
 have HY : Hid (Is ((w.alloc (.cells #[.int .i64 er, .slice A vs.length c, .slice A2 es.length c2, .bool lo] 43)).alloc (.cells #[.int .i64 er, .slice B vs.length d, .slice B2 es.length d2, .bool lo] 43)) (w.heap.size + 1) 43 #[.int .i64 er, .slice B vs.length d, .slice B2 es.length d2, .bool lo]) := Is.new _ _ _ (by simp)
 have HV := Lib.hid (hv.below b1)
 have HW := Lib.hid (hv'.below b1)
 have HE := Lib.hid ((he.below b1).more b1.size)
 have HF := Lib.hid ((he'.below b1).more b1.size)
 have HB := Lib.hid b1
 clear hv hv' he he' b1
 show Calls _ _ #[.agg #[.int .i64 er, .slice A vs.length c, .slice A2 es.length c2, .bool lo], .agg #[.int .i64 er, .slice B vs.length d, .slice B2 es.length d2, .bool lo]] _ _
 go_enter Tryz.func14, Tryz.ntmps14
 go_wp2_with fail
 generalize ((w.alloc (.cells #[.int .i64 er, .slice A vs.length c, .slice A2 es.length c2, .bool lo] 43)).alloc (.cells #[.int .i64 er, .slice B vs.length d, .slice B2 es.length d2, .bool lo] 43)) = w1 at *
 refine (refSame es A2 B2 c2 d2 w1 HE.out HF.out hl2).mono ?_
 rintro e w2 ⟨rfl, b2⟩
 have HX2 := Lib.hid (HX.out.below b2 HX.out.lt)
 have HY2 := Lib.hid (HY.out.below b2 HY.out.lt)
 have sz1 := HB.out.size
 have HB2 := Lib.hid (HB.out.trans (b2.mono sz1))
 have HV2 := Lib.hid (HV.out.below (b2.mono sz1))
 have HW2 := Lib.hid (HW.out.below (b2.mono sz1))
 have sz2 := b2.size
 clear b2 HX HY HB HV HW HE HF
 go_wp2_with fail
 go_loopw [5] (fun vi wr => ∃ j : Nat, j ≤ vs.length ∧ vi = .int .i64 j ∧ Drawn w2 wr) (fun vi _ => vs.length - (intOf vi).toNat)
 case atStart => exact ⟨0, Nat.zero_le _, rfl, Drawn.refl w2⟩
 case round =>
  obtain ⟨j, hj, rfl, q, rfl⟩ := hrel
  have x1 : w2.cell? ⟨w.heap.size, 1, none⟩ = some (.slice A vs.length c) := HX2.out.cell' rfl
  have y1 : w2.cell? ⟨w.heap.size + 1, 1, none⟩ = some (.slice B vs.length d) := HY2.out.cell' rfl
  have lx := HX2.out.lt
  have ly := HY2.out.lt
  by_cases hlt : j < vs.length
  ·have d1 : decide ((j : Int) < (vs.length : Int)) = true := by simp; omega
   obtain ⟨b, o, hA, _, hb, hc⟩ := Seq.row (cells := cellsPr) (fun _ => rfl) (by decide : 0 < 3) HV2.out hlt
   obtain ⟨b', o', hB, _, hb', hc'⟩ := Seq.row (cells := cellsPr) (fun _ => rfl) (by decide : 0 < 3) HW2.out hlt
   subst hA hB
   generalize vs[j] = p at hc hc'
   obtain ⟨p0, p1, p2⟩ := p
   have c0 : w2.cell? ⟨b, o + j * 3, none⟩ = some (.int .i64 p0) := by simpa using hc 0 _ rfl
   have c1 : w2.cell? ⟨b, o + j * 3 + 1, none⟩ = some (.int .i64 p1) := hc 1 _ rfl
   have c2 : w2.cell? ⟨b, o + j * 3 + 2, none⟩ = some (.int .i64 p2) := hc 2 _ rfl
   have e0 : w2.cell? ⟨b', o' + j * 3, none⟩ = some (.int .i64 p0) := by simpa using hc' 0 _ rfl
   have e1 : w2.cell? ⟨b', o' + j * 3 + 1, none⟩ = some (.int .i64 p1) := hc' 1 _ rfl
   have e2 : w2.cell? ⟨b', o' + j * 3 + 2, none⟩ = some (.int .i64 p2) := hc' 2 _ rfl
   have lb : b < w2.heap.size := by omega
   have lb' : b' < w2.heap.size := by omega
   clear hc hc'
   go_wp2_with fail
   go_quiet (fail)
   go_wp2_with fail
   go_roundw
   case rel => exact ⟨j + 1, by omega, by go_num, ⟨_, rfl⟩⟩
   case measure => simp [intOf]; omega
  ·have d1 : decide ((j : Int) < (vs.length : Int)) = false := by simp; omega
   go_wp2_with fail
   go_ret
   exact ⟨rfl, Law.below_drewN HB2.out _⟩
end Mod
end Go.Proofs.YtohdlnefgieenaaGreat

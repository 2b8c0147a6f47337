/-
  What Tell of a feed (layer 9) comes to.
-/
import Derived.Test.YtohdlnefgieenaaGreatJ17
import Derived.Test.YtohdlnefgieenaaGreatJ13
import Derived.Test.YtohdlnefgieenaaGreatJ12
namespace Go.Proofs.YtohdlnefgieenaaGreat
open Go.RowKit Go.Shelf
attribute [local go_sem] Oper.semAt_some
namespace Feed
open Go.Law
def St.put1 (room : Nat) (s : St) (k : Nat) (e : Ev) : St := if s.has k e.us then { s with que := upd s.que k (putL room (s.que k) e), los := upd s.los k (s.los k || decide (room ≤ (s.que k).length)) } else s
def St.upto (room : Nat) (s : St) (e : Ev) : Nat → St
 | 0 => s
 | n + 1 => (s.upto room e n).put1 room n e
def St.tell (room : Nat) (s : St) (l : List Cg) (seq : Int) : St := l.foldl (fun s c => s.upto room (c.ev seq) 8) s
theorem upto_wat (room : Nat) (s : St) (e : Ev) : ∀ n, (s.upto room e n).wat = s.wat
 | 0 => rfl
 | n + 1 => by
   have ih := upto_wat room s e n
   rw [St.upto, St.put1]
   split
   ·exact ih
   ·exact ih
theorem upto_has (room : Nat) (s : St) (e : Ev) (n k : Nat) (u : ByteArray) : (s.upto room e n).has k u = s.has k u := by unfold St.has; rw [upto_wat]
theorem if_iff {α : Type} {a c : Prop} [Decidable a] [Decidable c] (h : a ↔ c) {x y : α} : (if a then x else y) = if c then x else y := by
 by_cases ha : a
 ·rw [if_pos ha, if_pos (h.1 ha)]
 ·rw [if_neg ha, if_neg (fun hc => ha (h.2 hc))]
theorem upto_que (room : Nat) (s : St) (e : Ev) (k : Nat) : ∀ n, (s.upto room e n).que k = if k < n ∧ s.has k e.us = true then putL room (s.que k) e else s.que k
 | 0 => by rw [if_neg (by omega)]; rfl
 | n + 1 => by
   have ih := upto_que room s e k n
   rw [St.upto, St.put1, upto_has]
   by_cases hk : k = n
   ·subst hk
    rw [if_neg (by omega)] at ih
    by_cases hh : s.has k e.us = true
    ·rw [if_pos hh, if_pos ⟨by omega, hh⟩]
     show upd _ k _ k = _
     rw [upd_same, ih]
    ·rw [if_neg hh, if_neg (fun h => hh h.2)]
     exact ih
   ·have e1 : (k < n + 1 ∧ s.has k e.us = true) ↔ (k < n ∧ s.has k e.us = true) := ⟨fun h => ⟨by omega, h.2⟩, fun h => ⟨by omega, h.2⟩⟩
    rw [if_iff e1, ← ih]
    split
    ·show upd _ n _ k = _
     rw [upd_other _ _ hk]
    ·rfl
theorem putL_le {α : Type} (room : Nat) (zs : List α) (x : α) : (putL room zs x).length ≤ zs.length + 1 := by unfold putL; split <;> simp
theorem upto_le (room : Nat) (s : St) (e : Ev) (k n : Nat) : ((s.upto room e n).que k).length ≤ (s.que k).length + 1 := by
 rw [upto_que]
 split
 ·exact putL_le ..
 ·omega
theorem tell_le (room : Nat) (seq : Int) (k : Nat) : ∀ (l : List Cg) (s : St), ((s.tell room l seq).que k).length ≤ (s.que k).length + l.length
 | [], s => by simp [St.tell]
 | c :: r, s => by
   have h1 := tell_le room seq k r (s.upto room (c.ev seq) 8)
   have h2 := upto_le room s (c.ev seq) k 8
   show ((St.tell room (s.upto room (c.ev seq) 8) r seq).que k).length ≤ _
   simp only [List.length_cons]
   omega
theorem put1 {w : World} {base b room k : Nat} {S : Nat → Prop} {p : Nat → Option Addr} {g : Nat → Nat} {Sk : Nat → Nat → Prop} {s : St} (h : FedV w base S b room p g Sk s) (hb : base ≤ w.heap.size) (hk : k < 8) (e : Ev) (hl : (s.que k).length ≤ 1000) :
  Calls Tryz.prog 108 #[.pointer (some ⟨g k, 0, none⟩), e.val] w fun en w' => (∃ r, en = .returned (.bool r)) ∧ ∃ S' Sk', FedV w' base S' b room p g Sk' { s with que := upd s.que k (putL room (s.que k) e), los := upd s.los k (s.los k || decide (room ≤ (s.que k).length)) } ∧ Went w S w' S' ∧ ∀ t, t ≠ 159 → t ≠ 63 → Keeps t w w' := by
 refine (RingE.put e (s.que k) (s.los k) w base (Sk k) (g k) room (h.ring k hk) hb hl).mono ?_
 rintro en w' ⟨rfl, Sk', hr, ht, hn, hK⟩
 refine ⟨⟨_, rfl⟩, fun n => S n ∨ Sk' n, _, h.queue hk ht (hK _ (by decide) (by decide)) hr hn (fun _ h => h) (fun _ h => h), ⟨ht.mono (h.sub k hk), fun n hn' => ?_, fun t _ h2 h3 => hK t h2 h3⟩, hK⟩
 rcases hn' with h1 | h1
 ·exact .inl h1
 ·exact (hn n h1).imp (h.sub k hk n) id
set_option maxRecDepth 100000 in
theorem queue_at (g : Nat → Nat) (w : World) {k : Nat} (h : k < 8) : (Instr.index 119 (.agg #[.pointer (some ⟨g 0, 0, none⟩), .pointer (some ⟨g 1, 0, none⟩), .pointer (some ⟨g 2, 0, none⟩), .pointer (some ⟨g 3, 0, none⟩), .pointer (some ⟨g 4, 0, none⟩), .pointer (some ⟨g 5, 0, none⟩), .pointer (some ⟨g 6, 0, none⟩), .pointer (some ⟨g 7, 0, none⟩)]) (.int .i64 (k : Int))).run Tryz.prog w = .ok (.pointer (some ⟨g k, 0, none⟩)) w := by
 have h8 : k = 0 ∨ k = 1 ∨ k = 2 ∨ k = 3 ∨ k = 4 ∨ k = 5 ∨ k = 6 ∨ k = 7 := by omega
 rcases h8 with rfl | rfl | rfl | rfl | rfl | rfl | rfl | rfl <;> rfl
def Told (w : World) (base : Nat) (S : Nat → Prop) (b room : Nat) (s : St) (e : Ending) (w' : World) : Prop :=
 e = .returned (.tuple #[]) ∧ ∃ S', Fed w' base S' b room s ∧ Went w S w' S' ∧ ∀ t, t ≠ 159 → t ≠ 63 → Keeps t w w'
set_option maxRecDepth 100000 in
set_option maxHeartbeats 4000000 in
theorem tell {w : World} {base b room c : Nat} {S : Nat → Prop} {s : St} {A : Option Addr} (h : Fed w base S b room s) (hb : base ≤ w.heap.size) (l : List Cg) (seq : Int) (hA : Lain 185 w A (flatG l)) (hl : ∀ k, k < 8 → (s.que k).length + l.length ≤ 1000) :
  Calls Tryz.prog 86 #[.pointer (some ⟨b, 0, none⟩), .slice A l.length c, .int .u64 seq] w (Told w base S b room (s.tell room l seq)) := by
 have HF := Lib.hid h
 have HA := Lib.hid hA
 have HL := Lib.hid hl
 have hl1 : l.length ≤ 1000 := by have := hl 0 (by omega); omega
 clear h hA hl
 go_enter Tryz.func86, Tryz.ntmps86
 go_wp2_with fail
 go_loopw [13] (fun i wr => ∃ j : Nat, j ≤ l.length ∧ i = .int .i64 j ∧ ∃ S', Fed wr base S' b room (s.tell room (l.take j) seq) ∧ Went w S wr S' ∧ ∀ t, t ≠ 159 → t ≠ 63 → Keeps t w wr) (fun i _ => l.length - (intOf i).toNat)
 case atStart => exact ⟨0, Nat.zero_le _, rfl, S, HF.out, Went.refl _ _, fun t _ _ => Keeps.refl t w⟩
 case round =>
  obtain ⟨j, hj, rfl, S', hF, hW, hK⟩ := hrel
  by_cases hlt : j < l.length
  ·have HT : Hid (s.tell room (l.take (j + 1)) seq = (s.tell room (l.take j) seq).upto room (l[j].ev seq) 8) := by show _ = _; unfold St.tell; rw [List.take_succ_eq_append_getElem hlt, List.foldl_append]; rfl
   have HQ : Hid (∀ k, k < 8 → ((s.tell room (l.take j) seq).que k).length ≤ 999) := fun k hk => by
    have h1 := tell_le room seq k (l.take j) s
    have h2 := HL.out k hk
    simp at h1
    omega
   obtain ⟨gb, off, e, _, hgb, c0, c1, c2, c3, c4, c5, c6⟩ := (HA.out.keeps (hK _ (by decide) (by decide))).seq.cg hlt
   subst e
   generalize l[j] = q at *
   generalize s.tell room (l.take j) seq = s1 at *
   have hbw : base ≤ wr.heap.size := Nat.le_trans hb hW.touch.size
   obtain ⟨p, g, Sk, hV⟩ := hF
   have lb := hV.box.lt
   have x0 : wr.cell? ⟨b, 8, none⟩ = some (.pointer (some ⟨g 0, 0, none⟩)) := hV.box.cell' rfl
   have x1 : wr.cell? ⟨b, 9, none⟩ = some (.pointer (some ⟨g 1, 0, none⟩)) := hV.box.cell' rfl
   have x2 : wr.cell? ⟨b, 10, none⟩ = some (.pointer (some ⟨g 2, 0, none⟩)) := hV.box.cell' rfl
   have x3 : wr.cell? ⟨b, 11, none⟩ = some (.pointer (some ⟨g 3, 0, none⟩)) := hV.box.cell' rfl
   have x4 : wr.cell? ⟨b, 12, none⟩ = some (.pointer (some ⟨g 4, 0, none⟩)) := hV.box.cell' rfl
   have x5 : wr.cell? ⟨b, 13, none⟩ = some (.pointer (some ⟨g 5, 0, none⟩)) := hV.box.cell' rfl
   have x6 : wr.cell? ⟨b, 14, none⟩ = some (.pointer (some ⟨g 6, 0, none⟩)) := hV.box.cell' rfl
   have x7 : wr.cell? ⟨b, 15, none⟩ = some (.pointer (some ⟨g 7, 0, none⟩)) := hV.box.cell' rfl
   have bb := ((Below.refl wr.heap.size wr).alloc (Nat.le_refl _) (.cells q.box 185)).alloc (by simp) (.cells (q.ev seq).box 63)
   have HV := Lib.hid (hV.below bb)
   have HW1 := Lib.hid (hW.trans (Went.of_below (S := S') bb))
   have HK1 : Hid (∀ t, t ≠ 159 → t ≠ 63 → Keeps t w _) := fun t h1 h2 => (hK t h1 h2).trans (Keeps.of_below bb)
   have N7 : Hid (¬ S' wr.heap.size) := fun h => by have := (hV.ok _ h).2; omega
   have N8 : Hid (¬ S' (wr.heap.size + 1)) := fun h => by have := (hV.ok _ h).2; omega
   have I7 : Hid (Is ((wr.alloc (.cells q.box 185)).alloc (.cells (q.ev seq).box 63)) wr.heap.size 185 q.box) := (Is.new wr _ _ rfl).alloc _
   have I8 : Hid (Is ((wr.alloc (.cells q.box 185)).alloc (.cells (q.ev seq).box 63)) (wr.heap.size + 1) 63 (q.ev seq).box) := Is.new _ _ _ (by simp)
   have hs1 : wr.heap.size + 1 < ((wr.alloc (.cells q.box 185)).alloc (.cells (q.ev seq).box 63)).heap.size := by simp
   clear hV hW hK bb
   go_wp2_with fail
   generalize (wr.alloc (.cells q.box 185)).alloc (.cells (q.ev seq).box 63) = W1 at *
   clear c0 c1 c2 c3 c4 c5 c6 x0 x1 x2 x3 x4 x5 x6 x7
   go_loopw [29] (fun i wx => ∃ k : Nat, k ≤ 8 ∧ i = .int .i64 k ∧ ∃ S2 Sk2, FedV wx base S2 b room p g Sk2 (s1.upto room (q.ev seq) k) ∧ Went W1 S' wx S2 ∧ ∀ t, t ≠ 159 → t ≠ 63 → Keeps t W1 wx) (fun i _ => 8 - (intOf i).toNat)
   case atStart => exact ⟨0, Nat.zero_le _, rfl, S', Sk, HV.out, Went.refl _ _, fun t _ _ => Keeps.refl t _⟩
   case round =>
    obtain ⟨k, hk8, rfl, S2, Sk2, hV2, hW2, hK2⟩ := hrel
    by_cases hk : k < 8
    ·have d1 : decide ((k : Int) < 8) = true := by simp; omega
     have J7 := hW2.is I7.out N7.out
     have J8 := hW2.is I8.out N8.out
     have y0 : World.cell? _ ⟨_, 0, none⟩ = some (.string q.us) := J7.cell' rfl
     have lz := hW2.touch.size
     have HG := Lib.hid (watching ⟨_, _, _, hV2⟩ hk q.us)
     have HV2 := Lib.hid hV2
     have HW2 := Lib.hid hW2
     have HK2 := Lib.hid hK2
     have HJ8 := Lib.hid J8
     have HE : Hid (s1.upto room (q.ev seq) (k + 1) = (s1.upto room (q.ev seq) k).put1 room k (q.ev seq)) := rfl
     have hql : ((s1.upto room (q.ev seq) k).que k).length ≤ 1000 := by have h1 := upto_le room s1 (q.ev seq) k k; have h2 := HQ.out k hk; omega
     have HQL := Lib.hid hql
     have hix := fun wx => queue_at g wx hk
     clear hV2 hW2 hK2 J7 J8 hql
     go_wp2_with fail
     refine HG.out.mono ?_
     rintro e w2 ⟨rfl, hb2⟩
     have HV3 := Lib.hid (HV2.out.below hb2)
     have HW3 := Lib.hid (HW2.out.trans (Went.of_below (S := S2) hb2))
     have HK3 : Hid (∀ t, t ≠ 159 → t ≠ 63 → Keeps t W1 w2) := fun t h1 h2 => (HK2.out t h1 h2).trans (Keeps.of_below hb2)
     have z2 : base ≤ w2.heap.size := by have := hb2.size; omega
     have lz2 : W1.heap.size ≤ w2.heap.size := by have := hb2.size; omega
     have J8 := HJ8.out.below hb2 HJ8.out.lt
     obtain ⟨e0, e1, e2, e3, e4, e5, e6, e7⟩ := RingE.Evs.of J8
     simp only [Nat.zero_add] at e0 e1 e2 e3 e4 e5 e6 e7
     clear hb2 HV2 HW2 HK2 HJ8 J8 y0 hix HG
     cases hh : (s1.upto room (q.ev seq) k).has k q.us with
     | true =>
       have HS : Hid ((s1.upto room (q.ev seq) k).put1 room k (q.ev seq) = { (s1.upto room (q.ev seq) k) with que := upd (s1.upto room (q.ev seq) k).que k (putL room ((s1.upto room (q.ev seq) k).que k) (q.ev seq)), los := upd (s1.upto room (q.ev seq) k).los k ((s1.upto room (q.ev seq) k).los k || decide (room ≤ ((s1.upto room (q.ev seq) k).que k).length)) }) := by show _ = _; unfold St.put1; rw [if_pos hh]
       go_wp2_with fail
       refine (put1 HV3.out z2 hk (q.ev seq) HQL.out).mono ?_
       rintro e w3 ⟨⟨r, rfl⟩, S3, Sk3, hV4, hW4, hK4⟩
       have HV4 := Lib.hid hV4
       have HW4 := Lib.hid (HW3.out.trans hW4)
       have HK4 : Hid (∀ t, t ≠ 159 → t ≠ 63 → Keeps t W1 w3) := fun t h1 h2 => (HK3.out t h1 h2).trans (hK4 t h1 h2)
       clear hV4 hW4 hK4 e0 e1 e2 e3 e4 e5 e6 e7
       go_wp2_with fail
       go_roundw
       case rel => exact ⟨k + 1, by omega, by go_num, S3, Sk3, by rw [HE.out, HS.out]; exact HV4.out, HW4.out, HK4.out⟩
       case measure => simp [intOf]; omega
     | false =>
       have HS : Hid ((s1.upto room (q.ev seq) k).put1 room k (q.ev seq) = s1.upto room (q.ev seq) k) := by show _ = _; unfold St.put1; rw [if_neg (by rw [hh]; simp)]
       go_wp2_with fail
       go_roundw
       case rel => exact ⟨k + 1, by omega, by go_num, S2, Sk2, by rw [HE.out, HS.out]; exact HV3.out, HW3.out, HK3.out⟩
       case measure => simp [intOf]; omega
    ·have e8 : k = 8 := by omega
     subst e8
     have HV2 := Lib.hid hV2
     have HW2 := Lib.hid hW2
     have HK2 := Lib.hid hK2
     clear hV2 hW2 hK2
     go_wp2_with fail
     go_roundw
     case rel => exact ⟨j + 1, by omega, by go_num, S2, by rw [HT.out]; exact ⟨_, _, _, HV2.out⟩, HW1.out.trans HW2.out, fun t h1 h2 => (HK1.out t h1 h2).trans (HK2.out t h1 h2)⟩
     case measure => simp [intOf]; omega
  ·have e1 : l.take j = l := List.take_of_length_le (by omega)
   rw [e1] at hF
   have HF1 := Lib.hid hF
   have HW1 := Lib.hid hW
   have HK1 := Lib.hid hK
   clear hF hW hK
   go_wp2_with fail
   go_end0
   exact ⟨rfl, S', HF1.out, HW1.out, HK1.out⟩
end Feed
end Go.Proofs.YtohdlnefgieenaaGreat
namespace Go.Proofs.YtohdlnefgieenaaGreat
open Go.RowKit Go.Shelf
attribute [local go_sem] Oper.semAt_some
namespace Feed
open Go.Law
section
variable {w : World} {base b room k : Nat} {S : Nat → Prop} {s : St}
theorem watchE (h : Fed w base S b room s) {who : Int} (hw : who = (k : Int)) (hk : k < 8) (u : ByteArray) (hl : (s.wat k).length ≤ 999) {s' : St} (hs' : { s with wat := upd s.wat k (putK OmapU.lt u 0 (s.wat k)) } = s') :
  Calls Tryz.prog 79 #[.pointer (some ⟨b, 0, none⟩), .int .i64 who, .string u] w fun e w' => e = .returned (.tuple #[]) ∧ Fed w' base S b room s' ∧ Went w S w' S := by
 subst hw hs'; exact watch h hk u hl
theorem unwatchE (h : Fed w base S b room s) {who : Int} (hw : who = (k : Int)) (hk : k < 8) (u : ByteArray) (hl : (s.wat k).length ≤ 999) {s' : St} (hs' : { s with wat := upd s.wat k (outK u (s.wat k)) } = s') :
  Calls Tryz.prog 51 #[.pointer (some ⟨b, 0, none⟩), .int .i64 who, .string u] w fun e w' => e = .returned (.tuple #[]) ∧ Fed w' base S b room s' ∧ Went w S w' S := by
 subst hw hs'; exact unwatch h hk u hl
theorem countE (h : Fed w base S b room s) {who : Int} (hw : who = (k : Int)) (hk : k < 8) {n : Int} (hn : ((s.wat k).length : Int) = n) :
  Calls Tryz.prog 102 #[.pointer (some ⟨b, 0, none⟩), .int .i64 who] w fun e w' => e = .returned (.int .i64 n) ∧ Below w.heap.size w w' := by
 subst hw hn; exact count h hk
theorem watchingE (h : Fed w base S b room s) {who : Int} (hw : who = (k : Int)) (hk : k < 8) (u : ByteArray) {r : Bool} (hr : s.has k u = r) :
  Calls Tryz.prog 77 #[.pointer (some ⟨b, 0, none⟩), .int .i64 who, .string u] w fun e w' => e = .returned (.bool r) ∧ Below w.heap.size w w' := by
 subst hw hr; exact watching h hk u
end
section
variable {w w' : World} {base B b room : Nat} {S S' : Nat → Prop} {s : St}
end
end Feed
end Go.Proofs.YtohdlnefgieenaaGreat
namespace Go.Proofs.YtohdlnefgieenaaGreat
open Go.RowKit Go.Shelf
attribute [local go_sem] Oper.semAt_some
namespace Mod
open Go.Law Feed Bk
structure Mo where
 most : Int
 lim : Int
 now : Int
 seq : Int
 closed : Bool
 n : Nat
 room : Nat
 bk : Nat → List (ByteArray × En)
 fd : Nat → St
abbrev Mo.cells (a : Mo) (t c : Nat) : Array Value := #[.int .i64 a.most, .int .i64 a.lim, .int .u64 a.now, .int .u64 a.seq, .bool a.closed, .slice (some ⟨t, 0, none⟩) a.n c]
abbrev UT : Option TypeId := (some 107)
structure Still (w w' : World) : Prop where
 calm : Bk.Calm w w'
 name : Keeps 200 w w'
 user : ∀ t, UT = some t → Keeps t w w'
theorem Still.of_below {w w' : World} (hb : Below w.heap.size w w') : Still w w' := ⟨Bk.Calm.of_below hb, Keeps.of_below hb, fun _ _ => Keeps.of_below hb⟩
theorem Still.trans {w w' w'' : World} (h : Still w w') (h' : Still w' w'') : Still w w'' := ⟨h.calm.trans h'.calm, h.name.trans h'.name, fun t ht => (h.user t ht).trans (h'.user t ht)⟩
theorem Still.of {w w' : World} (h : ∀ t, t ≠ 121 → t ≠ 159 → t ≠ 63 → Keeps t w w') : Still w w' := ⟨⟨h _ (by decide) (by decide) (by decide), h _ (by decide) (by decide) (by decide)⟩, h _ (by decide) (by decide) (by decide), fun t ht => h t (fun e => absurd (e ▸ ht) (by decide)) (fun e => absurd (e ▸ ht) (by decide)) (fun e => absurd (e ▸ ht) (by decide))⟩
theorem Still.store {w : World} {g i : Nat} {t' : TypeId} {cs : Array Value} (hg : Is w g t' cs) (h1 : 168 ≠ t') (h2 : 138 ≠ t') (h3 : 200 ≠ t') (u : Value) (h4 : UT ≠ some t' := by decide) : Still w (w.setCell ⟨g, i, none⟩ u) := ⟨Bk.Calm.store hg h1 h2 u, Keeps.store hg h3 u, fun _ ht => Keeps.store hg (fun e => h4 (e ▸ ht)) u⟩
structure TabV (w : World) (base : Nat) (S : Nat → Prop) (m t c : Nat) (arr : Array Value) (p : Nat → Option Addr) (g : Nat → Nat) (Sk : Nat → Nat → Prop) (a : Mo) : Prop where
 box : Is w m 67 (a.cells t c)
 row : Is w t 74 arr
 bkc : ∀ k, k < a.n → arr[k * 2]? = some (.pointer (p k))
 fdc : ∀ k, k < a.n → arr[k * 2 + 1]? = some (.pointer (some ⟨g k, 0, none⟩))
 book : ∀ k, k < a.n → Booked w (p k) (a.bk k)
 feed : ∀ k, k < a.n → Fed w base (Sk k) (g k) a.room (a.fd k)
 apart : ∀ i j, i < a.n → j < a.n → i ≠ j → ∀ x, Sk i x → ¬ Sk j x
 offm : ∀ k, k < a.n → ¬ Sk k m
 offt : ∀ k, k < a.n → ¬ Sk k t
 inm : S m
 int : S t
 sub : ∀ k, k < a.n → ∀ x, Sk k x → S x
 ok : ∀ x, S x → base ≤ x ∧ x < w.heap.size
def Tab (w : World) (base : Nat) (S : Nat → Prop) (m : Nat) (a : Mo) : Prop := ∃ t c arr p g Sk, TabV w base S m t c arr p g Sk a
structure Gone (w : World) (S : Nat → Prop) (w' : World) (S' : Nat → Prop) : Prop where
 touch : Law.Touch w w' S
 new : ∀ x, S' x → S x ∨ w.heap.size ≤ x
 still : Still w w'
section
variable {w w' w'' : World} {base m t c : Nat} {S S' S'' T : Nat → Prop} {arr : Array Value} {p : Nat → Option Addr} {g : Nat → Nat} {Sk : Nat → Nat → Prop} {a : Mo}
theorem Gone.refl (w : World) (S : Nat → Prop) : Gone w S w S := ⟨Law.Touch.refl _ _, fun _ h => .inl h, Still.of_below (Below.refl _ _)⟩
theorem Gone.of_below (hb : Below w.heap.size w w') : Gone w S w' S := ⟨Law.Touch.of_below hb S, fun _ h => .inl h, Still.of_below hb⟩
theorem Gone.trans (h : Gone w S w' S') (h' : Gone w' S' w'' S'') : Gone w S w'' S'' :=
 ⟨h.touch.trans h'.touch h.new, fun n hn => (h'.new n hn).elim (h.new n) (fun hl => .inr (Nat.le_trans h.touch.size hl)), h.still.trans h'.still⟩
theorem Gone.is (h : Gone w S w' S') {g : Nat} {t : TypeId} {cs : Array Value} (hi : Is w g t cs) (hg : ¬ S g) : Is w' g t cs := h.touch.is hi hg
theorem Gone.below (h : Gone w S w' S') {B : Nat} (hS : ∀ n, S n → B ≤ n) {w0 : World} (hb : Below B w0 w) (hB : B ≤ w.heap.size) : Below B w0 w' := h.touch.below hb hS hB
theorem Gone.seq (h : Gone w S w' S') {lo B : Nat} {A : Option Addr} {xs : List Value} (hs : Seq w lo B A xs) (hB : B ≤ w.heap.size) (hS : ∀ x, S x → x < lo ∨ B ≤ x) : Seq w' lo B A xs :=
 hs.keep fun q h1 h2 => World.cell?_of_block (h.touch.block q.block (by omega) (fun hx => (hS _ hx).elim (by omega) (by omega)))
theorem TabV.touch (h : TabV w base S m t c arr p g Sk a) (ht : Law.Touch w w' T) (hd : ∀ x, S x → ¬ T x) (hs : Still w w') : TabV w' base S m t c arr p g Sk a :=
 ⟨ht.is h.box (hd _ h.inm), ht.is h.row (hd _ h.int), h.bkc, h.fdc, fun k hk => (h.book k hk).calm hs.calm, fun k hk => (h.feed k hk).touch ht (fun x hx => hd x (h.sub k hk x hx)) hs.name, h.apart, h.offm, h.offt, h.inm, h.int, h.sub, fun x hx => ⟨(h.ok x hx).1, Nat.lt_of_lt_of_le (h.ok x hx).2 ht.size⟩⟩
theorem TabV.below (h : TabV w base S m t c arr p g Sk a) (hb : Below w.heap.size w w') : TabV w' base S m t c arr p g Sk a := h.touch (Law.Touch.of_below hb fun _ => False) (fun _ _ h => h) (Still.of_below hb)
theorem Tab.touch (h : Tab w base S m a) (ht : Law.Touch w w' T) (hd : ∀ x, S x → ¬ T x) (hs : Still w w') : Tab w' base S m a := by
 obtain ⟨t, c, arr, p, g, Sk, h⟩ := h
 exact ⟨t, c, arr, p, g, Sk, h.touch ht hd hs⟩
theorem Tab.below (h : Tab w base S m a) (hb : Below w.heap.size w w') : Tab w' base S m a := h.touch (Law.Touch.of_below hb fun _ => False) (fun _ _ h => h) (Still.of_below hb)
theorem Tab.ok (h : Tab w base S m a) : ∀ x, S x → base ≤ x ∧ x < w.heap.size := by obtain ⟨_, _, _, _, _, _, h⟩ := h; exact h.ok
theorem TabV.ne (h : TabV w base S m t c arr p g Sk a) : m ≠ t := fun e => by
 have h1 := h.box
 rw [e] at h1
 have h2 : (some (Obj.cells (a.cells t c) 67)) = some (Obj.cells arr 74) := h1.symm.trans h.row
 injection h2 with h2
 injection h2 with _ h2
 exact absurd h2 (by decide)
theorem TabV.time (h : TabV w base S m t c arr p g Sk a) (i : Nat) (v : Value) {a' : Mo} (hn : a'.n = a.n) (hr : a'.room = a.room) (hb : a'.bk = a.bk) (hf : a'.fd = a.fd) (hc : (a.cells t c).setIfInBounds i v = a'.cells t c) : TabV (w.setCell ⟨m, i, none⟩ v) base S m t c arr p g Sk a' ∧ Gone w S (w.setCell ⟨m, i, none⟩ v) S := by
 have ht := Law.Touch.store (T := fun n => n = m) w ⟨m, i, none⟩ v rfl
 have hs : Still w (w.setCell ⟨m, i, none⟩ v) := Still.store h.box (by decide) (by decide) (by decide) v
 refine ⟨⟨h.box.set i v hc, ht.is h.row (fun e => h.ne e.symm), ?_, ?_, ?_, ?_, ?_, ?_, ?_, h.inm, h.int, ?_, ?_⟩, ⟨Law.Touch.store w ⟨m, i, none⟩ v h.inm, fun _ h => .inl h, hs⟩⟩
 ·rw [hn]; exact h.bkc
 ·rw [hn]; exact h.fdc
 ·rw [hn, hb]; exact fun k hk => (h.book k hk).calm hs.calm
 ·rw [hn, hf, hr]; exact fun k hk => (h.feed k hk).touch ht (fun x hx e => h.offm k hk (e ▸ hx)) hs.name
 ·rw [hn]; exact h.apart
 ·rw [hn]; exact h.offm
 ·rw [hn]; exact h.offt
 ·rw [hn]; exact h.sub
 ·exact fun x hx => ⟨(h.ok x hx).1, by simpa using (h.ok x hx).2⟩
theorem set_at (arr : Array Value) (v u : Value) {i j : Nat} (h : i ≠ j) (hu : arr[i]? = some u) : (arr.setIfInBounds j v)[i]? = some u := by rw [Array.getElem?_setIfInBounds_ne (Ne.symm h)]; exact hu
theorem TabV.put (h : TabV w base S m t c arr p g Sk a) {k : Nat} (hk : k < a.n) {q : Option Addr} {nb : List (ByteArray × En)} (hq : Booked w q nb) :
  TabV (w.setCell ⟨t, k * 2, none⟩ (.pointer q)) base S m t c (arr.setIfInBounds (k * 2) (.pointer q)) (upd p k q) g Sk { a with bk := upd a.bk k nb } ∧ Gone w S (w.setCell ⟨t, k * 2, none⟩ (.pointer q)) S := by
 have ht := Law.Touch.store (T := fun n => n = t) w ⟨t, k * 2, none⟩ (.pointer q) rfl
 have hs : Still w (w.setCell ⟨t, k * 2, none⟩ (.pointer q)) := Still.store h.row (by decide) (by decide) (by decide) _
 refine ⟨⟨ht.is h.box h.ne, h.row.set (k * 2) _ rfl, fun i hi => ?_, fun i hi => set_at _ _ _ (by omega) (h.fdc i hi), fun i hi => ?_, fun i hi => (h.feed i hi).touch ht (fun x hx e => h.offt i hi (e ▸ hx)) hs.name, h.apart, h.offm, h.offt, h.inm, h.int, h.sub, fun x hx => ⟨(h.ok x hx).1, by simpa using (h.ok x hx).2⟩⟩, ⟨Law.Touch.store w ⟨t, k * 2, none⟩ _ h.int, fun _ h => .inl h, hs⟩⟩
 ·by_cases e : i = k
  ·subst e
   have hlt : i * 2 < arr.size := (Array.getElem?_eq_some_iff.1 (h.bkc i hi)).1
   rw [upd_same, Array.getElem?_setIfInBounds_self_of_lt hlt]
  ·rw [upd_other _ _ e]
   exact set_at _ _ _ (by omega) (h.bkc i hi)
 ·show Booked _ (upd p k q i) (upd a.bk k nb i)
  by_cases e : i = k
  ·subst e
   rw [upd_same, upd_same]
   exact hq.calm hs.calm
  ·rw [upd_other _ _ e, upd_other _ _ e]
   exact (h.book i hi).calm hs.calm
theorem TabV.tell (h : TabV w base S m t c arr p g Sk a) {k : Nat} (hk : k < a.n) {s' : St} {Sn' : Nat → Prop} (hF : Fed w' base Sn' (g k) a.room s') (hW : Went w (Sk k) w' Sn') :
  TabV w' base (fun x => S x ∨ Sn' x) m t c arr p g (upd Sk k Sn') { a with fd := upd a.fd k s' } ∧ Gone w S w' (fun x => S x ∨ Sn' x) := by
 have hs : Still w w' := Still.of hW.calm
 have hnew : ∀ x, Sn' x → S x ∨ w.heap.size ≤ x := fun x hx => (hW.new x hx).imp (h.sub k hk x) id
 refine ⟨⟨hW.is h.box (h.offm k hk), hW.is h.row (h.offt k hk), h.bkc, h.fdc, fun i hi => (h.book i hi).calm hs.calm, fun i hi => ?_, fun i j hi hj hne x => ?_, fun i hi => ?_, fun i hi => ?_, .inl h.inm, .inl h.int, fun i hi x => ?_, fun x hx => ?_⟩, ⟨hW.touch.mono (h.sub k hk), fun x hx => hx.elim .inl (hnew x), hs⟩⟩
 ·show Fed w' base (upd Sk k Sn' i) (g i) a.room (upd a.fd k s' i)
  by_cases e : i = k
  ·subst e; rw [upd_same, upd_same]; exact hF
  ·rw [upd_other _ _ e, upd_other _ _ e]
   exact (h.feed i hi).touch hW.touch (fun x hx => h.apart i k hi hk e x hx) hs.name
 ·by_cases e : i = k
  ·subst e
   rw [upd_same, upd_other _ _ (Ne.symm hne)]
   exact fun hx hj' => (hW.new x hx).elim (fun h' => h.apart i j hi hj hne x h' hj') (fun h' => by have := ((h.feed j hj).ok x hj').2; omega)
  ·rw [upd_other _ _ e]
   by_cases e' : j = k
   ·subst e'
    rw [upd_same]
    exact fun hx hj' => (hW.new x hj').elim (fun h' => h.apart i j hi hj hne x hx h') (fun h' => by have := ((h.feed i hi).ok x hx).2; omega)
   ·rw [upd_other _ _ e']
    exact h.apart i j hi hj hne x
 ·by_cases e : i = k
  ·subst e; rw [upd_same]; exact hW.off h.box.lt (h.offm i hk)
  ·rw [upd_other _ _ e]; exact h.offm i hi
 ·by_cases e : i = k
  ·subst e; rw [upd_same]; exact hW.off h.row.lt (h.offt i hk)
  ·rw [upd_other _ _ e]; exact h.offt i hi
 ·by_cases e : i = k
  ·subst e; rw [upd_same]; exact .inr
  ·rw [upd_other _ _ e]; exact fun hx => .inl (h.sub i hi x hx)
 ·exact hx.elim (fun h' => ⟨(h.ok x h').1, Nat.lt_of_lt_of_le (h.ok x h').2 hW.touch.size⟩) (fun h' => hF.ok x h')
end
end Mod
end Go.Proofs.YtohdlnefgieenaaGreat

/-
  The reference's feed (layer 9) in memory; what its Watching and Count come to.
-/
import Derived.Test.YtohdlnefgieenaaGreatJ25
import Derived.Test.YtohdlnefgieenaaGreatJ18
import Derived.Test.YtohdlnefgieenaaGreatJ12
namespace Go.Law
open Go.RowKit
abbrev Pa := Int × ByteArray
def cellsP (p : Pa) : List Value := [.int .i64 p.1, .string p.2]
def flatP (l : List Pa) : List Value := l.flatMap cellsP
theorem flatP_length (l : List Pa) : (flatP l).length = l.length * 2 := rows_length (cells := cellsP) (fun _ => rfl) l
theorem flatP_snoc (zs : List Pa) (q : Pa) : flatP (zs ++ [q]) = flatP zs ++ cellsP q := by unfold flatP; rw [List.flatMap_append]; simp
theorem one_P (q : Pa) : ∀ u ∈ cellsP q, u.oneCell' = true := by
 intro u hu
 simp [cellsP] at hu
 rcases hu with rfl | rfl <;> rfl
theorem flatP_one (l : List Pa) : ∀ u ∈ flatP l, u.oneCell' = true := by
 intro u hu
 obtain ⟨q, _, hq⟩ := List.mem_flatMap.1 hu
 exact one_P q u hq
theorem new_P (w : World) (q : Pa) (t : TypeId) {g : Nat} (hg : g = w.heap.size) : ∀ (j : Nat) (u : Value), (cellsP q)[j]? = some u → (w.alloc (.cells #[.int .i64 q.1, .string q.2] t)).cell? ((⟨g, 0, none⟩ : Addr).add j) = some u := by
 subst hg
 intro j u hj
 match j, hj with
 | 0, hj => simp [cellsP] at hj; subst hj; simp [Addr.add]
 | 1, hj => simp [cellsP] at hj; subst hj; simp [Addr.add]
 | j + 2, hj => simp [cellsP] at hj
theorem Seq.pa {w : World} {lo B : Nat} {A : Option Addr} {l : List Pa} {i : Nat} (h : Seq w lo B A (flatP l)) (hi : i < l.length) : ∃ b off, A = some ⟨b, off, none⟩ ∧ lo ≤ b ∧ b < B ∧ w.cell? ⟨b, off + i * 2, none⟩ = some (.int .i64 l[i].1) ∧ w.cell? ⟨b, off + i * 2 + 1, none⟩ = some (.string l[i].2) := by
 obtain ⟨b, off, hA, h1, h2, hc⟩ := Seq.row (cells := cellsP) (fun _ => rfl) (by decide : 0 < 2) h hi
 exact ⟨b, off, hA, h1, h2, by simpa using hc 0 _ rfl, hc 1 _ rfl⟩
def LieR (R : Nat → Prop) (w : World) (A : Option Addr) (xs : List Value) : Prop := xs ≠ [] → ∃ g off, A = some ⟨g, off, none⟩ ∧ R g ∧ ∀ i u, xs[i]? = some u → w.cell? ⟨g, off + i, none⟩ = some u
section
variable {R R' T : Nat → Prop} {w w' : World} {A : Option Addr} {xs : List Value}
theorem LieR.seq (h : LieR R w A xs) (hR : ∀ n, R n → n < w.heap.size) : Seq w 0 w.heap.size A xs := fun hn => by
 obtain ⟨g, off, hA, hg, hc⟩ := h hn
 exact ⟨g, off, hA, Nat.zero_le _, hR g hg, hc⟩
theorem LieR.touch (h : LieR R w A xs) (ht : Touch w w' T) (hd : ∀ n, R n → ¬ T n) (hR : ∀ n, R n → n < w.heap.size) : LieR R w' A xs := fun hn => by
 obtain ⟨g, off, hA, hg, hc⟩ := h hn
 exact ⟨g, off, hA, hg, fun i u hu => (World.cell?_of_block (ht.block g (hR g hg) (hd g hg))).trans (hc i u hu)⟩
theorem LieR.mono (h : LieR R w A xs) (hs : ∀ n, R n → R' n) : LieR R' w A xs := fun hn => by
 obtain ⟨g, off, hA, hg, hc⟩ := h hn
 exact ⟨g, off, hA, hs g hg, hc⟩
theorem LieR.of_seq {N M : Nat} (h : Seq w N M A xs) (hR : ∀ n, N ≤ n → n < M → R n) : LieR R w A xs := fun hn => by
 obtain ⟨g, off, hA, h1, h2, hc⟩ := h hn
 exact ⟨g, off, hA, hR g h1 h2, hc⟩
end
end Go.Law
namespace Go.Proofs.YtohdlnefgieenaaGreat
open Go.RowKit Go.Shelf
attribute [local go_sem] Oper.semAt_some
namespace Feed
open Go.Law
def cellsRf (room : Int) (vp : Value) (vq : Nat → Value) (ls : Nat → Bool) : Array Value := #[.int .i64 room, vp, vq 0, vq 1, vq 2, vq 3, vq 4, vq 5, vq 6, vq 7, .bool (ls 0), .bool (ls 1), .bool (ls 2), .bool (ls 3), .bool (ls 4), .bool (ls 5), .bool (ls 6), .bool (ls 7)]
section
variable (room : Int) (vp v : Value) (vq : Nat → Value) (ls : Nat → Bool) {k : Nat}
theorem cellsRf_q (h : k < 8) : (cellsRf room vp vq ls)[2 + k]? = some (vq k) := by
 match k, h with
 | 0, _ | 1, _ | 2, _ | 3, _ | 4, _ | 5, _ | 6, _ | 7, _ => rfl
theorem cellsRf_l (h : k < 8) : (cellsRf room vp vq ls)[10 + k]? = some (.bool (ls k)) := by
 match k, h with
 | 0, _ | 1, _ | 2, _ | 3, _ | 4, _ | 5, _ | 6, _ | 7, _ => rfl
theorem cellsRf_setq (h : k < 8) : (cellsRf room vp vq ls).setIfInBounds (2 + k) v = cellsRf room vp (upd vq k v) ls := by
 match k, h with
 | 0, _ | 1, _ | 2, _ | 3, _ | 4, _ | 5, _ | 6, _ | 7, _ => rfl
theorem cellsRf_setl (b : Bool) (h : k < 8) : (cellsRf room vp vq ls).setIfInBounds (10 + k) (.bool b) = cellsRf room vp vq (upd ls k b) := by
 match k, h with
 | 0, _ | 1, _ | 2, _ | 3, _ | 4, _ | 5, _ | 6, _ | 7, _ => rfl
end
structure RefV (w : World) (R : Nat → Prop) (r : Nat) (room : Int) (ps : List Pa) (qs : Nat → List Ev) (ls : Nat → Bool) (vp : Value) (vq : Nat → Value) : Prop where
 box : Is w r 81 (cellsRf room vp vq ls)
 out : ¬ R r
 ok : ∀ n, R n → n < w.heap.size
 pr : ∃ A c, vp = .slice A ps.length c ∧ LieR R w A (flatP ps)
 qu : ∀ k, k < 8 → ∃ A c, vq k = .slice A (qs k).length c ∧ LieR R w A (flatE (qs k))
 cap : ∀ k, k < 8 → ∀ A n c, vq k = .slice A n c → n ≤ c
def RefAt (w : World) (R : Nat → Prop) (r : Nat) (room : Int) (ps : List Pa) (qs : Nat → List Ev) (ls : Nat → Bool) : Prop := ∃ vp vq, RefV w R r room ps qs ls vp vq
section
variable {w w' : World} {R T : Nat → Prop} {r : Nat} {room : Int} {ps : List Pa} {qs : Nat → List Ev} {ls : Nat → Bool} {vp : Value} {vq : Nat → Value}
theorem RefV.touch (h : RefV w R r room ps qs ls vp vq) (ht : Law.Touch w w' T) (hd : ∀ n, R n → ¬ T n) (hr : ¬ T r) : RefV w' R r room ps qs ls vp vq := by
 refine ⟨ht.is h.box hr, h.out, fun n hn => Nat.lt_of_lt_of_le (h.ok n hn) ht.size, ?_, fun k hk => ?_, h.cap⟩
 ·obtain ⟨A, c, e, hl⟩ := h.pr
  exact ⟨A, c, e, hl.touch ht hd h.ok⟩
 ·obtain ⟨A, c, e, hl⟩ := h.qu k hk
  exact ⟨A, c, e, hl.touch ht hd h.ok⟩
theorem RefV.below (h : RefV w R r room ps qs ls vp vq) (hb : Below w.heap.size w w') : RefV w' R r room ps qs ls vp vq := h.touch (Law.Touch.of_below hb fun _ => False) (fun _ _ h => h) (fun h => h)
theorem RefAt.touch (h : RefAt w R r room ps qs ls) (ht : Law.Touch w w' T) (hd : ∀ n, R n → ¬ T n) (hr : ¬ T r) : RefAt w' R r room ps qs ls := by
 obtain ⟨vp, vq, h⟩ := h
 exact ⟨vp, vq, h.touch ht hd hr⟩
theorem RefAt.below (h : RefAt w R r room ps qs ls) (hb : Below w.heap.size w w') : RefAt w' R r room ps qs ls := h.touch (Law.Touch.of_below hb fun _ => False) (fun _ _ h => h) (fun h => h)
end
set_option maxRecDepth 100000 in
set_option maxHeartbeats 2000000 in
theorem rWatching {w : World} {R : Nat → Prop} {r : Nat} {room : Int} {ps : List Pa} {qs : Nat → List Ev} {ls : Nat → Bool} (h : RefAt w R r room ps qs ls) (hl : ps.length ≤ 1000) (who : Int) (u : ByteArray) {res : Bool} (hr : res = true ↔ (who, u) ∈ ps) :
  Calls Tryz.prog 37 #[.pointer (some ⟨r, 0, none⟩), .int .i64 who, .string u] w fun e w' => e = .returned (.bool res) ∧ Below w.heap.size w w' := by
 obtain ⟨vp, vq, h⟩ := h
 obtain ⟨A, c, rfl, hp⟩ := h.pr
 have HP := Lib.hid (hp.seq h.ok)
 have HI := Lib.hid h.box
 have HR := Lib.hid hr
 clear h hp hr
 go_enter Tryz.func37, Tryz.ntmps37
 go_wp2_with fail
 go_loopw [7] (fun i wr => ∃ j : Nat, j ≤ ps.length ∧ i = .int .i64 j ∧ (who, u) ∉ ps.take j ∧ Below w.heap.size w wr) (fun i _ => ps.length - (intOf i).toNat)
 case atStart => exact ⟨0, Nat.zero_le _, rfl, by simp, Below.refl _ _⟩
 case round =>
  obtain ⟨j, hj, rfl, hn, hB⟩ := hrel
  have I1 := HI.out.below hB HI.out.lt
  have c1 : World.cell? _ ⟨r, 1, none⟩ = some (.slice A ps.length c) := I1.cell' rfl
  have l1 := I1.lt
  have HB := Lib.hid hB
  have HN := Lib.hid hn
  clear hB hn I1
  by_cases hlt : j < ps.length
  ·have d1 : decide ((j : Int) < (ps.length : Int)) = true := by simp; omega
   obtain ⟨g, o, rfl, _, hg, p0, p1⟩ := (HP.out.below HB.out).pa hlt
   have HTK := Lib.hid (List.take_succ_eq_append_getElem hlt)
   have HMM := Lib.hid (List.getElem_mem hlt)
   generalize ps[j] = p at *
   obtain ⟨a, y⟩ := p
   simp only at p0 p1
   by_cases ha : a = who
   ·subst ha
    have e1 : (a == a) = true := by simp
    by_cases hy : y = u
    ·subst hy
     have e2 : (y.toList == y.toList) = true := by simp
     obtain rfl : res = true := HR.out.2 HMM.out
     go_wp2_with fail
     go_ret
     exact ⟨rfl, HB.out⟩
    ·have e2 : (y.toList == u.toList) = false := by simpa using fun e => hy (OmapU.ext e)
     have HNX : Hid ((a, u) ∉ ps.take (j + 1)) := by show ¬ _; rw [HTK.out]; simp [HN.out]; exact fun e => hy e.symm
     go_wp2_with fail
     go_roundw
     case rel => exact ⟨j + 1, by omega, by go_num, HNX.out, HB.out⟩
     case measure => simp [intOf]; omega
   ·have e1 : (a == who) = false := by simpa using ha
    have HNX : Hid ((who, u) ∉ ps.take (j + 1)) := by show ¬ _; rw [HTK.out]; simp [HN.out]; exact fun e => absurd e.symm ha
    go_wp2_with fail
    go_roundw
    case rel => exact ⟨j + 1, by omega, by go_num, HNX.out, HB.out⟩
    case measure => simp [intOf]; omega
  ·have d1 : decide ((j : Int) < (ps.length : Int)) = false := by simp; omega
   have e1 : ps.take j = ps := List.take_of_length_le (by omega)
   rw [e1] at HN
   obtain rfl : res = false := by cases res with | false => rfl | true => exact absurd (HR.out.1 rfl) HN.out
   go_wp2_with fail
   go_ret
   exact ⟨rfl, HB.out⟩
set_option maxRecDepth 100000 in
set_option maxHeartbeats 2000000 in
theorem rCount {w : World} {R : Nat → Prop} {r : Nat} {room : Int} {ps : List Pa} {qs : Nat → List Ev} {ls : Nat → Bool} (h : RefAt w R r room ps qs ls) (hl : ps.length ≤ 1000) (who : Int) {n : Int} (hn : ((ps.filter fun p => decide (p.1 = who)).length : Int) = n) :
  Calls Tryz.prog 36 #[.pointer (some ⟨r, 0, none⟩), .int .i64 who] w fun e w' => e = .returned (.int .i64 n) ∧ Below w.heap.size w w' := by
 subst hn
 obtain ⟨vp, vq, h⟩ := h
 obtain ⟨A, c, rfl, hp⟩ := h.pr
 have HP := Lib.hid (hp.seq h.ok)
 have HI := Lib.hid h.box
 clear h hp
 go_enter Tryz.func36, Tryz.ntmps36
 go_wp2_with fail
 go_loopw [5, 6] (fun vn i wr => ∃ j : Nat, j ≤ ps.length ∧ i = .int .i64 j ∧ vn = .int .i64 (((ps.take j).filter fun p => decide (p.1 = who)).length : Int) ∧ Below w.heap.size w wr) (fun _ i _ => ps.length - (intOf i).toNat)
 case atStart => exact ⟨0, Nat.zero_le _, rfl, rfl, Below.refl _ _⟩
 case round =>
  obtain ⟨j, hj, rfl, rfl, hB⟩ := hrel
  have I1 := HI.out.below hB HI.out.lt
  have c1 : World.cell? _ ⟨r, 1, none⟩ = some (.slice A ps.length c) := I1.cell' rfl
  have l1 := I1.lt
  have HB := Lib.hid hB
  clear hB I1
  by_cases hlt : j < ps.length
  ·have d1 : decide ((j : Int) < (ps.length : Int)) = true := by simp; omega
   obtain ⟨g, o, rfl, _, hg, p0, p1⟩ := (HP.out.below HB.out).pa hlt
   have HTK := Lib.hid (List.take_succ_eq_append_getElem hlt)
   have hfl : ((ps.take j).filter fun p => decide (p.1 = who)).length ≤ 1000 := Nat.le_trans (List.length_filter_le ..) (by simp; omega)
   generalize ps[j] = p at *
   obtain ⟨a, y⟩ := p
   simp only at p0 p1
   by_cases ha : a = who
   ·have HF : Hid (((ps.take (j + 1)).filter fun p => decide (p.1 = who)).length = ((ps.take j).filter fun p => decide (p.1 = who)).length + 1) := by show _ = _; rw [HTK.out, List.filter_append, List.filter_cons_of_pos (by simpa using ha)]; simp
    subst ha
    have e1 : (a == a) = true := by simp
    generalize ((ps.take j).filter fun p => decide (p.1 = a)).length = m at *
    go_wp2_with fail
    go_roundw
    case rel => exact ⟨j + 1, by omega, by go_num, by rw [HF.out]; go_num, HB.out⟩
    case measure => simp [intOf]; omega
   ·have HF : Hid (((ps.take (j + 1)).filter fun p => decide (p.1 = who)).length = ((ps.take j).filter fun p => decide (p.1 = who)).length) := by show _ = _; rw [HTK.out, List.filter_append, List.filter_cons_of_neg (by simpa using ha)]; simp
    have e1 : (a == who) = false := by simpa using ha
    generalize ((ps.take j).filter fun p => decide (p.1 = who)).length = m at *
    go_wp2_with fail
    go_roundw
    case rel => exact ⟨j + 1, by omega, by go_num, by rw [HF.out], HB.out⟩
    case measure => simp [intOf]; omega
  ·have d1 : decide ((j : Int) < (ps.length : Int)) = false := by simp; omega
   have e1 : ps.take j = ps := List.take_of_length_le (by omega)
   rw [e1]
   go_wp2_with fail
   go_ret
   exact ⟨rfl, HB.out⟩
end Feed
end Go.Proofs.YtohdlnefgieenaaGreat
namespace Go.Proofs.YtohdlnefgieenaaGreat
open Go.RowKit
namespace Feed
open Go.Law
structure PI (N : Nat) (s : St) (ps : List Pa) : Prop where
 perm : ∀ k, k < 8 → (keys (s.wat k)).Perm ((ps.filter fun p => decide (p.1 = (k : Int))).map (·.2))
 inn : ∀ p ∈ ps, 0 ≤ p.1 ∧ p.1 < 8
 lp : ps.length ≤ N
section
variable {N k : Nat} {s : St} {ps : List Pa}
theorem PI.mem (ps : List Pa) (k : Int) (u : ByteArray) : u ∈ (ps.filter fun p => decide (p.1 = k)).map (·.2) ↔ (k, u) ∈ ps := by
 simp only [List.mem_map, List.mem_filter]
 exact ⟨fun ⟨p, ⟨h1, h2⟩, h3⟩ => by obtain ⟨a, y⟩ := p; simp at h2 h3; subst h2 h3; exact h1, fun h => ⟨(k, u), ⟨h, by simp⟩, rfl⟩⟩
theorem PI.has (h : PI N s ps) (hk : k < 8) (u : ByteArray) : s.has k u = true ↔ ((k : Int), u) ∈ ps := ((getK_keys u (s.wat k)).trans (h.perm k hk).mem_iff).trans (PI.mem ps k u)
theorem PI.len (h : PI N s ps) (hk : k < 8) : (ps.filter fun p => decide (p.1 = (k : Int))).length = (s.wat k).length := by have := (h.perm k hk).length_eq; simpa [keys] using this.symm
theorem PI.watchNew (h : PI N s ps) (hk : k < 8) (u : ByteArray) (hn : ((k : Int), u) ∉ ps) : PI (N + 1) { s with wat := upd s.wat k (putK OmapU.lt u 0 (s.wat k)) } (ps ++ [((k : Int), u)]) := by
 refine ⟨fun i hi => ?_, fun p hp => ?_, by simpa using h.lp⟩
 ·show (keys (upd s.wat k _ i)).Perm _
  rw [List.filter_append, List.map_append]
  by_cases e : i = k
  ·subst e
   rw [upd_same, List.filter_cons_of_pos (by simp)]
   have h1 : u ∉ keys (s.wat i) := fun h' => hn ((PI.mem ps i u).1 ((h.perm i hi).mem_iff.1 h'))
   exact ((putK_new OmapU.tri u 0 _ h1).trans (List.Perm.cons u (h.perm i hi))).trans (List.perm_append_comm (l₁ := [u]))
  ·rw [upd_other _ _ e, List.filter_cons_of_neg (by simp; omega)]
   simpa using h.perm i hi
 ·rcases List.mem_append.1 hp with hp | hp
  ·exact h.inn p hp
  ·obtain rfl := List.mem_singleton.1 hp
   exact ⟨Int.natCast_nonneg _, by show (k : Int) < 8; omega⟩
theorem PI.watchOld (h : PI N s ps) (hk : k < 8) (hr : Rises OmapU.lt (s.wat k)) (u : ByteArray) (hn : ((k : Int), u) ∈ ps) : PI (N + 1) { s with wat := upd s.wat k (putK OmapU.lt u 0 (s.wat k)) } ps := by
 refine ⟨fun i hi => ?_, h.inn, Nat.le_succ_of_le h.lp⟩
 show (keys (upd s.wat k _ i)).Perm _
 by_cases e : i = k
 ·subst e
  rw [upd_same, putK_old OmapU.tri u 0 _ hr ((h.perm i hi).mem_iff.2 ((PI.mem ps i u).2 hn))]
  exact h.perm i hi
 ·rw [upd_other _ _ e]
  exact h.perm i hi
theorem filter_out (ps : List Pa) (who i : Int) (u : ByteArray) (e : i ≠ who) : (ps.filter fun p => !decide (p = (who, u))).filter (fun p => decide (p.1 = i)) = ps.filter fun p => decide (p.1 = i) := by
 rw [List.filter_filter]
 refine List.filter_congr fun p _ => ?_
 by_cases h : p.1 = i
 ·have : p ≠ (who, u) := fun h' => e (by rw [← h, h'])
  simp [h, this]
 ·simp [h]
theorem filter_same (who : Int) (u : ByteArray) : ∀ ps : List Pa, ((ps.filter fun p => !decide (p = (who, u))).filter fun p => decide (p.1 = who)).map (·.2) = ((ps.filter fun p => decide (p.1 = who)).map (·.2)).filter fun a => decide (a ≠ u)
 | [] => rfl
 | p :: r => by
   have ih := filter_same who u r
   obtain ⟨a, y⟩ := p
   by_cases ha : a = who
   ·subst ha
    by_cases hy : y = u
    ·subst hy
     rw [List.filter_cons_of_neg (by simp), List.filter_cons_of_pos (by simp), List.map_cons, List.filter_cons_of_neg (by simp)]
     exact ih
    ·rw [List.filter_cons_of_pos (by simp [hy]), List.filter_cons_of_pos (by simp), List.map_cons, List.filter_cons_of_pos (l := r) (by simp), List.map_cons, List.filter_cons_of_pos (by simpa using hy), ih]
   ·rw [List.filter_cons_of_pos (by simp [ha]), List.filter_cons_of_neg (by simpa using ha), List.filter_cons_of_neg (l := r) (by simpa using ha)]
    exact ih
theorem PI.unwatch (h : PI N s ps) (hk : k < 8) (u : ByteArray) : PI (N + 1) { s with wat := upd s.wat k (outK u (s.wat k)) } (ps.filter fun p => !decide (p = ((k : Int), u))) := by
 refine ⟨fun i hi => ?_, fun p hp => h.inn p (List.mem_filter.1 hp).1, Nat.le_succ_of_le (Nat.le_trans (List.length_filter_le ..) h.lp)⟩
 show (keys (upd s.wat k _ i)).Perm _
 by_cases e : i = k
 ·subst e
  rw [upd_same, outK_keys, filter_same]
  exact (h.perm i hi).filter _
 ·rw [upd_other _ _ e, filter_out _ _ _ _ (by omega)]
  exact h.perm i hi
theorem PI.more {M : Nat} (h : PI N s ps) (hm : N ≤ M) : PI M s ps := ⟨h.perm, h.inn, Nat.le_trans h.lp hm⟩
theorem PI.wat {s' : St} (h : PI N s ps) (hw : s'.wat = s.wat) : PI N s' ps := ⟨by rw [hw]; exact h.perm, h.inn, h.lp⟩
theorem PI.nil (N : Nat) {s : St} (h : ∀ k, k < 8 → s.wat k = []) : PI N s [] := ⟨fun k hk => by rw [h k hk]; exact List.Perm.nil, fun _ hp => (by cases hp), Nat.zero_le _⟩
end
end Feed
end Go.Proofs.YtohdlnefgieenaaGreat
namespace Go.Law
open Go.RowKit
def cellsU (q : ByteArray × EnV) : List Value := [.string q.1, .slice q.2.A q.2.n q.2.c, .int .i64 q.2.st, .int .i64 q.2.pr, .int .i64 q.2.lv]
def flatU (l : List (ByteArray × EnV)) : List Value := l.flatMap cellsU
theorem cellsU_one (q : ByteArray × EnV) : ∀ u ∈ cellsU q, u.oneCell' = true := by
 intro u hq
 simp [cellsU] at hq
 rcases hq with rfl | rfl | rfl | rfl | rfl <;> rfl
theorem flatU_app (xs ys : List (ByteArray × EnV)) : flatU (xs ++ ys) = flatU xs ++ flatU ys := List.flatMap_append
theorem Seq.us {w : World} {lo B : Nat} {A : Option Addr} {l : List (ByteArray × EnV)} {i : Nat} (h : Seq w lo B A (flatU l)) (hi : i < l.length) : ∃ b off, A = some ⟨b, off, none⟩ ∧ lo ≤ b ∧ b < B ∧
  w.cell? ⟨b, off + i * 5, none⟩ = some (.string l[i].1) ∧ w.cell? ⟨b, off + i * 5 + 1, none⟩ = some (.slice l[i].2.A l[i].2.n l[i].2.c) ∧ w.cell? ⟨b, off + i * 5 + 2, none⟩ = some (.int .i64 l[i].2.st) ∧ w.cell? ⟨b, off + i * 5 + 3, none⟩ = some (.int .i64 l[i].2.pr) ∧ w.cell? ⟨b, off + i * 5 + 4, none⟩ = some (.int .i64 l[i].2.lv) := by
 obtain ⟨b, off, hA, h1, h2, hc⟩ := Seq.row (cells := cellsU) (fun _ => rfl) (by decide : 0 < 5) h hi
 exact ⟨b, off, hA, h1, h2, by simpa using hc 0 _ rfl, hc 1 _ rfl, hc 2 _ rfl, hc 3 _ rfl, hc 4 _ rfl⟩
end Go.Law
namespace Go.Proofs.YtohdlnefgieenaaGreat
open Go.RowKit
namespace Bk
open Go.Law Go.Proofs.YtohdlnefgieenaaGreat.OmapB Door
theorem elemU : ∃ i, Law.Elem Tryz.prog 84 107 i (.agg #[.string .empty, .slice none 0 0, .int .i64 0, .int .i64 0, .int .i64 0]) 5 64 := Law.Elem.of Tryz.underlying84 (by kernel_rfl) rfl (by decide)
def UsersAt (w : World) (A : Option Addr) (b : List (ByteArray × En)) : Prop := ∃ xs, Lain 107 w A (flatU xs) ∧ (∀ q ∈ xs, q.2.In 138 w) ∧ mapV EnV.en xs = b
end Bk
end Go.Proofs.YtohdlnefgieenaaGreat

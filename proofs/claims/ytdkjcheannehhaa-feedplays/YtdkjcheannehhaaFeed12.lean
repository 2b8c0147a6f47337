/-
  The reference's feed (layer 9) in memory; what its Watching and Count come to.
-/
import Derived.Test.YtdkjcheannehhaaFeed11
import Derived.Test.YtdkjcheannehhaaFeed09
namespace Go.Law
open Go.RowKit
abbrev Pa := Int × ByteArray
def cellsP (p : Pa) : List Value := [.int .i64 p.1, .string p.2]
def flatP (l : List Pa) : List Value := l.flatMap cellsP
theorem flatP_length (l : List Pa) : (flatP l).length = l.length * 2 := rows_length (cells := cellsP) (fun _ => rfl) l
theorem flatP_snoc (zs : List Pa) (q : Pa) : flatP (zs ++ [q]) = flatP zs ++ cellsP q := by unfold flatP; rw [List.flatMap_append]; simp
theorem one_P (q : Pa) : ∀ u ∈ cellsP q, u.oneCell' = true := by
  intro u hu
  simp [cellsP] at hu
  rcases hu with rfl | rfl <;> rfl
theorem flatP_one (l : List Pa) : ∀ u ∈ flatP l, u.oneCell' = true := by
  intro u hu
  obtain ⟨q, _, hq⟩ := List.mem_flatMap.1 hu
  exact one_P q u hq
theorem new_P (w : World) (q : Pa) (t : TypeId) {g : Nat} (hg : g = w.heap.size) : ∀ (j : Nat) (u : Value), (cellsP q)[j]? = some u → (w.alloc (.cells #[.int .i64 q.1, .string q.2] t)).cell? ((⟨g, 0, none⟩ : Addr).add j) = some u := by
  subst hg
  intro j u hj
  match j, hj with
  | 0, hj => simp [cellsP] at hj; subst hj; simp [Addr.add]
  | 1, hj => simp [cellsP] at hj; subst hj; simp [Addr.add]
  | j + 2, hj => simp [cellsP] at hj
theorem Seq.pa {w : World} {lo B : Nat} {A : Option Addr} {l : List Pa} {i : Nat} (h : Seq w lo B A (flatP l)) (hi : i < l.length) : ∃ b off, A = some ⟨b, off, none⟩ ∧ lo ≤ b ∧ b < B ∧ w.cell? ⟨b, off + i * 2, none⟩ = some (.int .i64 l[i].1) ∧ w.cell? ⟨b, off + i * 2 + 1, none⟩ = some (.string l[i].2) := by
  obtain ⟨b, off, hA, h1, h2, hc⟩ := Seq.row (cells := cellsP) (fun _ => rfl) (by decide : 0 < 2) h hi
  exact ⟨b, off, hA, h1, h2, by simpa using hc 0 _ rfl, hc 1 _ rfl⟩
/-- these cells lie at A, in a block of R -/
def LieR (R : Nat → Prop) (w : World) (A : Option Addr) (xs : List Value) : Prop := xs ≠ [] → ∃ g off, A = some ⟨g, off, none⟩ ∧ R g ∧ ∀ i u, xs[i]? = some u → w.cell? ⟨g, off + i, none⟩ = some u
section
variable {R R' T : Nat → Prop} {w w' : World} {A : Option Addr} {xs : List Value}
theorem LieR.seq (h : LieR R w A xs) (hR : ∀ n, R n → n < w.heap.size) : Seq w 0 w.heap.size A xs := fun hn => by
  obtain ⟨g, off, hA, hg, hc⟩ := h hn
  exact ⟨g, off, hA, Nat.zero_le _, hR g hg, hc⟩
theorem LieR.touch (h : LieR R w A xs) (ht : Touch w w' T) (hd : ∀ n, R n → ¬ T n) (hR : ∀ n, R n → n < w.heap.size) : LieR R w' A xs := fun hn => by
  obtain ⟨g, off, hA, hg, hc⟩ := h hn
  exact ⟨g, off, hA, hg, fun i u hu => (World.cell?_of_block (ht.block g (hR g hg) (hd g hg))).trans (hc i u hu)⟩
theorem LieR.mono (h : LieR R w A xs) (hs : ∀ n, R n → R' n) : LieR R' w A xs := fun hn => by
  obtain ⟨g, off, hA, hg, hc⟩ := h hn
  exact ⟨g, off, hA, hs g hg, hc⟩
theorem LieR.of_seq {N M : Nat} (h : Seq w N M A xs) (hR : ∀ n, N ≤ n → n < M → R n) : LieR R w A xs := fun hn => by
  obtain ⟨g, off, hA, h1, h2, hc⟩ := h hn
  exact ⟨g, off, hA, hR g h1 h2, hc⟩
end
end Go.Law
namespace Go.Proofs.Ytdkjcheannehhaa
open Go.RowKit Go.Shelf
attribute [local go_sem] Oper.semAt_some
namespace Feed
open Go.Law
def cellsRf (room : Int) (vp : Value) (vq : Nat → Value) (ls : Nat → Bool) : Array Value := #[.int .i64 room, vp, vq 0, vq 1, vq 2, vq 3, vq 4, vq 5, vq 6, vq 7, .bool (ls 0), .bool (ls 1), .bool (ls 2), .bool (ls 3), .bool (ls 4), .bool (ls 5), .bool (ls 6), .bool (ls 7)]
section
variable (room : Int) (vp v : Value) (vq : Nat → Value) (ls : Nat → Bool) {k : Nat}
theorem cellsRf_q (h : k < 8) : (cellsRf room vp vq ls)[2 + k]? = some (vq k) := by
  match k, h with
  | 0, _ | 1, _ | 2, _ | 3, _ | 4, _ | 5, _ | 6, _ | 7, _ => rfl
theorem cellsRf_l (h : k < 8) : (cellsRf room vp vq ls)[10 + k]? = some (.bool (ls k)) := by
  match k, h with
  | 0, _ | 1, _ | 2, _ | 3, _ | 4, _ | 5, _ | 6, _ | 7, _ => rfl
theorem cellsRf_setq (h : k < 8) : (cellsRf room vp vq ls).setIfInBounds (2 + k) v = cellsRf room vp (upd vq k v) ls := by
  match k, h with
  | 0, _ | 1, _ | 2, _ | 3, _ | 4, _ | 5, _ | 6, _ | 7, _ => rfl
theorem cellsRf_setl (b : Bool) (h : k < 8) : (cellsRf room vp vq ls).setIfInBounds (10 + k) (.bool b) = cellsRf room vp vq (upd ls k b) := by
  match k, h with
  | 0, _ | 1, _ | 2, _ | 3, _ | 4, _ | 5, _ | 6, _ | 7, _ => rfl
theorem cellsRf_setp : (cellsRf room vp vq ls).setIfInBounds 1 v = cellsRf room v vq ls := rfl
end
/-- block r is a feed of the reference; what it holds lies in blocks of R -/
structure RefV (w : World) (R : Nat → Prop) (r : Nat) (room : Int) (ps : List Pa) (qs : Nat → List Ev) (ls : Nat → Bool) (vp : Value) (vq : Nat → Value) : Prop where
  box : Is w r 33 (cellsRf room vp vq ls)
  out : ¬ R r
  ok : ∀ n, R n → n < w.heap.size
  pr : ∃ A c, vp = .slice A ps.length c ∧ LieR R w A (flatP ps)
  qu : ∀ k, k < 8 → ∃ A c, vq k = .slice A (qs k).length c ∧ LieR R w A (flatE (qs k))
def RefAt (w : World) (R : Nat → Prop) (r : Nat) (room : Int) (ps : List Pa) (qs : Nat → List Ev) (ls : Nat → Bool) : Prop := ∃ vp vq, RefV w R r room ps qs ls vp vq
section
variable {w w' : World} {R T : Nat → Prop} {r : Nat} {room : Int} {ps : List Pa} {qs : Nat → List Ev} {ls : Nat → Bool} {vp : Value} {vq : Nat → Value}
theorem RefV.touch (h : RefV w R r room ps qs ls vp vq) (ht : Law.Touch w w' T) (hd : ∀ n, R n → ¬ T n) (hr : ¬ T r) : RefV w' R r room ps qs ls vp vq := by
  refine ⟨ht.is h.box hr, h.out, fun n hn => Nat.lt_of_lt_of_le (h.ok n hn) ht.size, ?_, fun k hk => ?_⟩
  · obtain ⟨A, c, e, hl⟩ := h.pr
    exact ⟨A, c, e, hl.touch ht hd h.ok⟩
  · obtain ⟨A, c, e, hl⟩ := h.qu k hk
    exact ⟨A, c, e, hl.touch ht hd h.ok⟩
theorem RefV.below (h : RefV w R r room ps qs ls vp vq) (hb : Below w.heap.size w w') : RefV w' R r room ps qs ls vp vq := h.touch (Law.Touch.of_below hb fun _ => False) (fun _ _ h => h) (fun h => h)
theorem RefAt.touch (h : RefAt w R r room ps qs ls) (ht : Law.Touch w w' T) (hd : ∀ n, R n → ¬ T n) (hr : ¬ T r) : RefAt w' R r room ps qs ls := by
  obtain ⟨vp, vq, h⟩ := h
  exact ⟨vp, vq, h.touch ht hd hr⟩
theorem RefAt.below (h : RefAt w R r room ps qs ls) (hb : Below w.heap.size w w') : RefAt w' R r room ps qs ls := h.touch (Law.Touch.of_below hb fun _ => False) (fun _ _ h => h) (fun h => h)
end
set_option maxRecDepth 100000 in
set_option maxHeartbeats 2000000 in
theorem rWatching {w : World} {R : Nat → Prop} {r : Nat} {room : Int} {ps : List Pa} {qs : Nat → List Ev} {ls : Nat → Bool} (h : RefAt w R r room ps qs ls) (hl : ps.length ≤ 1000) (who : Int) (u : ByteArray) {res : Bool} (hr : res = true ↔ (who, u) ∈ ps) :
    Calls Try.prog 17 #[.pointer (some ⟨r, 0, none⟩), .int .i64 who, .string u] w fun e w' => e = .returned (.bool res) ∧ Below w.heap.size w w' := by
  obtain ⟨vp, vq, h⟩ := h
  obtain ⟨A, c, rfl, hp⟩ := h.pr
  have HP := Lib.hid (hp.seq h.ok)
  have HI := Lib.hid h.box
  have HR := Lib.hid hr
  clear h hp hr
  go_enter Try.func17, Try.ntmps17
  go_wp2_with fail
  go_loopw [7] (fun i wr => ∃ j : Nat, j ≤ ps.length ∧ i = .int .i64 j ∧ (who, u) ∉ ps.take j ∧ Below w.heap.size w wr) (fun i _ => ps.length - (intOf i).toNat)
  case atStart => exact ⟨0, Nat.zero_le _, rfl, by simp, Below.refl _ _⟩
  case round =>
    obtain ⟨j, hj, rfl, hn, hB⟩ := hrel
    have I1 := HI.out.below hB HI.out.lt
    have c1 : World.cell? _ ⟨r, 1, none⟩ = some (.slice A ps.length c) := I1.cell' rfl
    have l1 := I1.lt
    have HB := Lib.hid hB
    have HN := Lib.hid hn
    clear hB hn I1
    by_cases hlt : j < ps.length
    · have d1 : decide ((j : Int) < (ps.length : Int)) = true := by simp; omega
      obtain ⟨g, o, rfl, _, hg, p0, p1⟩ := (HP.out.below HB.out).pa hlt
      have HTK := Lib.hid (List.take_succ_eq_append_getElem hlt)
      have HMM := Lib.hid (List.getElem_mem hlt)
      generalize ps[j] = p at *
      obtain ⟨a, y⟩ := p
      simp only at p0 p1
      by_cases ha : a = who
      · subst ha
        have e1 : (a == a) = true := by simp
        by_cases hy : y = u
        · subst hy
          have e2 : (y.toList == y.toList) = true := by simp
          obtain rfl : res = true := HR.out.2 HMM.out
          go_wp2_with fail
          go_ret
          exact ⟨rfl, HB.out⟩
        · have e2 : (y.toList == u.toList) = false := by simpa using fun e => hy (OmapU.ext e)
          have HNX : Hid ((a, u) ∉ ps.take (j + 1)) := by show ¬ _; rw [HTK.out]; simp [HN.out]; exact fun e => hy e.symm
          go_wp2_with fail
          go_roundw
          case rel => exact ⟨j + 1, by omega, by go_num, HNX.out, HB.out⟩
          case measure => simp [intOf]; omega
      · have e1 : (a == who) = false := by simpa using ha
        have HNX : Hid ((who, u) ∉ ps.take (j + 1)) := by show ¬ _; rw [HTK.out]; simp [HN.out]; exact fun e => absurd e.symm ha
        go_wp2_with fail
        go_roundw
        case rel => exact ⟨j + 1, by omega, by go_num, HNX.out, HB.out⟩
        case measure => simp [intOf]; omega
    · have d1 : decide ((j : Int) < (ps.length : Int)) = false := by simp; omega
      have e1 : ps.take j = ps := List.take_of_length_le (by omega)
      rw [e1] at HN
      obtain rfl : res = false := by cases res with | false => rfl | true => exact absurd (HR.out.1 rfl) HN.out
      go_wp2_with fail
      go_ret
      exact ⟨rfl, HB.out⟩
set_option maxRecDepth 100000 in
set_option maxHeartbeats 2000000 in
theorem rCount {w : World} {R : Nat → Prop} {r : Nat} {room : Int} {ps : List Pa} {qs : Nat → List Ev} {ls : Nat → Bool} (h : RefAt w R r room ps qs ls) (hl : ps.length ≤ 1000) (who : Int) {n : Int} (hn : ((ps.filter fun p => decide (p.1 = who)).length : Int) = n) :
    Calls Try.prog 19 #[.pointer (some ⟨r, 0, none⟩), .int .i64 who] w fun e w' => e = .returned (.int .i64 n) ∧ Below w.heap.size w w' := by
  subst hn
  obtain ⟨vp, vq, h⟩ := h
  obtain ⟨A, c, rfl, hp⟩ := h.pr
  have HP := Lib.hid (hp.seq h.ok)
  have HI := Lib.hid h.box
  clear h hp
  go_enter Try.func19, Try.ntmps19
  go_wp2_with fail
  go_loopw [5, 6] (fun vn i wr => ∃ j : Nat, j ≤ ps.length ∧ i = .int .i64 j ∧ vn = .int .i64 (((ps.take j).filter fun p => decide (p.1 = who)).length : Int) ∧ Below w.heap.size w wr) (fun _ i _ => ps.length - (intOf i).toNat)
  case atStart => exact ⟨0, Nat.zero_le _, rfl, rfl, Below.refl _ _⟩
  case round =>
    obtain ⟨j, hj, rfl, rfl, hB⟩ := hrel
    have I1 := HI.out.below hB HI.out.lt
    have c1 : World.cell? _ ⟨r, 1, none⟩ = some (.slice A ps.length c) := I1.cell' rfl
    have l1 := I1.lt
    have HB := Lib.hid hB
    clear hB I1
    by_cases hlt : j < ps.length
    · have d1 : decide ((j : Int) < (ps.length : Int)) = true := by simp; omega
      obtain ⟨g, o, rfl, _, hg, p0, p1⟩ := (HP.out.below HB.out).pa hlt
      have HTK := Lib.hid (List.take_succ_eq_append_getElem hlt)
      have hfl : ((ps.take j).filter fun p => decide (p.1 = who)).length ≤ 1000 := Nat.le_trans (List.length_filter_le ..) (by simp; omega)
      generalize ps[j] = p at *
      obtain ⟨a, y⟩ := p
      simp only at p0 p1
      by_cases ha : a = who
      · have HF : Hid (((ps.take (j + 1)).filter fun p => decide (p.1 = who)).length = ((ps.take j).filter fun p => decide (p.1 = who)).length + 1) := by show _ = _; rw [HTK.out, List.filter_append, List.filter_cons_of_pos (by simpa using ha)]; simp
        subst ha
        have e1 : (a == a) = true := by simp
        generalize ((ps.take j).filter fun p => decide (p.1 = a)).length = m at *
        go_wp2_with fail
        go_roundw
        case rel => exact ⟨j + 1, by omega, by go_num, by rw [HF.out]; go_num, HB.out⟩
        case measure => simp [intOf]; omega
      · have HF : Hid (((ps.take (j + 1)).filter fun p => decide (p.1 = who)).length = ((ps.take j).filter fun p => decide (p.1 = who)).length) := by show _ = _; rw [HTK.out, List.filter_append, List.filter_cons_of_neg (by simpa using ha)]; simp
        have e1 : (a == who) = false := by simpa using ha
        generalize ((ps.take j).filter fun p => decide (p.1 = who)).length = m at *
        go_wp2_with fail
        go_roundw
        case rel => exact ⟨j + 1, by omega, by go_num, by rw [HF.out], HB.out⟩
        case measure => simp [intOf]; omega
    · have d1 : decide ((j : Int) < (ps.length : Int)) = false := by simp; omega
      have e1 : ps.take j = ps := List.take_of_length_le (by omega)
      rw [e1]
      go_wp2_with fail
      go_ret
      exact ⟨rfl, HB.out⟩
end Feed
end Go.Proofs.Ytdkjcheannehhaa

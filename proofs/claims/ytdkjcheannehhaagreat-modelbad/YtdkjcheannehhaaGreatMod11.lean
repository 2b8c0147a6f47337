/-
  A table that stays small enough (layer 10): what each act makes of its bounds. Plain.
-/
import Derived.Test.YtdkjcheannehhaaGreatMod10
namespace Go.Proofs.YtdkjcheannehhaaGreat
open Go.RowKit
namespace Mod
open Go.Law Feed Bk
section
variable {a : Mo} {b who : Nat}
theorem Mo.Ok.more {b' : Nat} (h : a.Ok b) (hb : b ≤ b') : a.Ok b' := ⟨h.n1, h.n8, h.room, h.now, h.seq, fun k hk => (h.fit k hk).more hb, fun k hk i hi => Nat.le_trans (h.wat k hk i hi) hb, h.que⟩
theorem upto_le16 {room : Nat} (hr : room ≤ 16) {s : St} (e : Ev) {i : Nat} (h : (s.que i).length ≤ 16) (n : Nat) : ((s.upto room e n).que i).length ≤ 16 := by
  rw [upto_que]
  split
  · unfold putL
    split
    · simp; omega
    · exact h
  · exact h
theorem tell_le16 {room : Nat} (hr : room ≤ 16) (seq : Int) {i : Nat} : ∀ (l : List Cg) (s : St), (s.que i).length ≤ 16 → ((s.tell room l seq).que i).length ≤ 16
  | [], _, h => h
  | c :: r, s, h => by
    show ((St.tell room (s.upto room (c.ev seq) 8) r seq).que i).length ≤ 16
    exact tell_le16 hr seq r _ (upto_le16 hr _ h 8)
theorem tell_wat (room : Nat) (seq : Int) : ∀ (l : List Cg) (s : St), (s.tell room l seq).wat = s.wat
  | [], _ => rfl
  | c :: r, s => by
    show (St.tell room (s.upto room (c.ev seq) 8) r seq).wat = _
    rw [tell_wat room seq r, upto_wat]
theorem take_ok (h : a.Ok b) : a.take.Ok b := ⟨h.n1, h.n8, h.room, h.now, Door.sat_U h.seq Door.U1, h.fit, h.wat, h.que⟩
theorem become_ok {b' : Nat} (h : a.Ok b) (hb : b ≤ b') {k : Nat} {nb : List (ByteArray × En)} (hn : Fit b' nb) (cs : List Ch) (seq : Int) : (a.become k nb cs seq).Ok b' := by
  refine ⟨h.n1, h.n8, h.room, h.now, h.seq, fun i hi => ?_, fun i hi j hj => ?_, fun i hi j hj => ?_⟩
  · show Fit b' (upd a.bk k nb i)
    by_cases e : i = k
    · subst e; rw [upd_same]; exact hn
    · rw [upd_other _ _ e]; exact (h.fit i hi).more hb
  · show ((upd a.fd k _ i).wat j).length ≤ b'
    by_cases e : i = k
    · subst e; rw [upd_same, tell_wat]; exact Nat.le_trans (h.wat i hi j hj) hb
    · rw [upd_other _ _ e]; exact Nat.le_trans (h.wat i hi j hj) hb
  · show ((upd a.fd k _ i).que j).length ≤ 16
    by_cases e : i = k
    · subst e; rw [upd_same]; exact tell_le16 h.room _ _ _ (h.que i hi j hj)
    · rw [upd_other _ _ e]; exact h.que i hi j hj
theorem sweep_ok (h : a.Ok b) (s : Int) : (a.sweep s).Ok b := by
  unfold Mo.sweep
  split
  · rename_i hs
    exact become_ok (take_ok h) (Nat.le_refl _) ((h.fit s.toNat (by omega)).sweep) _ _
  · exact h
theorem tick_ok (h : a.Ok b) {t : Int} (ht : Door.U t) : (a.tick t).Ok b := ⟨h.n1, h.n8, h.room, Door.sat_U h.now ht, h.seq, h.fit, h.wat, h.que⟩
theorem write_ok (h : a.Ok b) (x : OpV) : (a.write x).1.Ok (b + 1) := by
  unfold Mo.write
  split
  · exact (take_ok h).more (by omega)
  · exact become_ok (take_ok h) (by omega) ((h.fit _ (str_lt _ h.n1)).write) _ _
theorem feed1_ok (h : a.Ok b) (k : Nat) (s : St) (h1 : ∀ j, j < 8 → (s.wat j).length ≤ b + 1) (h2 : ∀ j, j < 8 → (s.que j).length ≤ 16) : (a.feed1 k s).Ok (b + 1) := by
  refine ⟨h.n1, h.n8, h.room, h.now, h.seq, fun i hi => (h.fit i hi).more (by omega), fun i hi j hj => ?_, fun i hi j hj => ?_⟩
  · show ((upd a.fd k s i).wat j).length ≤ b + 1
    by_cases e : i = k
    · subst e; rw [upd_same]; exact h1 j hj
    · rw [upd_other _ _ e]; exact Nat.le_succ_of_le (h.wat i hi j hj)
  · show ((upd a.fd k s i).que j).length ≤ 16
    by_cases e : i = k
    · subst e; rw [upd_same]; exact h2 j hj
    · rw [upd_other _ _ e]; exact h.que i hi j hj
theorem watch_ok (h : a.Ok b) (u : ByteArray) : (a.watch who u).1.Ok (b + 1) := by
  unfold Mo.watch
  split
  · exact h.more (by omega)
  · have hk := str_lt u h.n1
    refine feed1_ok h _ _ (fun j hj => ?_) (fun j hj => h.que _ hk j hj)
    show (upd (a.fd (str u a.n)).wat who _ j).length ≤ b + 1
    by_cases e : j = who
    · subst e; rw [upd_same]; have := (putK_length OmapU.lt u 0 ((a.fd (str u a.n)).wat j)).1; have := h.wat _ hk j hj; omega
    · rw [upd_other _ _ e]; exact Nat.le_succ_of_le (h.wat _ hk j hj)
theorem unwatch_ok (h : a.Ok b) (u : ByteArray) : (a.unwatch who u).Ok (b + 1) := by
  unfold Mo.unwatch
  have hk := str_lt u h.n1
  refine feed1_ok h _ _ (fun j hj => ?_) (fun j hj => h.que _ hk j hj)
  show (upd (a.fd (str u a.n)).wat who _ j).length ≤ b + 1
  by_cases e : j = who
  · subst e; rw [upd_same]; have := outK_length u ((a.fd (str u a.n)).wat j); have := h.wat _ hk j hj; omega
  · rw [upd_other _ _ e]; exact Nat.le_succ_of_le (h.wat _ hk j hj)
theorem poll_ok (h : a.Ok b) : (a.poll who).1.Ok (b + 1) := by
  refine ⟨h.n1, h.n8, h.room, h.now, h.seq, fun i hi => (h.fit i hi).more (by omega), fun i hi j hj => ?_, fun i hi j hj => ?_⟩
  · show ((if i < a.n then drained who (a.fd i) else a.fd i).wat j).length ≤ b + 1
    split
    · exact Nat.le_succ_of_le (h.wat i hi j hj)
    · exact Nat.le_succ_of_le (h.wat i hi j hj)
  · show ((if i < a.n then drained who (a.fd i) else a.fd i).que j).length ≤ 16
    split
    · show (upd (a.fd i).que who [] j).length ≤ 16
      by_cases e : j = who
      · subst e; rw [upd_same]; simp
      · rw [upd_other _ _ e]; exact h.que i hi j hj
    · exact h.que i hi j hj
theorem do_ok (h : a.Ok b) (who : Int) (q : OpW) : (a.do_ who q).1.Ok (b + 1) := by
  have hm := h.more (Nat.le_succ b)
  unfold Mo.do_
  split
  · unfold Mo.ask
    split
    · exact write_ok h _
    · split
      · exact poll_ok h
      · split
        · exact hm
        · split
          · exact hm
          · split
            · exact hm
            · split
              · exact watch_ok h _
              · split
                · exact unwatch_ok h _
                · exact ⟨hm.n1, hm.n8, hm.room, hm.now, hm.seq, hm.fit, hm.wat, hm.que⟩
  · exact hm
end
end Mod
end Go.Proofs.YtdkjcheannehhaaGreat

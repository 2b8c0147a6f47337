/-
  What the calls of a feed (layer 9) come to: Drain; what is told to one client.
-/
import Derived.Test.YtdkjcheannehhaaGreatFeed02
namespace Go.Proofs.YtdkjcheannehhaaGreat
open Go.RowKit Go.Shelf
attribute [local go_sem] Oper.semAt_some
namespace Feed
open Go.Law
/-- the queue of client k has turned -/
theorem FedV.queue {w w' : World} {base b room k : Nat} {S S' Sk' : Nat → Prop} {p : Nat → Option Addr} {g : Nat → Nat} {Sk : Nat → Nat → Prop} {s : St} (h : FedV w base S b room p g Sk s) (hk : k < 8) (ht : Law.Touch w w' (Sk k)) (hK : Keeps 205 w w')
    {zs : List Ev} {lost : Bool} (hr : RingE.At w' base Sk' (g k) room zs lost) (hn : ∀ n, Sk' n → Sk k n ∨ w.heap.size ≤ n) (h1 : ∀ n, S' n → S n ∨ Sk' n) (h2 : ∀ n, S n ∨ Sk' n → S' n) :
    FedV w' base S' b room p g (upd Sk k Sk') { s with que := upd s.que k zs, los := upd s.los k lost } := by
  have old : ∀ i, i < 8 → ∀ n, Sk i n → n < w.heap.size := fun i hi n hn => (h.ok n (h.sub i hi n hn)).2
  refine ⟨ht.is h.box (h.out k hk), fun i hi => ((h.tree i hi).keeps hK).wide ht.size, h.rise, ?_, ?_, ?_, h2 _ (.inl h.inn), ?_, ?_⟩
  · intro i hi
    show RingE.At w' base (upd Sk k Sk' i) (g i) room (upd s.que k zs i) (upd s.los k lost i)
    by_cases e : i = k
    · subst e
      rw [upd_same, upd_same, upd_same]
      exact hr
    · rw [upd_other _ _ e, upd_other _ _ e, upd_other _ _ e]
      exact (h.ring i hi).touch ht (h.apart i k hi hk e)
  · intro i j hi hj hne n h3 h4
    by_cases ei : i = k
    · subst ei
      rw [upd_same] at h3
      rw [upd_other _ _ (Ne.symm hne)] at h4
      rcases hn n h3 with h5 | h5
      · exact h.apart i j hi hj hne n h5 h4
      · have := old j hj n h4; omega
    · rw [upd_other _ _ ei] at h3
      by_cases ej : j = k
      · subst ej
        rw [upd_same] at h4
        rcases hn n h4 with h5 | h5
        · exact h.apart i j hi hj hne n h3 h5
        · have := old i hi n h3; omega
      · rw [upd_other _ _ ej] at h4
        exact h.apart i j hi hj hne n h3 h4
  · intro i hi h3
    by_cases ei : i = k
    · subst ei
      rw [upd_same] at h3
      rcases hn b h3 with h5 | h5
      · exact h.out i hi h5
      · have := h.box.lt; omega
    · rw [upd_other _ _ ei] at h3
      exact h.out i hi h3
  · intro i hi n h3
    by_cases ei : i = k
    · subst ei
      rw [upd_same] at h3
      exact h2 n (.inr h3)
    · rw [upd_other _ _ ei] at h3
      exact h2 n (.inl (h.sub i hi n h3))
  · intro n h3
    rcases h1 n h3 with h4 | h4
    · exact ⟨(h.ok n h4).1, Nat.lt_of_lt_of_le (h.ok n h4).2 ht.size⟩
    · exact Ringz.ok hr n h4
/-- behind a Drain -/
def Drained (w : World) (base : Nat) (S : Nat → Prop) (b room k : Nat) (s : St) (e : Ending) (w' : World) : Prop :=
  ∃ A c, e = .returned (.tuple #[.slice A (s.que k).length c, .bool (s.los k)]) ∧ Seq w' w.heap.size w'.heap.size A (flatE (s.que k)) ∧ Fed w' base S b room { s with que := upd s.que k [], los := upd s.los k false } ∧ Went w S w' S
set_option maxHeartbeats 1000000 in
theorem drain {w : World} {base b room k : Nat} {S : Nat → Prop} {s : St} (h : Fed w base S b room s) (hk : k < 8) (hl : (s.que k).length ≤ 1000) :
    Calls Tryz.prog 90 #[.pointer (some ⟨b, 0, none⟩), .int .i64 (k : Int)] w (Drained w base S b room k s) := by
  obtain ⟨p, g, Sk, h⟩ := h
  have HC := Lib.hid (client_yes hk)
  have HF := Lib.hid h
  have HG := Lib.hid (RingE.drain (h.ring k hk) hl)
  have c0 : w.cell? ⟨b, 8 + k, none⟩ = some (.pointer (some ⟨g k, 0, none⟩)) := (h.box.cell _).trans (by simpa using cellsF_que p g hk)
  have hk1 : k ≤ 7 := by omega
  have lb := h.box.lt
  clear h
  go_enter Tryz.func90, Tryz.ntmps90
  go_wp2_with fail
  refine (HC.out w).mono ?_
  rintro e w' ⟨rfl, rfl⟩
  go_wp2_with fail
  refine HG.out.mono ?_
  rintro e w' ⟨A, c, rfl, hc, hs, hr, ht⟩
  have HS := Lib.hid hs
  have HR := Lib.hid hr
  have HT := Lib.hid ht
  clear hs hr ht
  go_wp2_with fail
  go_ret2
  have hin := Ringz.inn (HF.out.ring k hk)
  obtain ⟨v, hv⟩ := HF.out.ring k hk
  exact ⟨A, c, rfl, HS.out, ⟨p, g, _, HF.out.queue (S' := S) hk (HT.out.mono (fun n e => e ▸ hin)) (Keeps.touch1 HT.out hv.box (by decide)) HR.out (fun n hn => .inl hn) (fun n hn => .inl hn) (fun n hn => hn.elim id (HF.out.sub k hk n))⟩, HT.out.mono (fun n e => e ▸ HF.out.sub k hk _ hin), fun n hn => .inl hn, fun t _ ht _ => Keeps.touch1 HT.out hv.box ht⟩
end Feed
end Go.Proofs.YtdkjcheannehhaaGreat

/-
  Layer 8's acts and an op as arguments of a statement; what holds of books that are made of acts.
-/
import Derived.Test.YtjjemdmbhgmiiaaBook07
import Derived.Test.YtjjemdmbhgmiiaaBook05
namespace Go.Proofs.Ytjjemdmbhgmiiaa
open Go.RowKit Go.ChangeShapes Go.WideShapes Go.ChangeAt
namespace Bk
open Go.Law Go.Proofs.Ytjjemdmbhgmiiaa.OmapB Door
section
variable {H : Type} {enc : TypeId × Value → H} {W : World} {base b0 : Nat} {sp : Nat → Bool} {hd : Bool} {v : Value} {d : DataW H} {p : List MemPlace}
theorem decOp (fuel : Nat) (cs : List Value) (x : DataW H × List MemPlace) (h : DataW.trod enc Try.prog W base sp hd fuel 33 cs = some x) : ∃ q : OpV, cs = cellsO q ∧ q.Good :=
  dec_op (ts := 9) Try.underlying33 (by kernel_rfl) rfl rfl rfl rfl rfl rfl rfl (by kernel_rfl) (by kernel_rfl) (by kernel_rfl) (by kernel_rfl) (by kernel_rfl) (by kernel_rfl) (by kernel_rfl)
    Try.underlying3 Try.underlying9 Try.underlying3 Try.underlying3 Try.underlying3 Try.underlying29 Try.underlying31 h
theorem decAct (fuel : Nat) (cs : List Value) (x : DataW H × List MemPlace) (h : DataW.trod enc Try.prog W base sp hd fuel 35 cs = some x) : ∃ q : ActV, cs = cellsA q ∧ q.Good :=
  dec_act Try.underlying35 (by kernel_rfl) rfl rfl rfl (by kernel_rfl) (by kernel_rfl) (by kernel_rfl) Try.underlying4 Try.underlying29 decOp h
theorem cellsAct : Try.prog.cellsOf 35 = 9 := by kernel_rfl
set_option maxRecDepth 100000 in
theorem open_acts (hv : Value.okWide Try.prog W .any b0 22 v) (h : DataW.Trod enc Try.prog W base sp hd 22 v d p) :
    ∃ (A : Option Addr) (c : Nat) (l : List ActV), v = .slice A l.length c ∧ Seq W 0 W.heap.size A (flatA l) ∧ l.length ≤ maxLen ∧ ∀ q ∈ l, q.Good :=
  open_rows (sz := 9) cellsA (fun _ => rfl) Try.underlying22 cellsAct (by decide) decAct hv h
set_option maxRecDepth 100000 in
theorem open_op (hv : Value.okWide Try.prog W .any b0 33 v) (h : DataW.Trod enc Try.prog W base sp hd 33 v d p) : ∃ q : OpV, v = q.val ∧ q.Good := by
  obtain ⟨q, e, hg⟩ := open_struct cellsO Try.underlying33 decOp hv h
  exact ⟨q, e, hg⟩
end
theorem long_le {l : List ActV} (h : longB l = false) : l.length ≤ 120 := by
  unfold longB at h
  rw [Bool.or_eq_false_iff] at h
  have := h.1
  simp at this
  omega
theorem set_ses {u : ByteArray} {id st pr ttl most now : Int} {us : Value} {b : List (ByteArray × En)} (h : wrE ⟨1, u, id, st, pr, ttl, us⟩ now most b = 0) : sesK u (wrB ⟨1, u, id, st, pr, ttl, us⟩ now most b) = put (id, st, pr, sat now ttl) (live now (sesK u b)) := by
  unfold wrB
  rw [ses_become_same]
  unfold wrE wrote at h
  unfold wrS wrote
  simp only [if_true] at h ⊢
  split at h
  · rename_i hc; rw [if_pos hc]
  · cases h
theorem set_err {u : ByteArray} {id st pr ttl most now : Int} {us : Value} {b : List (ByteArray × En)} (h : ¬ wrE ⟨1, u, id, st, pr, ttl, us⟩ now most b = 0) : wrE ⟨1, u, id, st, pr, ttl, us⟩ now most b = 2 := by
  unfold wrE wrote at h ⊢
  simp only [if_true] at h ⊢
  split at h
  · exact absurd rfl h
  · rename_i hc; rw [if_neg hc]
theorem clear_ses (u : ByteArray) (id st pr ttl most now : Int) (us : Value) (b : List (ByteArray × En)) : hasS id (sesK u (wrB ⟨3, u, id, st, pr, ttl, us⟩ now most b)) = false := by
  unfold wrB
  rw [ses_become_same]
  unfold wrS
  simp only
  rw [wrote_clear]
  exact out_has id _
theorem clear_err (u : ByteArray) (id st pr ttl most now : Int) (us : Value) (b : List (ByteArray × En)) : wrE ⟨3, u, id, st, pr, ttl, us⟩ now most b = if hasS id (live now (sesK u b)) then 0 else 3 := by
  unfold wrE
  simp only
  rw [wrote_clear]
theorem no_sat {a b : Int} (ha : U a) (hb : U b) (h : ¬ a < sat a b) : b = 0 ∨ a = 18446744073709551615 := by
  unfold U Door.top at *
  unfold sat Door.top at h
  split at h <;> omega
theorem made_room (n : Nat) (l : List ActV) (hq : ∀ q ∈ l, q.Good) : Room n (madeB (n : Int) l).1 := by
  induction l using snocInd with
  | nil => exact Room.nil n
  | snoc l q ih =>
    have hq' : ∀ p ∈ l, p.Good := fun p hp => hq p (by simp [hp])
    have ih := ih hq'
    have hf := (made_fit n l hq').1
    rw [madeB_snoc]
    unfold actB
    split
    · exact ih.sweep
    · refine Room.become lt ih ?_
      exact wrote_room (live_up _ (hf.book.ses lt _)) (Nat.le_trans (live_length _ _) (ih.ses _))
end Bk
end Go.Proofs.Ytjjemdmbhgmiiaa

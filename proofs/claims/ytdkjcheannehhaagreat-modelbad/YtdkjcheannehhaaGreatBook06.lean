/-
  What layer 8's statements' helpers come to: later, long, made; the document's example.
-/
import Derived.Test.YtdkjcheannehhaaGreatBook04
import Derived.Test.YtdkjcheannehhaaGreatOpenOps
import Derived.StillTailTactics
namespace Go.Proofs.YtdkjcheannehhaaGreat
open Go.RowKit
namespace Bk
open Go.Law Go.Proofs.YtdkjcheannehhaaGreat.OmapB Door
/-- a book behind so many acts: as it may be, and small -/
structure Fit (n : Nat) (b : List (ByteArray × En)) : Prop where
  book : Book lt b
  len : b.length ≤ n
  ses : ∀ q ∈ b, q.2.1.length ≤ n
theorem Fit.nil (n : Nat) : Fit n [] := ⟨Book.nil lt, Nat.zero_le _, fun _ h => by cases h⟩
theorem Fit.more {n m : Nat} {b : List (ByteArray × En)} (h : Fit n b) (hm : n ≤ m) : Fit m b := ⟨h.book, Nat.le_trans h.len hm, fun q hq => Nat.le_trans (h.ses q hq) hm⟩
theorem Fit.of {n : Nat} {b : List (ByteArray × En)} (h : Fit n b) (u : ByteArray) : (sesK u b).length ≤ n := Room.ses (n := n) (fun q hq => h.ses q hq) u
theorem wrS_up {q : OpV} {now most : Int} {b : List (ByteArray × En)} (h : Book lt b) : Up (wrS q now most b) := wrote_up (live_up now (h.ses lt q.user))
theorem wrS_le {n : Nat} {q : OpV} {now most : Int} {b : List (ByteArray × En)} (h : Fit n b) : (wrS q now most b).length ≤ n + 1 := by
  have h1 := wrote_le q.kind q.id q.st q.pr (sat now q.ttl) most (live now (sesK q.user b))
  have h2 := live_length now (sesK q.user b)
  have h3 := h.of q.user
  unfold wrS
  omega
theorem Fit.write {n : Nat} {q : OpV} {now most : Int} {b : List (ByteArray × En)} (h : Fit n b) : Fit (n + 1) (wrB q now most b) :=
  ⟨h.book.become lt tri (wrS_up h.book), Nat.le_trans (become_len lt _ _ _ _) (by have := h.len; omega), Room.become lt (n := n + 1) (fun p hp => Nat.le_succ_of_le (h.ses p hp)) (wrS_le h)⟩
theorem Fit.sweep {n : Nat} {now : Int} {b : List (ByteArray × En)} (h : Fit n b) : Fit n (sweepB now b) :=
  ⟨h.book.sweep lt, Nat.le_trans (List.length_filterMap_le _ _) h.len, Room.sweep (n := n) (fun p hp => h.ses p hp)⟩
/-- a book and the time behind an act -/
def actB (most : Int) (st : List (ByteArray × En) × Int) (q : ActV) : List (ByteArray × En) × Int :=
  if q.sweep then (sweepB (sat st.2 q.by_) st.1, sat st.2 q.by_) else (wrB q.op (sat st.2 q.by_) most st.1, sat st.2 q.by_)
def madeB (most : Int) (l : List ActV) : List (ByteArray × En) × Int := l.foldl (actB most) ([], 0)
theorem madeB_snoc (most : Int) (l : List ActV) (q : ActV) : madeB most (l ++ [q]) = actB most (madeB most l) q := by simp [madeB]
theorem act_fit {n : Nat} {most : Int} {st : List (ByteArray × En) × Int} {q : ActV} (h : Fit n st.1) : Fit (n + 1) (actB most st q).1 := by
  unfold actB
  split
  · exact h.sweep.more (by omega)
  · exact h.write
theorem act_U {most : Int} {st : List (ByteArray × En) × Int} {q : ActV} (h : U st.2) (hq : q.Good) : U (actB most st q).2 := by
  unfold actB
  have := sat_U h (ofwf hq.by_)
  split <;> exact this
theorem made_fit (most : Int) (l : List ActV) (hq : ∀ q ∈ l, q.Good) : Fit l.length (madeB most l).1 ∧ U (madeB most l).2 := by
  induction l using snocInd with
  | nil => exact ⟨Fit.nil _, U0⟩
  | snoc l q ih =>
    have ih := ih fun p hp => hq p (by simp [hp])
    rw [madeB_snoc]
    exact ⟨(act_fit ih.1).more (by simp), act_U ih.2 (hq q (by simp))⟩
abbrev flatA (l : List ActV) : List Value := l.flatMap cellsA
theorem _root_.Go.Law.Seq.act {w : World} {lo B : Nat} {A : Option Addr} {l : List ActV} {i : Nat} (h : Seq w lo B A (flatA l)) (hi : i < l.length) : ∃ b off, A = some ⟨b, off, none⟩ ∧ b < B ∧ ∀ j u, (cellsA l[i])[j]? = some u → w.cell? ⟨b, off + i * 9 + j, none⟩ = some u := by
  obtain ⟨b, off, hA, _, h2, hc⟩ := Seq.row (cells := cellsA) (fun _ => rfl) (by decide : 0 < 9) h hi
  exact ⟨b, off, hA, h2, hc⟩

/-- is there more than is looked at? -/
def longB (l : List ActV) : Bool := decide (120 < l.length) || l.any fun q => decide (100 < q.op.user.size)

end Bk
end Go.Proofs.YtdkjcheannehhaaGreat

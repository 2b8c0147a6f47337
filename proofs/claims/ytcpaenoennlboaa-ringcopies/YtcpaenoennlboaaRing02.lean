/-
  Two queues of numbers that share no memory: what Put, Len, Lost and Drain of the one come to, and what stays of the other.
-/
import Derived.Test.YtcpaenoennlboaaRing01
namespace Go.Proofs.Ytcpaenoennlboaa
open Go.RowKit
namespace Ring
/-- the queues a and b, made since w0, of which nothing has turned -/
def Two (w0 w : World) (a b ra rb : Nat) (xs ys : List Int) (la lb : Bool) : Prop :=
  Below w0.heap.size w0 w ∧ ∃ Sa Sb, RingI.At w w0.heap.size Sa a ra xs la ∧ RingI.At w w0.heap.size Sb b rb ys lb ∧ ∀ k, Sa k → ¬ Sb k
section
variable {w0 w w' : World} {a b ra rb : Nat} {xs ys : List Int} {la lb : Bool}
theorem Two.swap (h : Two w0 w a b ra rb xs ys la lb) : Two w0 w b a rb ra ys xs lb la := by
  obtain ⟨hb, Sa, Sb, h1, h2, hd⟩ := h
  exact ⟨hb, Sb, Sa, h2, h1, fun k h h' => hd k h' h⟩
theorem Two.below (h : Two w0 w a b ra rb xs ys la lb) (hb : Below w.heap.size w w') : Two w0 w' a b ra rb xs ys la lb := by
  obtain ⟨h0, Sa, Sb, h1, h2, hd⟩ := h
  exact ⟨h0.trans (hb.mono h0.size), Sa, Sb, h1.below hb, h2.below hb, hd⟩
theorem Two.drewN (h : Two w0 w a b ra rb xs ys la lb) (n : Nat) : Two w0 (w.drewN n) a b ra rb xs ys la lb := h.below (Law.below_drewN (Below.refl _ _) n)
theorem Two.ltA (h : Two w0 w a b ra rb xs ys la lb) : a < w.heap.size := by obtain ⟨_, _, _, h1, _⟩ := h; exact h1.lt
theorem Two.ltB (h : Two w0 w a b ra rb xs ys la lb) : b < w.heap.size := h.swap.ltA
/-- two new ones -/
theorem Two.new {w0 w : World} (hb : Below w0.heap.size w0 w) (ra rb : Nat) :
    Two w0 ((w.alloc (.cells #[.int .i64 (ra : Int), .slice none 0 0, .bool false] 51)).alloc (.cells #[.int .i64 (rb : Int), .slice none 0 0, .bool false] 51)) w.heap.size (w.heap.size + 1) ra rb [] [] false false := by
  have hs := hb.size
  refine ⟨(hb.alloc hs _).alloc (by simp; omega) _, _, _, (Law.Ring.new 51 3 w w0.heap.size ra hs rfl).below ((Below.refl _ _).alloc (Nat.le_refl _) _), Law.Ring.new 51 3 _ w0.heap.size rb (by simp; omega) (by simp), ?_⟩
  intro k h1 h2
  omega
theorem Two.put (h : Two w0 w a b ra rb xs ys la lb) (x : Int) (hl : xs.length ≤ 1000) :
    Calls Try.prog 13 #[.pointer (some ⟨a, 0, none⟩), .int .i64 x] w fun e w' => e = .returned (.bool (decide (xs.length < ra))) ∧ Two w0 w' a b ra rb (Law.putL ra xs x) ys (la || decide (ra ≤ xs.length)) lb := by
  obtain ⟨h0, Sa, Sb, h1, h2, hd⟩ := h
  refine (RingI.put x xs la w _ Sa a ra h1 h0.size hl).mono ?_
  rintro e w1 ⟨rfl, S1, h3, t, hs⟩
  refine ⟨rfl, t.below h0 (fun k hk => (h1.ok k hk).1) h0.size, S1, Sb, h3, h2.touch t (fun k h h' => hd k h' h), fun k h h' => ?_⟩
  rcases hs k h with hk | hk
  · exact hd k hk h'
  · have := (h2.ok k h').2; omega
theorem Two.len (h : Two w0 w a b ra rb xs ys la lb) : Calls Try.prog 16 #[.pointer (some ⟨a, 0, none⟩)] w fun e w' => e = .returned (.int .i64 (xs.length : Int)) ∧ w = w' := by
  obtain ⟨_, _, _, h1, _⟩ := h
  exact RingI.len h1
theorem Two.lost (h : Two w0 w a b ra rb xs ys la lb) : Calls Try.prog 17 #[.pointer (some ⟨a, 0, none⟩)] w fun e w' => e = .returned (.bool la) ∧ w = w' := by
  obtain ⟨_, _, _, h1, _⟩ := h
  exact RingI.lost h1
theorem Two.drain (h : Two w0 w a b ra rb xs ys la lb) (hl : xs.length ≤ 1000) :
    Calls Try.prog 10 #[.pointer (some ⟨a, 0, none⟩)] w fun e w' => ∃ A c, e = .returned (.tuple #[.slice A xs.length c, .bool la]) ∧ xs.length ≤ c ∧ Law.Seq w' w.heap.size w'.heap.size A (xs.map (.int .i64)) ∧ Two w0 w' a b ra rb [] ys false lb ∧ Law.Touch w w' (fun k => k = a) := by
  obtain ⟨h0, Sa, Sb, h1, h2, hd⟩ := h
  refine (RingI.drain h1 hl).mono ?_
  rintro e w1 ⟨A, c, rfl, hc, hs, hr, t⟩
  exact ⟨A, c, rfl, hc, hs, ⟨t.below h0 (fun k hk => by subst hk; exact (h1.ok _ h1.inn).1) h0.size, Sa, Sb, hr, h2.touch t (fun k h h' => by subst h'; exact hd _ h1.inn h), hd⟩, t⟩
end
end Ring
end Go.Proofs.Ytcpaenoennlboaa

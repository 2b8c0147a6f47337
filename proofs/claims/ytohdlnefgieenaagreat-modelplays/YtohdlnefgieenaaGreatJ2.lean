/-
  Which session of a list counts most, and the least time of a list, as plain lists. General over programs.
-/
import Derived.Test.YtohdlnefgieenaaGreatJ1
namespace Go.Law
theorem snocInd {α : Type} {motive : List α → Prop} (nil : motive []) (snoc : ∀ l x, motive l → motive (l ++ [x])) (l : List α) : motive l := by
 rw [← List.reverse_reverse l]
 generalize l.reverse = r
 induction r with
 | nil => exact nil
 | cons x r ih => rw [List.reverse_cons]; exact snoc _ _ ih
def better (a b : Sn) : Bool := decide (b.2.2.1 < a.2.2.1) || (decide (a.2.2.1 = b.2.2.1) && decide (a.1 < b.1))
theorem better_iff (a b : Sn) : better a b = true ↔ (b.2.2.1 < a.2.2.1 ∨ (a.2.2.1 = b.2.2.1 ∧ a.1 < b.1)) := by simp [better]
theorem better_self (a : Sn) : better a a = false := by rw [Bool.eq_false_iff]; intro h; rw [better_iff] at h; omega
theorem better_trans {a b c : Sn} (h1 : better a b = true) (h2 : better b c = true) : better a c = true := by rw [better_iff] at *; omega
theorem better_over {a b c : Sn} (h1 : better a b = true) (h2 : better c b = false) : better a c = true := by
 rw [Bool.eq_false_iff, ne_eq, better_iff] at h2
 rw [better_iff] at *
 omega
theorem better_alike {a b : Sn} (h1 : better a b = false) (h2 : better b a = false) : a.2.2.1 = b.2.2.1 ∧ a.1 = b.1 := by
 rw [Bool.eq_false_iff, ne_eq, better_iff] at h1 h2
 omega
def stepB : Option Sn → Sn → Option Sn
 | none, x => some x
 | some b, x => some (if better x b then x else b)
def best (l : List Sn) : Option Sn := l.foldl stepB none
def top (l : List Sn) : Sn := (best l).getD (0, 0, 0, 0)
theorem best_snoc (l : List Sn) (x : Sn) : best (l ++ [x]) = stepB (best l) x := by simp [best, List.foldl_append]
def First (l : List Sn) (i : Nat) (q : Sn) : Prop := l[i]? = some q ∧ (∀ (k : Nat) p, l[k]? = some p → better p q = false) ∧ (∀ (k : Nat) p, l[k]? = some p → k < i → better q p = true)
theorem best_first (l : List Sn) : (l = [] ∧ best l = none) ∨ ∃ i q, First l i q ∧ best l = some q := by
 induction l using snocInd with
 | nil => exact .inl ⟨rfl, rfl⟩
 | snoc l x ih =>
   refine .inr ?_
   rcases ih with ⟨rfl, h⟩ | ⟨i, q, ⟨h1, h2, h3⟩, h⟩
   ·refine ⟨0, x, ⟨rfl, fun k p hp => ?_, fun k p hp hk => by omega⟩, rfl⟩
    cases k with
    | zero => simp at hp; subst hp; exact better_self _
    | succ k => simp at hp
   ·have hi : i < l.length := (List.getElem?_eq_some_iff.1 h1).1
    rw [best_snoc, h]
    by_cases hb : better x q = true
    ·refine ⟨l.length, x, ⟨by simp, fun k p hp => ?_, fun k p hp hk => ?_⟩, by simp [stepB, hb]⟩
     ·by_cases hk : k < l.length
      ·rw [List.getElem?_append_left hk] at hp
       have := h2 k p hp
       rw [Bool.eq_false_iff]
       intro hpx
       rw [better_trans hpx hb] at this
       cases this
      ·rw [List.getElem?_append_right (by omega)] at hp
       have hk0 : k - l.length = 0 := by
        have := (List.getElem?_eq_some_iff.1 hp).1
        simp at this; omega
       rw [hk0] at hp; simp at hp; subst hp; exact better_self _
     ·rw [List.getElem?_append_left hk] at hp
      exact better_over hb (h2 k p hp)
    ·have hb' : better x q = false := by simpa using hb
     refine ⟨i, q, ⟨by rw [List.getElem?_append_left hi]; exact h1, fun k p hp => ?_, fun k p hp hk => ?_⟩, by simp [stepB, hb']⟩
     ·by_cases hk : k < l.length
      ·rw [List.getElem?_append_left hk] at hp
       exact h2 k p hp
      ·rw [List.getElem?_append_right (by omega)] at hp
       have hk0 : k - l.length = 0 := by
        have := (List.getElem?_eq_some_iff.1 hp).1
        simp at this; omega
       rw [hk0] at hp; simp at hp; subst hp; exact hb'
     ·rw [List.getElem?_append_left (by omega)] at hp
      exact h3 k p hp hk
theorem top_snoc (l : List Sn) (x : Sn) : top (l ++ [x]) = if l.length = 0 ∨ better x (top l) = true then x else top l := by
 unfold top
 rw [best_snoc]
 rcases best_first l with ⟨rfl, h⟩ | ⟨i, q, h1, h⟩
 ·rw [h]; simp [stepB]
 ·have : l.length ≠ 0 := by
   have := (List.getElem?_eq_some_iff.1 h1.1).1
   omega
  rw [h]
  by_cases hb : better x q = true
  ·simp [stepB, hb]
  ·simp [stepB, hb, this]
theorem top_first {l : List Sn} (h : l ≠ []) : ∃ i, First l i (top l) := by
 rcases best_first l with ⟨rfl, _⟩ | ⟨i, q, h1, h2⟩
 ·exact absurd rfl h
 ·exact ⟨i, by unfold top; rw [h2]; exact h1⟩
def beats (k i : Nat) (p q : Sn) : Bool := decide (q.2.2.1 < p.2.2.1) || (decide (p.2.2.1 = q.2.2.1) && (decide (p.1 < q.1) || (decide (p.1 = q.1) && decide (k < i))))
theorem beats_iff {k i : Nat} {p q : Sn} : beats k i p q = true ↔ (better p q = true ∨ (p.2.2.1 = q.2.2.1 ∧ p.1 = q.1 ∧ k < i)) := by
 simp only [beats, better, Bool.or_eq_true, Bool.and_eq_true, decide_eq_true_eq]
 constructor
 ·rintro (h | ⟨h1, h2 | ⟨h3, h4⟩⟩)
  ·exact .inl (.inl h)
  ·exact .inl (.inr ⟨h1, h2⟩)
  ·exact .inr ⟨h1, h3, h4⟩
 ·rintro ((h | ⟨h1, h2⟩) | ⟨h1, h3, h4⟩)
  ·exact .inl h
  ·exact .inr ⟨h1, .inl h2⟩
  ·exact .inr ⟨h1, .inr ⟨h3, h4⟩⟩
def Picks (l : List Sn) (i : Nat) : Prop := ∀ (k : Nat) p q, l[k]? = some p → l[i]? = some q → beats k i p q = false
theorem picks_top {l : List Sn} {i : Nat} {q : Sn} (hq : l[i]? = some q) (h : Picks l i) : q = top l := by
 obtain ⟨j, hj1, hj2, hj3⟩ := top_first (l := l) (by intro e; subst e; simp at hq)
 rcases Nat.lt_trichotomy i j with hij | rfl | hij
 ·have h1 := hj3 i q hq hij
  have h2 := h j _ q hj1 hq
  rw [Bool.eq_false_iff, ne_eq, beats_iff] at h2
  exact absurd (.inl h1) h2
 ·rw [hj1] at hq; exact (Option.some.inj hq).symm
 ·have h2 := h j _ q hj1 hq
  rw [Bool.eq_false_iff, ne_eq, beats_iff] at h2
  have h3 := hj2 i q hq
  have h4 : better (top l) q = false := by rw [Bool.eq_false_iff]; intro h; exact h2 (.inl h)
  obtain ⟨e1, e2⟩ := better_alike h4 h3
  exact absurd (.inr ⟨e1, e2, hij⟩) h2
theorem some_picks {l : List Sn} (h : l ≠ []) : ∃ i, i < l.length ∧ Picks l i := by
 obtain ⟨j, hj1, hj2, hj3⟩ := top_first h
 refine ⟨j, (List.getElem?_eq_some_iff.1 hj1).1, fun k p q hp hq => ?_⟩
 rw [hj1] at hq
 obtain rfl := Option.some.inj hq
 rw [Bool.eq_false_iff, ne_eq, beats_iff]
 rintro (h1 | ⟨h1, h2, h3⟩)
 ·rw [hj2 k p hp] at h1; cases h1
 ·have := hj3 k p hp h3
  rw [better_iff] at this
  omega
/-! ### The least time -/
end Go.Law
namespace Go.Law
abbrev Pr := Int × Int × Int
def presS (now : Int) (l : List Sn) : Pr := ((top (live now l)).2.1, (top (live now l)).2.2.1, ((live now l).length : Int))
abbrev En := List Sn × Pr
section
variable {κ ν : Type} (lt : κ → κ → Prop) [DecidableRel lt] [DecidableEq κ]
/-! ### A key's value behind a put and behind a take -/
omit [DecidableRel lt] lt in
theorem getK_mem {k : κ} {v : ν} : ∀ {xs : List (κ × ν)}, getK k xs = some v → (k, v) ∈ xs
 | [], h => by simp [getK] at h
 | p :: r, h => by
   rw [getK] at h
   split at h
   ·rename_i e; subst e; simp at h; subst h; simp
   ·exact List.mem_cons_of_mem _ (getK_mem h)
omit [DecidableRel lt] in
theorem getK_of (ht : Tri lt) {k : κ} {v : ν} : ∀ {xs : List (κ × ν)}, Rises lt xs → (k, v) ∈ xs → getK k xs = some v
 | [], _, h => by cases h
 | p :: r, hr, h => by
   rw [getK]
   rcases List.mem_cons.1 h with h | h
   ·subst h; simp
   ·rw [if_neg (ht.ne (hr.head _ h)), getK_of ht hr.tail h]

/-! ### A book -/
def sesK (u : κ) (b : List (κ × En)) : List Sn := ((getK u b).map (·.1)).getD []
def toldK (u : κ) (b : List (κ × En)) : Pr := ((getK u b).map (·.2)).getD (0, 0, 0)
def become (u : κ) (ss : List Sn) (now : Int) (b : List (κ × En)) : List (κ × En) := if ss = [] then outK u b else putK lt u (ss, presS now ss) b
def tells (u : κ) (ss : List Sn) (now : Int) (b : List (κ × En)) : List (κ × Pr × Pr) := if presS now ss = toldK u b then [] else [(u, toldK u b, presS now ss)]
def Book (b : List (κ × En)) : Prop := Rises lt b ∧ ∀ q ∈ b, q.2.1 ≠ [] ∧ Up q.2.1
omit [DecidableRel lt] [DecidableEq κ] in
theorem Book.nil : Book lt ([] : List (κ × En)) := ⟨Rises.nil, fun _ h => by cases h⟩
theorem Book.become {u : κ} {ss : List Sn} {now : Int} {b : List (κ × En)} (ht : Tri lt) (h : Book lt b) (hs : Up ss) : Book lt (become lt u ss now b) := by
 unfold Law.become
 split
 ·exact ⟨outK_rises lt h.1, fun q hq => h.2 q (List.mem_filter.1 hq).1⟩
 ·rename_i hne
  refine ⟨putK_rises lt ht h.1, fun q hq => ?_⟩
  rcases putK_mem lt hq with rfl | hq
  ·exact ⟨hne, hs⟩
  ·exact h.2 q hq
omit [DecidableRel lt] in
theorem Book.ses {b : List (κ × En)} (h : Book lt b) (u : κ) : Up (sesK u b) := by
 unfold sesK
 cases hg : getK u b with
 | none => exact Rises.nil
 | some e => exact (h.2 _ (getK_mem hg)).2
/-! ### A sweep -/
def swept (now : Int) (q : κ × En) : Option (κ × En) := if live now q.2.1 = [] then none else some (q.1, live now q.2.1, presS now (live now q.2.1))
def sweepB (now : Int) (b : List (κ × En)) : List (κ × En) := b.filterMap (swept now)
def sweepC (now : Int) (b : List (κ × En)) : List (κ × Pr × Pr) := b.filterMap fun q => if presS now (live now q.2.1) = q.2.2 then none else some (q.1, q.2.2, presS now (live now q.2.1))
omit [DecidableRel lt] [DecidableEq κ] lt in
theorem swept_some {now : Int} {q p : κ × En} (h : swept now q = some p) : p.1 = q.1 ∧ p.2.1 = live now q.2.1 ∧ p.2.2 = presS now (live now q.2.1) ∧ p.2.1 ≠ [] := by
 unfold swept at h
 split at h
 ·cases h
 ·rename_i hne; cases h; exact ⟨rfl, rfl, rfl, hne⟩
omit [DecidableRel lt] [DecidableEq κ] in
theorem sweep_rises {now : Int} {b : List (κ × En)} (h : Rises lt b) : Rises lt (sweepB now b) := by
 refine List.Pairwise.filterMap (swept now) ?_ h
 intro a a' hlt p hp p' hp'
 rw [(swept_some hp).1, (swept_some hp').1]
 exact hlt
omit [DecidableRel lt] [DecidableEq κ] in
theorem Book.sweep {now : Int} {b : List (κ × En)} (h : Book lt b) : Book lt (sweepB now b) := by
 refine ⟨sweep_rises lt h.1, fun p hp => ?_⟩
 obtain ⟨q, hq, e⟩ := List.mem_filterMap.1 hp
 have e' := swept_some e
 exact ⟨e'.2.2.2, by rw [e'.2.1]; exact live_up now (h.2 q hq).2⟩
/-! ### A sweep, user by user -/
theorem become_at (ht : Tri lt) {pre post : List (κ × En)} {u : κ} {e : En} {now : Int} (hr : Rises lt (pre ++ (u, e) :: post)) : become lt u (live now e.1) now (pre ++ (u, e) :: post) = pre ++ ((swept now (u, e)).toList ++ post) := by
 unfold become swept
 simp only
 split
 ·rw [outK_same lt ht hr]; rfl
 ·rw [putK_same lt ht pre hr]; rfl
omit [DecidableRel lt] in
theorem tells_at (ht : Tri lt) {pre post : List (κ × En)} {u : κ} {e : En} {now : Int} (hr : Rises lt (pre ++ (u, e) :: post)) : tells u (live now e.1) now (pre ++ (u, e) :: post) = if presS now (live now e.1) = e.2 then [] else [(u, e.2, presS now (live now e.1))] := by
 unfold tells toldK
 rw [getK_same lt ht hr]
 rfl
omit [DecidableRel lt] [DecidableEq κ] lt in
theorem sweep_names (now : Int) : ∀ l : List (κ × En), ((sweepB now l).map Prod.fst).Sublist (l.map Prod.fst)
 | [] => List.Sublist.slnil
 | q :: r => by
   unfold sweepB
   rw [List.filterMap_cons]
   cases h : swept now q with
   | none => exact (sweep_names now r).cons _
   | some p =>
     simp only [List.map_cons]
     rw [(swept_some h).1]
     exact (sweep_names now r).cons_cons _
omit [DecidableRel lt] [DecidableEq κ] in
theorem rises_names {b : List (κ × En)} : Rises lt b ↔ (b.map Prod.fst).Pairwise lt := by unfold Rises; rw [List.pairwise_map]
omit [DecidableRel lt] [DecidableEq κ] in
theorem rises_half {now : Int} {b : List (κ × En)} (h : Rises lt b) (i : Nat) : Rises lt (sweepB now (b.take i) ++ b.drop i) := by
 rw [rises_names] at h ⊢
 refine List.Pairwise.sublist ?_ h
 rw [List.map_append]
 conv => rhs; rw [← List.take_append_drop i b, List.map_append]
 exact (sweep_names now _).append (List.Sublist.refl _)
theorem sweep_step (ht : Tri lt) {now : Int} {b : List (κ × En)} (h : Rises lt b) {i : Nat} (hi : i < b.length) :
  become lt b[i].1 (live now b[i].2.1) now (sweepB now (b.take i) ++ b.drop i) = sweepB now (b.take (i + 1)) ++ b.drop (i + 1) ∧
  sweepC now (b.take i) ++ tells b[i].1 (live now b[i].2.1) now (sweepB now (b.take i) ++ b.drop i) = sweepC now (b.take (i + 1)) := by
 have hr := rises_half lt (now := now) h i
 have ht1 : b.take (i + 1) = b.take i ++ [b[i]] := List.take_succ_eq_append_getElem hi
 rw [List.drop_eq_getElem_cons hi] at hr ⊢
 generalize b[i] = q at *
 obtain ⟨u, e⟩ := q
 rw [become_at lt ht hr, tells_at lt ht hr, ht1]
 constructor
 ·unfold sweepB
  rw [List.filterMap_append, List.append_assoc]
  cases hs : swept now (u, e) <;> simp [hs]
 ·unfold sweepC
  rw [List.filterMap_append]
  congr 1
  simp only [List.filterMap_cons, List.filterMap_nil]
  split <;> simp_all
omit [DecidableRel lt] [DecidableEq κ] lt in
def storedB (b : List (κ × En)) : Nat := (b.map fun q => q.2.1.length).sum
/-! ### A writing's sessions -/
def wrote (kind id st pr un most : Int) (l : List Sn) : List Sn × Int :=
 if kind = 1 then (if hasS id l = true ∨ (l.length : Int) < most then (put (id, st, pr, un) l, 0) else (l, 2))
 else if kind = 2 then (if hasS id l = true then (beatS id un l, 0) else (l, 3))
 else if kind = 3 then (if hasS id l = true then (out id l, 0) else (l, 3))
 else (l, 0)
theorem wrote_up {kind id st pr un most : Int} {l : List Sn} (h : Up l) : Up (wrote kind id st pr un most l).1 := by
 unfold wrote
 split
 ·split
  ·exact put_up _ h
  ·exact h
 ·split
  ·split
   ·exact beat_up _ _ h
   ·exact h
  ·split
   ·split
    ·exact out_up _ h
    ·exact h
   ·exact h
end
end Go.Law
namespace Go.Law
section
variable {κ ν : Type} (lt : κ → κ → Prop) [DecidableRel lt] [DecidableEq κ]
/-! ### What a sweep tells -/
/-! ### How many there may be -/
def Room (n : Nat) (b : List (κ × En)) : Prop := ∀ q ∈ b, q.2.1.length ≤ n
theorem Room.become {n : Nat} {u : κ} {ss : List Sn} {now : Int} {b : List (κ × En)} (h : Room n b) (hs : ss.length ≤ n) : Room n (become lt u ss now b) := fun q hq => by
 unfold Law.become at hq
 split at hq
 ·exact h q (List.mem_filter.1 hq).1
 ·rcases putK_mem lt hq with rfl | hq
  ·exact hs
  ·exact h q hq
omit [DecidableRel lt] [DecidableEq κ] lt in
theorem Room.sweep {n : Nat} {now : Int} {b : List (κ × En)} (h : Room n b) : Room n (sweepB now b) := fun p hp => by
 obtain ⟨q, hq, e⟩ := List.mem_filterMap.1 hp
 rw [(swept_some e).2.1]
 exact Nat.le_trans (live_length now _) (h q hq)
omit [DecidableRel lt] lt in
theorem Room.ses {n : Nat} {b : List (κ × En)} (h : Room n b) (u : κ) : (sesK u b).length ≤ n := by
 unfold sesK
 cases hg : getK u b with
 | none => exact Nat.zero_le _
 | some e => exact h _ (getK_mem hg)
end
/-! ### A session that is set, and then looked for among who lives -/
end Go.Law

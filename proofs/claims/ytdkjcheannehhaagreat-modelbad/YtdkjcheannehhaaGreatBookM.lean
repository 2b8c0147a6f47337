/-
  Books as plain lists, more: two books are alike where each user's is; what a sweep tells; a session that is set and cleared; how many there may be. General over programs.
-/
import Derived.Test.YtdkjcheannehhaaGreatBookL
namespace Go.Law
section
variable {κ ν : Type} (lt : κ → κ → Prop) [DecidableRel lt] [DecidableEq κ]
omit [DecidableRel lt] in
/-- rising lists that answer alike are alike -/
theorem rises_ext (ht : Tri lt) : ∀ {b c : List (κ × ν)}, Rises lt b → Rises lt c → (∀ u, getK u b = getK u c) → b = c
  | [], [], _, _, _ => rfl
  | [], q :: r, _, _, h => by have := h q.1; simp [getK] at this
  | p :: r, [], _, _, h => by have := h p.1; simp [getK] at this
  | p :: r, q :: s, hb, hc, h => by
    have no : ∀ {x : κ} {l : List (κ × ν)}, (∀ y ∈ l, lt x y.1) → getK x l = none := fun hl => getK_none fun y hy => (ht.ne (hl y hy)).symm
    have e1 : p.1 = q.1 := by
      rcases ht.tri p.1 q.1 with h1 | h1 | h1
      · have := h p.1
        rw [getK, if_pos rfl, getK, if_neg (ht.ne h1).symm, no fun y hy => ht.tr h1 (hc.head y hy)] at this
        cases this
      · exact h1
      · have := h q.1
        rw [getK, if_neg (ht.ne h1).symm, no fun y hy => ht.tr h1 (hb.head y hy), getK, if_pos rfl] at this
        cases this
    have e2 : p.2 = q.2 := by
      have := h p.1
      rw [getK, if_pos rfl, getK, if_pos e1.symm] at this
      exact Option.some.inj this
    have e3 : r = s := rises_ext ht hb.tail hc.tail fun u => by
      by_cases hu : p.1 = u
      · subst hu
        rw [no fun y hy => hb.head y hy, no fun y hy => by rw [e1]; exact hc.head y hy]
      · have := h u
        rwa [getK, if_neg hu, getK, if_neg (by rw [← e1]; exact hu)] at this
    rw [show p = q from Prod.ext e1 e2, e3]
omit [DecidableRel lt] in
/-- sessions and what was told make an entry, as no entry is empty -/
theorem get_of {b c : List (κ × En)} {u : κ} (hb : ∀ q ∈ b, q.2.1 ≠ []) (hc : ∀ q ∈ c, q.2.1 ≠ []) (h1 : sesK u b = sesK u c) (h2 : toldK u b = toldK u c) : getK u b = getK u c := by
  unfold sesK toldK at *
  cases e1 : getK u b with
  | none =>
    cases e2 : getK u c with
    | none => rfl
    | some y =>
      rw [e1, e2] at h1
      exact absurd h1.symm (hc _ (getK_mem e2))
  | some x =>
    cases e2 : getK u c with
    | none =>
      rw [e1, e2] at h1
      exact absurd h1 (hb _ (getK_mem e1))
    | some y =>
      rw [e1, e2] at h1 h2
      exact congrArg some (Prod.ext h1 h2)
theorem become_same (ht : Tri lt) {u : κ} {ss : List Sn} {now : Int} {b : List (κ × En)} (h : Book lt b) (hs : Up ss) : become lt u ss now b = b ↔ (sesK u b = ss ∧ toldK u b = presS now ss) := by
  constructor
  · intro e
    have h1 := ses_become_same lt u ss now b
    have h2 := told_become_same lt u ss now b
    rw [e] at h1 h2
    exact ⟨h1, h2⟩
  · rintro ⟨h1, h2⟩
    have hB := Book.become lt (u := u) (now := now) ht h hs
    refine rises_ext lt ht hB.1 h.1 fun v => ?_
    by_cases hv : v = u
    · subst hv
      exact get_of (fun q hq => (hB.2 q hq).1) (fun q hq => (h.2 q hq).1) (by rw [ses_become_same, h1]) (by rw [told_become_same, h2])
    · exact get_become_other lt ht hv ss now b

/-! ### What a sweep tells -/
omit [DecidableRel lt] in
theorem mem_sweepC (ht : Tri lt) {now : Int} {b : List (κ × En)} (h : Rises lt b) {q : κ × Pr × Pr} (hq : q ∈ sweepC now b) : q.2.1 = toldK q.1 b ∧ q.2.2 = presS now (live now (sesK q.1 b)) ∧ q.2.1 ≠ q.2.2 := by
  obtain ⟨p, hp, e⟩ := List.mem_filterMap.1 hq
  have hg := getK_of lt ht h (k := p.1) (v := p.2) hp
  split at e
  · cases e
  · rename_i hne
    cases e
    simp only
    unfold toldK sesK
    rw [hg]
    exact ⟨rfl, rfl, fun e => hne e.symm⟩
omit [DecidableRel lt] in
theorem not_sweepC (ht : Tri lt) {now : Int} {b : List (κ × En)} (h : Rises lt b) {u : κ} (hq : ∀ q ∈ sweepC now b, q.1 ≠ u) : toldK u (sweepB now b) = toldK u b := by
  rw [told_sweep lt ht h]
  unfold toldK sesK
  cases hg : getK u b with
  | none => rfl
  | some e =>
    by_cases hc : presS now (live now e.1) = e.2
    · exact hc
    · exact absurd rfl (hq (u, e.2, presS now (live now e.1)) (List.mem_filterMap.2 ⟨(u, e), getK_mem hg, by rw [if_neg hc]⟩))
omit [DecidableRel lt] [DecidableEq κ] in
theorem sweepC_rises {now : Int} {b : List (κ × En)} (h : Rises lt b) : (sweepC now b).Pairwise fun p q => lt p.1 q.1 := by
  refine List.Pairwise.filterMap _ ?_ h
  intro a a' hlt p hp p' hp'
  split at hp
  · cases hp
  · split at hp'
    · cases hp'
    · cases hp; cases hp'; exact hlt

/-! ### How many there may be -/
def Room (n : Nat) (b : List (κ × En)) : Prop := ∀ q ∈ b, q.2.1.length ≤ n
omit [DecidableRel lt] [DecidableEq κ] lt in
theorem Room.nil (n : Nat) : Room n ([] : List (κ × En)) := fun _ h => by cases h
theorem Room.become {n : Nat} {u : κ} {ss : List Sn} {now : Int} {b : List (κ × En)} (h : Room n b) (hs : ss.length ≤ n) : Room n (become lt u ss now b) := fun q hq => by
  unfold Law.become at hq
  split at hq
  · exact h q (List.mem_filter.1 hq).1
  · rcases putK_mem lt hq with rfl | hq
    · exact hs
    · exact h q hq
omit [DecidableRel lt] [DecidableEq κ] lt in
theorem Room.sweep {n : Nat} {now : Int} {b : List (κ × En)} (h : Room n b) : Room n (sweepB now b) := fun p hp => by
  obtain ⟨q, hq, e⟩ := List.mem_filterMap.1 hp
  rw [(swept_some e).2.1]
  exact Nat.le_trans (live_length now _) (h q hq)
omit [DecidableRel lt] lt in
theorem Room.ses {n : Nat} {b : List (κ × En)} (h : Room n b) (u : κ) : (sesK u b).length ≤ n := by
  unfold sesK
  cases hg : getK u b with
  | none => exact Nat.zero_le _
  | some e => exact h _ (getK_mem hg)
end
/-! ### A session that is set, and then looked for among who lives -/
theorem live_put_has (s : Sn) {l : List Sn} {now : Int} (hu : Up l) : hasS s.1 (live now (put s l)) = decide (now < s.2.2.2) := by
  have hu' := put_up s hu
  by_cases h : now < s.2.2.2
  · have hm : s ∈ live now (put s l) := List.mem_filter.2 ⟨put_mem s l, by simpa using h⟩
    rw [has_of hm rfl]; simp [h]
  · rw [show decide (now < s.2.2.2) = false by simpa using h, Bool.eq_false_iff]
    intro hh
    obtain ⟨q, hq, e⟩ := has_mem hh
    obtain ⟨hq1, hq2⟩ := List.mem_filter.1 hq
    obtain rfl := Up.one hu' hq1 (put_mem s l) e
    exact h (by simpa using hq2)
end Go.Law

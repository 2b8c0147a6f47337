/-
  Books as plain lists: users by rising names, their sessions, what was told last; a writing, a sweep, what has to be told. General over programs.
-/
import Derived.Test.YtohdlnefgieenaaGreatJ1
import Derived.Test.YtohdlnefgieenaaGreatJ0
namespace Go.Law
/-- status, prio, how many live -/
abbrev Pr := Int × Int × Int
def presS (now : Int) (l : List Sn) : Pr := ((top (live now l)).2.1, (top (live now l)).2.2.1, ((live now l).length : Int))
abbrev En := List Sn × Pr
theorem fm_congr {α β : Type} {f g : α → Option β} : ∀ {l : List α}, (∀ a ∈ l, f a = g a) → l.filterMap f = l.filterMap g
  | [], _ => rfl
  | a :: r, h => by rw [List.filterMap_cons, List.filterMap_cons, h a (by simp), fm_congr fun b hb => h b (by simp [hb])]
theorem presS_nil (now : Int) : presS now [] = (0, 0, 0) := rfl
theorem presS_live {a b : Int} (h : a ≤ b) (l : List Sn) : presS b (live a l) = presS b l := by unfold presS; rw [live_live h]
theorem presS_all (now : Int) (l : List Sn) : (presS now (live now l)).2.2 = ((live now l).length : Int) := by unfold presS; rw [live_live (Int.le_refl _)]
section
variable {κ ν : Type} (lt : κ → κ → Prop) [DecidableRel lt] [DecidableEq κ]
/-! ### A key's value behind a put and behind a take -/
theorem getK_put_same {k : κ} {v : ν} : ∀ {xs : List (κ × ν)}, getK k (putK lt k v xs) = some v
  | [] => by simp [putK, getK]
  | p :: r => by
    rw [putK]
    split
    · simp [getK]
    · split
      · rename_i h1 h2
        rw [getK]
        split
        · rename_i e; subst e; exact absurd h2 h1
        · exact getK_put_same
      · simp [getK]
theorem getK_put_other (ht : Tri lt) {k a : κ} {v : ν} (hne : a ≠ k) : ∀ {xs : List (κ × ν)}, getK a (putK lt k v xs) = getK a xs
  | [] => by simp [putK, getK, hne.symm]
  | p :: r => by
    rw [putK]
    split
    · rw [getK, if_neg hne.symm]
    · split
      · rw [getK, getK, getK_put_other ht hne]
      · rename_i h1 h2
        have e : p.1 = k := by
          rcases ht.tri k p.1 with h | h | h
          · exact absurd h h1
          · exact h.symm
          · exact absurd h h2
        rw [getK, getK, if_neg hne.symm, if_neg (by rw [e]; exact hne.symm)]
omit [DecidableRel lt] lt in
theorem getK_out_same {k : κ} {xs : List (κ × ν)} : getK k (outK k xs) = none := getK_none fun p hp => by simpa using (List.mem_filter.1 hp).2
omit [DecidableRel lt] lt in
theorem getK_out_other {k a : κ} (hne : a ≠ k) : ∀ {xs : List (κ × ν)}, getK a (outK k xs) = getK a xs
  | [] => rfl
  | p :: r => by
    unfold outK
    by_cases h : p.1 = k
    · rw [List.filter_cons_of_neg (by simp [h]), getK, if_neg (by rw [h]; exact hne.symm)]
      exact getK_out_other hne
    · rw [List.filter_cons_of_pos (by simpa using h), getK, getK]
      split
      · rfl
      · exact getK_out_other hne
omit [DecidableRel lt] lt in
theorem getK_mem {k : κ} {v : ν} : ∀ {xs : List (κ × ν)}, getK k xs = some v → (k, v) ∈ xs
  | [], h => by simp [getK] at h
  | p :: r, h => by
    rw [getK] at h
    split at h
    · rename_i e; subst e; simp at h; subst h; simp
    · exact List.mem_cons_of_mem _ (getK_mem h)
omit [DecidableRel lt] in
theorem getK_of (ht : Tri lt) {k : κ} {v : ν} : ∀ {xs : List (κ × ν)}, Rises lt xs → (k, v) ∈ xs → getK k xs = some v
  | [], _, h => by cases h
  | p :: r, hr, h => by
    rw [getK]
    rcases List.mem_cons.1 h with h | h
    · subst h; simp
    · rw [if_neg (ht.ne (hr.head _ h)), getK_of ht hr.tail h]

/-! ### A book -/
/-- a user's sessions, and what was told last -/
def sesK (u : κ) (b : List (κ × En)) : List Sn := ((getK u b).map (·.1)).getD []
def toldK (u : κ) (b : List (κ × En)) : Pr := ((getK u b).map (·.2)).getD (0, 0, 0)
/-- a user's sessions become others -/
def become (u : κ) (ss : List Sn) (now : Int) (b : List (κ × En)) : List (κ × En) := if ss = [] then outK u b else putK lt u (ss, presS now ss) b
def tells (u : κ) (ss : List Sn) (now : Int) (b : List (κ × En)) : List (κ × Pr × Pr) := if presS now ss = toldK u b then [] else [(u, toldK u b, presS now ss)]
/-- a book as it may be: rising names, each with rising sessions, at least one -/
def Book (b : List (κ × En)) : Prop := Rises lt b ∧ ∀ q ∈ b, q.2.1 ≠ [] ∧ Up q.2.1
omit [DecidableRel lt] [DecidableEq κ] in
theorem Book.nil : Book lt ([] : List (κ × En)) := ⟨Rises.nil, fun _ h => by cases h⟩
theorem Book.become {u : κ} {ss : List Sn} {now : Int} {b : List (κ × En)} (ht : Tri lt) (h : Book lt b) (hs : Up ss) : Book lt (become lt u ss now b) := by
  unfold Law.become
  split
  · exact ⟨outK_rises lt h.1, fun q hq => h.2 q (List.mem_filter.1 hq).1⟩
  · rename_i hne
    refine ⟨putK_rises lt ht h.1, fun q hq => ?_⟩
    rcases putK_mem lt hq with rfl | hq
    · exact ⟨hne, hs⟩
    · exact h.2 q hq
theorem ses_become_same (u : κ) (ss : List Sn) (now : Int) (b : List (κ × En)) : sesK u (become lt u ss now b) = ss := by
  unfold sesK become
  split
  · rename_i e; rw [getK_out_same, e]; rfl
  · rw [getK_put_same]; rfl
theorem told_become_same (u : κ) (ss : List Sn) (now : Int) (b : List (κ × En)) : toldK u (become lt u ss now b) = presS now ss := by
  unfold toldK become
  split
  · rename_i e; rw [getK_out_same, e]; rfl
  · rw [getK_put_same]; rfl
theorem get_become_other (ht : Tri lt) {u v : κ} (hne : v ≠ u) (ss : List Sn) (now : Int) (b : List (κ × En)) : getK v (become lt u ss now b) = getK v b := by
  unfold become
  split
  · exact getK_out_other hne
  · exact getK_put_other lt ht hne
theorem ses_become_other (ht : Tri lt) {u v : κ} (hne : v ≠ u) (ss : List Sn) (now : Int) (b : List (κ × En)) : sesK v (become lt u ss now b) = sesK v b := by unfold sesK; rw [get_become_other lt ht hne]
theorem told_become_other (ht : Tri lt) {u v : κ} (hne : v ≠ u) (ss : List Sn) (now : Int) (b : List (κ × En)) : toldK v (become lt u ss now b) = toldK v b := by unfold toldK; rw [get_become_other lt ht hne]
omit [DecidableRel lt] in
theorem Book.ses {b : List (κ × En)} (h : Book lt b) (u : κ) : Up (sesK u b) := by
  unfold sesK
  cases hg : getK u b with
  | none => exact Rises.nil
  | some e => exact (h.2 _ (getK_mem hg)).2
/-- what is told is told of a presence that is another one -/
theorem tells_ne {u : κ} {ss : List Sn} {now : Int} {b : List (κ × En)} {q : κ × Pr × Pr} (h : q ∈ tells u ss now b) : q = (u, toldK u b, presS now ss) ∧ q.2.1 ≠ q.2.2 := by
  unfold tells at h
  split at h
  · cases h
  · rename_i hne
    simp at h
    subst h
    exact ⟨rfl, fun e => hne e.symm⟩

/-! ### A sweep -/
def swept (now : Int) (q : κ × En) : Option (κ × En) := if live now q.2.1 = [] then none else some (q.1, live now q.2.1, presS now (live now q.2.1))
def sweepB (now : Int) (b : List (κ × En)) : List (κ × En) := b.filterMap (swept now)
def sweepC (now : Int) (b : List (κ × En)) : List (κ × Pr × Pr) := b.filterMap fun q => if presS now (live now q.2.1) = q.2.2 then none else some (q.1, q.2.2, presS now (live now q.2.1))
omit [DecidableRel lt] [DecidableEq κ] lt in
theorem swept_some {now : Int} {q p : κ × En} (h : swept now q = some p) : p.1 = q.1 ∧ p.2.1 = live now q.2.1 ∧ p.2.2 = presS now (live now q.2.1) ∧ p.2.1 ≠ [] := by
  unfold swept at h
  split at h
  · cases h
  · rename_i hne; cases h; exact ⟨rfl, rfl, rfl, hne⟩
omit [DecidableRel lt] [DecidableEq κ] in
theorem sweep_rises {now : Int} {b : List (κ × En)} (h : Rises lt b) : Rises lt (sweepB now b) := by
  refine List.Pairwise.filterMap (swept now) ?_ h
  intro a a' hlt p hp p' hp'
  rw [(swept_some hp).1, (swept_some hp').1]
  exact hlt
omit [DecidableRel lt] [DecidableEq κ] in
theorem Book.sweep {now : Int} {b : List (κ × En)} (h : Book lt b) : Book lt (sweepB now b) := by
  refine ⟨sweep_rises lt h.1, fun p hp => ?_⟩
  obtain ⟨q, hq, e⟩ := List.mem_filterMap.1 hp
  have e' := swept_some e
  exact ⟨e'.2.2.2, by rw [e'.2.1]; exact live_up now (h.2 q hq).2⟩
omit [DecidableRel lt] in
theorem get_sweep (ht : Tri lt) {now : Int} {u : κ} {b : List (κ × En)} (h : Rises lt b) : getK u (sweepB now b) = (getK u b).bind fun e => (swept now (u, e)).map (·.2) := by
  cases hg : getK u b with
  | none =>
    refine getK_none fun p hp e => ?_
    obtain ⟨q, hq, hqp⟩ := List.mem_filterMap.1 hp
    have h1 := getK_of lt ht h (k := q.1) (v := q.2) hq
    rw [← (swept_some hqp).1, e, hg] at h1
    cases h1
  | some e =>
    have hm := getK_mem hg
    cases hs : swept now (u, e) with
    | none =>
      simp [hs]
      refine getK_none fun p hp e' => ?_
      obtain ⟨q, hq, hqp⟩ := List.mem_filterMap.1 hp
      have h1 := getK_of lt ht h (k := q.1) (v := q.2) hq
      rw [← (swept_some hqp).1, e', hg] at h1
      obtain rfl := Option.some.inj h1
      have h2 : (q.1, q.2) = (u, q.2) := by rw [← (swept_some hqp).1, e']
      rw [← h2] at hs
      rw [hs] at hqp
      cases hqp
    | some p =>
      simp [hs]
      refine getK_of lt ht (sweep_rises lt h) ?_
      have hp := swept_some hs
      have : (u, p.2) = p := by have h1 : p.1 = u := hp.1; rw [← h1]
      rw [this]
      exact List.mem_filterMap.2 ⟨(u, e), hm, hs⟩
omit [DecidableRel lt] in
theorem ses_sweep (ht : Tri lt) {now : Int} {u : κ} {b : List (κ × En)} (h : Rises lt b) : sesK u (sweepB now b) = live now (sesK u b) := by
  unfold sesK
  rw [get_sweep lt ht h]
  cases getK u b with
  | none => rfl
  | some e =>
    simp only [Option.bind_some, Option.map_some, Option.getD_some, swept]
    split
    · rename_i e0; rw [e0]; rfl
    · rfl
omit [DecidableRel lt] in
theorem told_sweep (ht : Tri lt) {now : Int} {u : κ} {b : List (κ × En)} (h : Rises lt b) : toldK u (sweepB now b) = presS now (live now (sesK u b)) := by
  unfold toldK sesK
  rw [get_sweep lt ht h]
  cases getK u b with
  | none => rfl
  | some e =>
    simp only [Option.bind_some, Option.map_some, Option.getD_some, swept]
    split
    · rename_i e0; rw [e0]; rfl
    · rfl
omit [DecidableRel lt] in
/-- sweeping changes no presence, then or later -/
theorem pres_sweep (ht : Tri lt) {now then_ : Int} {u : κ} {b : List (κ × En)} (h : Rises lt b) (hn : now ≤ then_) : presS then_ (sesK u (sweepB now b)) = presS then_ (sesK u b) := by
  rw [ses_sweep lt ht h, presS_live hn]
omit [DecidableRel lt] [DecidableEq κ] lt in
/-- swept twice is swept -/
theorem sweep_twice (now : Int) (b : List (κ × En)) : sweepB now (sweepB now b) = sweepB now b ∧ sweepC now (sweepB now b) = [] := by
  constructor
  · unfold sweepB
    rw [List.filterMap_filterMap]
    refine fm_congr fun q _ => ?_
    cases hs : swept now q with
    | none => rfl
    | some p =>
      have hp := swept_some hs
      simp only [Option.bind_some]
      unfold swept
      rw [hp.2.1, live_live (Int.le_refl _), if_neg (by rw [← hp.2.1]; exact hp.2.2.2)]
      obtain ⟨p1, p2, p3⟩ := p
      simp only at hp
      rw [hp.2.1, hp.2.2.1]
  · unfold sweepC
    rw [List.filterMap_eq_nil_iff]
    intro p hp
    obtain ⟨q, _, e⟩ := List.mem_filterMap.1 hp
    have e' := swept_some e
    rw [if_pos]
    rw [e'.2.2.1, e'.2.1, live_live (Int.le_refl _)]
/-! ### A sweep, user by user -/
theorem become_at (ht : Tri lt) {pre post : List (κ × En)} {u : κ} {e : En} {now : Int} (hr : Rises lt (pre ++ (u, e) :: post)) : become lt u (live now e.1) now (pre ++ (u, e) :: post) = pre ++ ((swept now (u, e)).toList ++ post) := by
  unfold become swept
  simp only
  split
  · rw [outK_same lt ht hr]; rfl
  · rw [putK_same lt ht pre hr]; rfl
omit [DecidableRel lt] in
theorem tells_at (ht : Tri lt) {pre post : List (κ × En)} {u : κ} {e : En} {now : Int} (hr : Rises lt (pre ++ (u, e) :: post)) : tells u (live now e.1) now (pre ++ (u, e) :: post) = if presS now (live now e.1) = e.2 then [] else [(u, e.2, presS now (live now e.1))] := by
  unfold tells toldK
  rw [getK_same lt ht hr]
  rfl
omit [DecidableRel lt] [DecidableEq κ] lt in
theorem sweep_names (now : Int) : ∀ l : List (κ × En), ((sweepB now l).map Prod.fst).Sublist (l.map Prod.fst)
  | [] => List.Sublist.slnil
  | q :: r => by
    unfold sweepB
    rw [List.filterMap_cons]
    cases h : swept now q with
    | none => exact (sweep_names now r).cons _
    | some p =>
      simp only [List.map_cons]
      rw [(swept_some h).1]
      exact (sweep_names now r).cons_cons _
omit [DecidableRel lt] [DecidableEq κ] in
theorem rises_names {b : List (κ × En)} : Rises lt b ↔ (b.map Prod.fst).Pairwise lt := by unfold Rises; rw [List.pairwise_map]
omit [DecidableRel lt] [DecidableEq κ] in
/-- half of the users swept -/
theorem rises_half {now : Int} {b : List (κ × En)} (h : Rises lt b) (i : Nat) : Rises lt (sweepB now (b.take i) ++ b.drop i) := by
  rw [rises_names] at h ⊢
  refine List.Pairwise.sublist ?_ h
  rw [List.map_append]
  conv => rhs; rw [← List.take_append_drop i b, List.map_append]
  exact (sweep_names now _).append (List.Sublist.refl _)
theorem sweep_step (ht : Tri lt) {now : Int} {b : List (κ × En)} (h : Rises lt b) {i : Nat} (hi : i < b.length) :
    become lt b[i].1 (live now b[i].2.1) now (sweepB now (b.take i) ++ b.drop i) = sweepB now (b.take (i + 1)) ++ b.drop (i + 1) ∧
    sweepC now (b.take i) ++ tells b[i].1 (live now b[i].2.1) now (sweepB now (b.take i) ++ b.drop i) = sweepC now (b.take (i + 1)) := by
  have hr := rises_half lt (now := now) h i
  have ht1 : b.take (i + 1) = b.take i ++ [b[i]] := List.take_succ_eq_append_getElem hi
  rw [List.drop_eq_getElem_cons hi] at hr ⊢
  generalize b[i] = q at *
  obtain ⟨u, e⟩ := q
  rw [become_at lt ht hr, tells_at lt ht hr, ht1]
  constructor
  · unfold sweepB
    rw [List.filterMap_append, List.append_assoc]
    cases hs : swept now (u, e) <;> simp [hs]
  · unfold sweepC
    rw [List.filterMap_append]
    congr 1
    simp only [List.filterMap_cons, List.filterMap_nil]
    split <;> simp_all
omit [DecidableRel lt] [DecidableEq κ] lt in
/-- how many sessions there are in all -/
def storedB (b : List (κ × En)) : Nat := (b.map fun q => q.2.1.length).sum
omit [DecidableRel lt] [DecidableEq κ] lt in
theorem stored_sweep (now : Int) : ∀ b : List (κ × En), storedB (sweepB now b) ≤ storedB b
  | [] => Nat.le_refl _
  | q :: r => by
    have ih := stored_sweep now r
    unfold storedB sweepB at *
    rw [List.filterMap_cons]
    cases h : swept now q with
    | none => simp only [List.map_cons, List.sum_cons]; omega
    | some p =>
      have hp := swept_some h
      have := live_length now q.2.1
      simp only [List.map_cons, List.sum_cons, hp.2.1]
      omega
/-! ### A writing's sessions -/
/-- kind, id, status, prio; till when; how many there may be: what a user's living sessions become, and the error -/
def wrote (kind id st pr un most : Int) (l : List Sn) : List Sn × Int :=
  if kind = 1 then (if hasS id l = true ∨ (l.length : Int) < most then (put (id, st, pr, un) l, 0) else (l, 2))
  else if kind = 2 then (if hasS id l = true then (beatS id un l, 0) else (l, 3))
  else if kind = 3 then (if hasS id l = true then (out id l, 0) else (l, 3))
  else (l, 0)
theorem wrote_up {kind id st pr un most : Int} {l : List Sn} (h : Up l) : Up (wrote kind id st pr un most l).1 := by
  unfold wrote
  split
  · split
    · exact put_up _ h
    · exact h
  · split
    · split
      · exact beat_up _ _ h
      · exact h
    · split
      · split
        · exact out_up _ h
        · exact h
      · exact h
theorem wrote_room {kind id st pr un : Int} {n : Nat} {l : List Sn} (h : Up l) (hl : l.length ≤ n) : (wrote kind id st pr un (n : Int) l).1.length ≤ n := by
  unfold wrote
  split
  · split
    · rename_i hc
      rw [put_length (id, st, pr, un) h]
      rcases hc with hc | hc
      · rw [if_pos hc]; exact hl
      · split <;> omega
    · exact hl
  · split
    · split
      · rw [beat_length]; exact hl
      · exact hl
    · split
      · split
        · exact Nat.le_trans (outK_length _ _) hl
        · exact hl
      · exact hl
end
end Go.Law
/-
  Books as plain lists, more: two books are alike where each user's is; what a sweep tells; a session that is set and cleared; how many there may be. General over programs.
-/
namespace Go.Law
section
variable {κ ν : Type} (lt : κ → κ → Prop) [DecidableRel lt] [DecidableEq κ]
omit [DecidableRel lt] in
/-- rising lists that answer alike are alike -/
theorem rises_ext (ht : Tri lt) : ∀ {b c : List (κ × ν)}, Rises lt b → Rises lt c → (∀ u, getK u b = getK u c) → b = c
  | [], [], _, _, _ => rfl
  | [], q :: r, _, _, h => by have := h q.1; simp [getK] at this
  | p :: r, [], _, _, h => by have := h p.1; simp [getK] at this
  | p :: r, q :: s, hb, hc, h => by
    have no : ∀ {x : κ} {l : List (κ × ν)}, (∀ y ∈ l, lt x y.1) → getK x l = none := fun hl => getK_none fun y hy => (ht.ne (hl y hy)).symm
    have e1 : p.1 = q.1 := by
      rcases ht.tri p.1 q.1 with h1 | h1 | h1
      · have := h p.1
        rw [getK, if_pos rfl, getK, if_neg (ht.ne h1).symm, no fun y hy => ht.tr h1 (hc.head y hy)] at this
        cases this
      · exact h1
      · have := h q.1
        rw [getK, if_neg (ht.ne h1).symm, no fun y hy => ht.tr h1 (hb.head y hy), getK, if_pos rfl] at this
        cases this
    have e2 : p.2 = q.2 := by
      have := h p.1
      rw [getK, if_pos rfl, getK, if_pos e1.symm] at this
      exact Option.some.inj this
    have e3 : r = s := rises_ext ht hb.tail hc.tail fun u => by
      by_cases hu : p.1 = u
      · subst hu
        rw [no fun y hy => hb.head y hy, no fun y hy => by rw [e1]; exact hc.head y hy]
      · have := h u
        rwa [getK, if_neg hu, getK, if_neg (by rw [← e1]; exact hu)] at this
    rw [show p = q from Prod.ext e1 e2, e3]
omit [DecidableRel lt] in
/-- sessions and what was told make an entry, as no entry is empty -/
theorem get_of {b c : List (κ × En)} {u : κ} (hb : ∀ q ∈ b, q.2.1 ≠ []) (hc : ∀ q ∈ c, q.2.1 ≠ []) (h1 : sesK u b = sesK u c) (h2 : toldK u b = toldK u c) : getK u b = getK u c := by
  unfold sesK toldK at *
  cases e1 : getK u b with
  | none =>
    cases e2 : getK u c with
    | none => rfl
    | some y =>
      rw [e1, e2] at h1
      exact absurd h1.symm (hc _ (getK_mem e2))
  | some x =>
    cases e2 : getK u c with
    | none =>
      rw [e1, e2] at h1
      exact absurd h1 (hb _ (getK_mem e1))
    | some y =>
      rw [e1, e2] at h1 h2
      exact congrArg some (Prod.ext h1 h2)
theorem become_same (ht : Tri lt) {u : κ} {ss : List Sn} {now : Int} {b : List (κ × En)} (h : Book lt b) (hs : Up ss) : become lt u ss now b = b ↔ (sesK u b = ss ∧ toldK u b = presS now ss) := by
  constructor
  · intro e
    have h1 := ses_become_same lt u ss now b
    have h2 := told_become_same lt u ss now b
    rw [e] at h1 h2
    exact ⟨h1, h2⟩
  · rintro ⟨h1, h2⟩
    have hB := Book.become lt (u := u) (now := now) ht h hs
    refine rises_ext lt ht hB.1 h.1 fun v => ?_
    by_cases hv : v = u
    · subst hv
      exact get_of (fun q hq => (hB.2 q hq).1) (fun q hq => (h.2 q hq).1) (by rw [ses_become_same, h1]) (by rw [told_become_same, h2])
    · exact get_become_other lt ht hv ss now b

/-! ### What a sweep tells -/
omit [DecidableRel lt] in
theorem mem_sweepC (ht : Tri lt) {now : Int} {b : List (κ × En)} (h : Rises lt b) {q : κ × Pr × Pr} (hq : q ∈ sweepC now b) : q.2.1 = toldK q.1 b ∧ q.2.2 = presS now (live now (sesK q.1 b)) ∧ q.2.1 ≠ q.2.2 := by
  obtain ⟨p, hp, e⟩ := List.mem_filterMap.1 hq
  have hg := getK_of lt ht h (k := p.1) (v := p.2) hp
  split at e
  · cases e
  · rename_i hne
    cases e
    simp only
    unfold toldK sesK
    rw [hg]
    exact ⟨rfl, rfl, fun e => hne e.symm⟩
omit [DecidableRel lt] in
theorem not_sweepC (ht : Tri lt) {now : Int} {b : List (κ × En)} (h : Rises lt b) {u : κ} (hq : ∀ q ∈ sweepC now b, q.1 ≠ u) : toldK u (sweepB now b) = toldK u b := by
  rw [told_sweep lt ht h]
  unfold toldK sesK
  cases hg : getK u b with
  | none => rfl
  | some e =>
    by_cases hc : presS now (live now e.1) = e.2
    · exact hc
    · exact absurd rfl (hq (u, e.2, presS now (live now e.1)) (List.mem_filterMap.2 ⟨(u, e), getK_mem hg, by rw [if_neg hc]⟩))
omit [DecidableRel lt] [DecidableEq κ] in
theorem sweepC_rises {now : Int} {b : List (κ × En)} (h : Rises lt b) : (sweepC now b).Pairwise fun p q => lt p.1 q.1 := by
  refine List.Pairwise.filterMap _ ?_ h
  intro a a' hlt p hp p' hp'
  split at hp
  · cases hp
  · split at hp'
    · cases hp'
    · cases hp; cases hp'; exact hlt

/-! ### How many there may be -/
def Room (n : Nat) (b : List (κ × En)) : Prop := ∀ q ∈ b, q.2.1.length ≤ n
omit [DecidableRel lt] [DecidableEq κ] lt in
theorem Room.nil (n : Nat) : Room n ([] : List (κ × En)) := fun _ h => by cases h
theorem Room.become {n : Nat} {u : κ} {ss : List Sn} {now : Int} {b : List (κ × En)} (h : Room n b) (hs : ss.length ≤ n) : Room n (become lt u ss now b) := fun q hq => by
  unfold Law.become at hq
  split at hq
  · exact h q (List.mem_filter.1 hq).1
  · rcases putK_mem lt hq with rfl | hq
    · exact hs
    · exact h q hq
omit [DecidableRel lt] [DecidableEq κ] lt in
theorem Room.sweep {n : Nat} {now : Int} {b : List (κ × En)} (h : Room n b) : Room n (sweepB now b) := fun p hp => by
  obtain ⟨q, hq, e⟩ := List.mem_filterMap.1 hp
  rw [(swept_some e).2.1]
  exact Nat.le_trans (live_length now _) (h q hq)
omit [DecidableRel lt] lt in
theorem Room.ses {n : Nat} {b : List (κ × En)} (h : Room n b) (u : κ) : (sesK u b).length ≤ n := by
  unfold sesK
  cases hg : getK u b with
  | none => exact Nat.zero_le _
  | some e => exact h _ (getK_mem hg)
end
/-! ### A session that is set, and then looked for among who lives -/
theorem live_put_has (s : Sn) {l : List Sn} {now : Int} (hu : Up l) : hasS s.1 (live now (put s l)) = decide (now < s.2.2.2) := by
  have hu' := put_up s hu
  by_cases h : now < s.2.2.2
  · have hm : s ∈ live now (put s l) := List.mem_filter.2 ⟨put_mem s l, by simpa using h⟩
    rw [has_of hm rfl]; simp [h]
  · rw [show decide (now < s.2.2.2) = false by simpa using h, Bool.eq_false_iff]
    intro hh
    obtain ⟨q, hq, e⟩ := has_mem hh
    obtain ⟨hq1, hq2⟩ := List.mem_filter.1 hq
    obtain rfl := Up.one hu' hq1 (put_mem s l) e
    exact h (by simpa using hq2)
end Go.Law
/-
  Trees as in Trees, whose values take four cells. General over programs. (Made by mktrees4.py.)
-/
namespace Go.Law
open Go.RowKit
/-- an entry's four cells: where its sessions lie, how many, their room; what was told last; and which sessions they are (not a cell) -/
structure EnV where
  A : Option Addr
  n : Nat
  c : Nat
  st : Int
  pr : Int
  lv : Int
  ss : List Sn
abbrev EnV.e0 (v : EnV) : Value := .slice v.A v.n v.c
abbrev EnV.e1 (v : EnV) : Value := .int .i64 v.st
abbrev EnV.e2 (v : EnV) : Value := .int .i64 v.pr
abbrev EnV.e3 (v : EnV) : Value := .int .i64 v.lv
abbrev EnV.zero : EnV := ⟨none, 0, 0, 0, 0, 0, []⟩
abbrev EnV.val (v : EnV) : Value := .agg #[.slice v.A v.n v.c, .int .i64 v.st, .int .i64 v.pr, .int .i64 v.lv]
/-! ### A tree in memory -/
/-- at p there lies, in blocks below B, a tree that holds these pairs, from left to right -/
inductive Tree4 (t : TypeId) {κ ν : Type} (ek : κ → Value) (e0 e1 e2 e3 : ν → Value) (w : World) (B : Nat) : Option Addr → List (κ × ν) → Prop
  | nil : Tree4 t ek e0 e1 e2 e3 w B none []
  | node {b : Nat} {l r : Option Addr} {xs ys : List (κ × ν)} {k : κ} {v : ν} : b < B → Is w b t #[ek k, e0 v, e1 v, e2 v, e3 v, .pointer l, .pointer r, .int .i64 ((xs ++ (k, v) :: ys).length : Int)] → Tree4 t ek e0 e1 e2 e3 w B l xs → Tree4 t ek e0 e1 e2 e3 w B r ys →
      Tree4 t ek e0 e1 e2 e3 w B (some ⟨b, 0, none⟩) (xs ++ (k, v) :: ys)
section
variable {t : TypeId} {κ ν : Type} {ek : κ → Value} {e0 e1 e2 e3 : ν → Value} {w w' : World} {B B' : Nat} {p : Option Addr} {xs : List (κ × ν)}
theorem Tree4.under (h : Tree4 t ek e0 e1 e2 e3 w B p xs) (hb : Below B w w') : Tree4 t ek e0 e1 e2 e3 w' B p xs := by
  induction h with
  | nil => exact .nil
  | node hB hi _ _ ihl ihr => exact .node hB (hi.below hb hB) ihl ihr
theorem Tree4.wide (h : Tree4 t ek e0 e1 e2 e3 w B p xs) (hB : B ≤ B') : Tree4 t ek e0 e1 e2 e3 w B' p xs := by
  induction h with
  | nil => exact .nil
  | node hb hi _ _ ihl ihr => exact .node (by omega) hi ihl ihr
theorem Tree4.of_nil (h : Tree4 t ek e0 e1 e2 e3 w B none xs) : xs = [] := by cases h; rfl
theorem Tree4.is_nil (h : Tree4 t ek e0 e1 e2 e3 w B p []) : p = none := by
  generalize hx : ([] : List (κ × ν)) = zs at h
  cases h with
  | nil => rfl
  | node _ _ _ _ => simp at hx
/-- what a node says -/
theorem Tree4.of_some {a : Addr} (h : Tree4 t ek e0 e1 e2 e3 w B (some a) xs) : ∃ (b : Nat) (l r : Option Addr) (ls rs : List (κ × ν)) (k : κ) (v : ν), a = ⟨b, 0, none⟩ ∧ xs = ls ++ (k, v) :: rs ∧ b < B ∧
    Is w b t #[ek k, e0 v, e1 v, e2 v, e3 v, .pointer l, .pointer r, .int .i64 ((ls ++ (k, v) :: rs).length : Int)] ∧ Tree4 t ek e0 e1 e2 e3 w B l ls ∧ Tree4 t ek e0 e1 e2 e3 w B r rs := by
  cases h with
  | node hb hi hl hr => exact ⟨_, _, _, _, _, _, _, rfl, rfl, hb, hi, hl, hr⟩
/-- a tree that holds something is a node -/
theorem Tree4.full (h : Tree4 t ek e0 e1 e2 e3 w B p xs) (hx : 0 < xs.length) : ∃ (b : Nat) (l r : Option Addr) (ls rs : List (κ × ν)) (k : κ) (v : ν), p = some ⟨b, 0, none⟩ ∧ xs = ls ++ (k, v) :: rs ∧ b < B ∧
    Is w b t #[ek k, e0 v, e1 v, e2 v, e3 v, .pointer l, .pointer r, .int .i64 ((ls ++ (k, v) :: rs).length : Int)] ∧ Tree4 t ek e0 e1 e2 e3 w B l ls ∧ Tree4 t ek e0 e1 e2 e3 w B r rs := by
  cases h with
  | nil => simp at hx
  | node hb hi hl hr => exact ⟨_, _, _, _, _, _, _, rfl, rfl, hb, hi, hl, hr⟩
/-- how many keys a tree at a value says it holds -/
def sizeAt4 (w : World) : Value → Nat
  | .pointer (some a) => match w.cell? ⟨a.block, 7, none⟩ with
    | some (.int _ n) => n.toNat
    | _ => 0
  | _ => 0
theorem Tree4.size (h : Tree4 t ek e0 e1 e2 e3 w B p xs) : sizeAt4 w (.pointer p) = xs.length := by
  cases h with
  | nil => rfl
  | node hb hi hl hr =>
    have := hi.cell 7
    simp only [sizeAt4]
    rw [this]
    simp
    omega
/-- a new node -/
theorem Tree4.new {l r : Option Addr} {ls rs : List (κ × ν)} {k : κ} {v : ν} {g : Nat} {n : Int} (hl : Tree4 t ek e0 e1 e2 e3 w w.heap.size l ls) (hr : Tree4 t ek e0 e1 e2 e3 w w.heap.size r rs) (hg : g = w.heap.size) (hn : n = ((ls ++ (k, v) :: rs).length : Int)) :
    Tree4 t ek e0 e1 e2 e3 (w.alloc (.cells #[ek k, e0 v, e1 v, e2 v, e3 v, .pointer l, .pointer r, .int .i64 n] t)) (w.alloc (.cells #[ek k, e0 v, e1 v, e2 v, e3 v, .pointer l, .pointer r, .int .i64 n] t)).heap.size (some ⟨g, 0, none⟩) (ls ++ (k, v) :: rs) := by
  subst hg hn
  have hb := (Below.refl w.heap.size w).alloc (Nat.le_refl _) (.cells #[ek k, e0 v, e1 v, e2 v, e3 v, .pointer l, .pointer r, .int .i64 ((ls ++ (k, v) :: rs).length : Int)] t)
  exact .node (by simp) (Is.new _ _ _ rfl) ((hl.under hb).wide (by simp)) ((hr.under hb).wide (by simp))
theorem Tree4.keeps (h : Tree4 t ek e0 e1 e2 e3 w B p xs) (hb : Keeps t w w') : Tree4 t ek e0 e1 e2 e3 w' B p xs := by
  induction h with
  | nil => exact .nil
  | node hB hi _ _ ihl ihr => exact .node hB (hb.is hi) ihl ihr
/-- a store into a block of another type leaves a tree as it was -/
theorem Tree4.far (h : Tree4 t ek e0 e1 e2 e3 w B p xs) {g i : Nat} {t' : TypeId} {cs : Array Value} (hg : Is w g t' cs) (ht : t ≠ t') (u : Value) : Tree4 t ek e0 e1 e2 e3 (w.setCell ⟨g, i, none⟩ u) B p xs := by
  induction h with
  | nil => exact .nil
  | node hB hi _ _ ihl ihr =>
    refine .node hB (hi.far (p := ⟨g, i, none⟩) ?_ u) ihl ihr
    intro e
    subst e
    unfold Is at hi hg
    rw [hi] at hg
    injection hg with hg
    injection hg with _ h2
    exact ht h2
theorem Tree4.drewN (h : Tree4 t ek e0 e1 e2 e3 w B p xs) (n : Nat) : Tree4 t ek e0 e1 e2 e3 (w.drewN n) B p xs := by
  induction h with
  | nil => exact .nil
  | node hB hi _ _ ihl ihr => exact .node hB (hi.drewN n) ihl ihr
end
end Go.Law

/-
  Events of several lists put together, as plain lists: two at a time by halves, or by a look at all first ones; both come to the same. General over programs.
-/
import Derived.Test.YtdkjcheannehhaaGreatFeedL
namespace Go.Law
/-- two lists put together -/
def mrg : List Ev → List Ev → List Ev
  | [], b => b
  | x :: a, [] => x :: a
  | x :: a, y :: b => if y.sq < x.sq then y :: mrg (x :: a) b else x :: mrg a (y :: b)
termination_by a b => a.length + b.length
theorem mrg_nil (b : List Ev) : mrg [] b = b := by unfold mrg; rfl
theorem mrg_nil' (a : List Ev) : mrg a [] = a := by cases a <;> (unfold mrg; rfl)
theorem mrg_cons (x y : Ev) (a b : List Ev) : mrg (x :: a) (y :: b) = if y.sq < x.sq then y :: mrg (x :: a) b else x :: mrg a (y :: b) := by rw [mrg]
theorem mrg_length : ∀ (n : Nat) (a b : List Ev), a.length + b.length ≤ n → (mrg a b).length = a.length + b.length
  | _, [], b, _ => by rw [mrg_nil]; simp
  | _, x :: a, [], _ => by rw [mrg_nil']; simp
  | 0, x :: a, y :: b, h => by simp at h
  | n + 1, x :: a, y :: b, h => by
    rw [mrg_cons]
    simp at h
    split
    · have := mrg_length n (x :: a) b (by simp; omega); simp at this ⊢; omega
    · have := mrg_length n a (y :: b) (by simp; omega); simp at this ⊢; omega
/-- numbers that don't fall -/
def Up2 (l : List Ev) : Prop := l.Pairwise fun a b => a.sq ≤ b.sq
theorem mrg_mem : ∀ (n : Nat) (a b : List Ev), a.length + b.length ≤ n → ∀ q ∈ mrg a b, q ∈ a ∨ q ∈ b
  | _, [], b, _, q, hq => by rw [mrg_nil] at hq; exact .inr hq
  | _, x :: a, [], _, q, hq => by rw [mrg_nil'] at hq; exact .inl hq
  | 0, x :: a, y :: b, h, _, _ => by simp at h
  | n + 1, x :: a, y :: b, h, q, hq => by
    rw [mrg_cons] at hq
    simp at h
    split at hq
    · rcases List.mem_cons.1 hq with rfl | hq
      · exact .inr (by simp)
      · exact (mrg_mem n (x :: a) b (by simp; omega) q hq).imp id (fun h => by simp [h])
    · rcases List.mem_cons.1 hq with rfl | hq
      · exact .inl (by simp)
      · exact (mrg_mem n a (y :: b) (by simp; omega) q hq).imp (fun h => by simp [h]) id
theorem mrg_up : ∀ (n : Nat) (a b : List Ev), a.length + b.length ≤ n → Up2 a → Up2 b → Up2 (mrg a b)
  | _, [], b, _, _, hb => by rw [mrg_nil]; exact hb
  | _, x :: a, [], _, ha, _ => by rw [mrg_nil']; exact ha
  | 0, x :: a, y :: b, h, _, _ => by simp at h
  | n + 1, x :: a, y :: b, h, ha, hb => by
    rw [mrg_cons]
    simp at h
    obtain ⟨ha1, ha2⟩ := List.pairwise_cons.1 ha
    obtain ⟨hb1, hb2⟩ := List.pairwise_cons.1 hb
    split
    · rename_i hlt
      refine List.pairwise_cons.2 ⟨fun q hq => ?_, mrg_up n (x :: a) b (by simp; omega) ha hb2⟩
      rcases mrg_mem n (x :: a) b (by simp; omega) q hq with hq | hq
      · rcases List.mem_cons.1 hq with rfl | hq
        · omega
        · have := ha1 q hq; omega
      · exact hb1 q hq
    · rename_i hlt
      refine List.pairwise_cons.2 ⟨fun q hq => ?_, mrg_up n a (y :: b) (by simp; omega) ha2 hb⟩
      rcases mrg_mem n a (y :: b) (by simp; omega) q hq with hq | hq
      · exact ha1 q hq
      · rcases List.mem_cons.1 hq with rfl | hq
        · omega
        · have := hb1 q hq; omega
/-- the first ones looked at: the one that comes, and what is left -/
def pick : List (List Ev) → Option (Ev × List (List Ev))
  | [] => none
  | r :: rs => match r, pick rs with
    | [], none => none
    | [], some (e, rs') => some (e, [] :: rs')
    | x :: r', none => some (x, r' :: rs)
    | x :: r', some (e, rs') => if x.sq ≤ e.sq then some (x, r' :: rs) else some (e, (x :: r') :: rs')
def total (l : List (List Ev)) : Nat := (l.map List.length).sum
theorem total_app (xs ys : List (List Ev)) : total (xs ++ ys) = total xs + total ys := by unfold total; rw [List.map_append, List.sum_append]
theorem total_cons (r : List Ev) (rs : List (List Ev)) : total (r :: rs) = r.length + total rs := by unfold total; simp
theorem pick_total : ∀ {l : List (List Ev)} {e : Ev} {l' : List (List Ev)}, pick l = some (e, l') → total l = total l' + 1
  | [], _, _, h => by simp [pick] at h
  | r :: rs, e, l', h => by
    cases hp : pick rs with
    | none =>
      cases r with
      | nil => simp [pick, hp] at h
      | cons x r' =>
        simp [pick, hp] at h
        obtain ⟨rfl, rfl⟩ := h
        simp [total_cons]; omega
    | some p =>
      obtain ⟨e1, rs'⟩ := p
      have ih := pick_total hp
      cases r with
      | nil =>
        simp [pick, hp] at h
        obtain ⟨rfl, rfl⟩ := h
        simp [total_cons, ih]
      | cons x r' =>
        by_cases hx : x.sq ≤ e1.sq
        · simp [pick, hp, hx] at h
          obtain ⟨rfl, rfl⟩ := h
          simp [total_cons]; omega
        · simp [pick, hp, hx] at h
          obtain ⟨rfl, rfl⟩ := h
          simp [total_cons, ih]; omega
theorem pick_none : ∀ {l : List (List Ev)}, pick l = none → total l = 0
  | [], _ => rfl
  | r :: rs, h => by
    cases hp : pick rs with
    | none =>
      cases r with
      | nil => rw [total_cons, pick_none hp]; rfl
      | cons x r' => simp [pick, hp] at h
    | some p =>
      obtain ⟨e1, rs'⟩ := p
      cases r with
      | nil => simp [pick, hp] at h
      | cons x r' =>
        by_cases hx : x.sq ≤ e1.sq
        · simp [pick, hp, hx] at h
        · simp [pick, hp, hx] at h
/-- of two rows of lists -/
def pick2 (xs ys : List (List Ev)) : Option (Ev × List (List Ev)) := match pick xs, pick ys with
  | none, none => none
  | none, some (e, ys') => some (e, xs ++ ys')
  | some (e, xs'), none => some (e, xs' ++ ys)
  | some (x, xs'), some (y, ys') => if y.sq < x.sq then some (y, xs ++ ys') else some (x, xs' ++ ys)
theorem pick_app : ∀ (xs ys : List (List Ev)), pick (xs ++ ys) = pick2 xs ys
  | [], ys => by
    unfold pick2
    rw [List.nil_append, show pick [] = none from rfl]
    cases pick ys <;> rfl
  | r :: rs, ys => by
    have ih := pick_app rs ys
    rw [List.cons_append]
    show (match r, pick (rs ++ ys) with | [], none => none | [], some (e, rs') => some (e, [] :: rs') | x :: r', none => some (x, r' :: (rs ++ ys)) | x :: r', some (e, rs') => if x.sq ≤ e.sq then some (x, r' :: (rs ++ ys)) else some (e, (x :: r') :: rs')) = _
    rw [ih]
    unfold pick2
    cases hr : pick rs with
    | none =>
      cases hy : pick ys with
      | none => cases r <;> simp [pick, hr]
      | some q =>
        obtain ⟨y, ys'⟩ := q
        cases r with
        | nil => simp [pick, hr]
        | cons x r' =>
          simp only [pick, hr]
          by_cases h : x.sq ≤ y.sq
          · rw [if_pos h, if_neg (by omega)]; rfl
          · rw [if_neg h, if_pos (by omega)]; rfl
    | some p =>
      obtain ⟨e, rs'⟩ := p
      cases hy : pick ys with
      | none =>
        cases r with
        | nil => simp [pick, hr]
        | cons x r' =>
          simp only [pick, hr]
          by_cases h : x.sq ≤ e.sq
          · rw [if_pos h, if_pos h]; rfl
          · rw [if_neg h, if_neg h]; rfl
      | some q =>
        obtain ⟨y, ys'⟩ := q
        cases r with
        | nil =>
          simp only [pick, hr]
          by_cases h : y.sq < e.sq
          · rw [if_pos h, if_pos h]; rfl
          · rw [if_neg h, if_neg h]; rfl
        | cons x r' =>
          simp only [pick, hr]
          by_cases h : y.sq < e.sq
          · rw [if_pos h]
            simp only
            by_cases hx : x.sq ≤ e.sq
            · simp only [if_pos hx]
              by_cases h2 : x.sq ≤ y.sq
              · rw [if_pos h2, if_neg (by omega)]; rfl
              · rw [if_neg h2, if_pos (by omega)]; rfl
            · simp only [if_neg hx]
              rw [if_neg (by omega), if_pos h]; rfl
          · rw [if_neg h]
            simp only
            by_cases hx : x.sq ≤ e.sq
            · simp only [if_pos hx]
              rw [if_neg (by omega)]; rfl
            · simp only [if_neg hx]
              rw [if_neg h]; rfl
/-- by a look at all first ones -/
def kway : Nat → List (List Ev) → List Ev
  | 0, _ => []
  | n + 1, l => match pick l with
    | none => []
    | some (e, l') => e :: kway n l'
theorem kway_none {l : List (List Ev)} (h : pick l = none) : ∀ n, kway n l = []
  | 0 => rfl
  | n + 1 => by rw [kway, h]
theorem kway_two : ∀ (n : Nat) (xs ys : List (List Ev)), total xs + total ys ≤ n → ∀ a b, total xs ≤ a → total ys ≤ b → kway n (xs ++ ys) = mrg (kway a xs) (kway b ys)
  | n, xs, ys, hn, a, b, ha, hb => by
    cases hx : pick xs with
    | none =>
      rw [kway_none hx a, mrg_nil]
      cases hy : pick ys with
      | none =>
        rw [kway_none hy b]
        exact kway_none (by rw [pick_app]; unfold pick2; rw [hx, hy]) n
      | some q =>
        obtain ⟨y, ys'⟩ := q
        have ty := pick_total hy
        obtain ⟨n, rfl⟩ : ∃ m, n = m + 1 := ⟨n - 1, by omega⟩
        obtain ⟨b, rfl⟩ : ∃ m, b = m + 1 := ⟨b - 1, by omega⟩
        have ih := kway_two n xs ys' (by omega) 0 b (by rw [pick_none hx]; omega) (by omega)
        rw [kway, pick_app, kway, hy]
        unfold pick2
        rw [hx, hy]
        simp only
        rw [ih, kway, mrg_nil]
    | some p =>
      obtain ⟨x, xs'⟩ := p
      have tx := pick_total hx
      obtain ⟨n, rfl⟩ : ∃ m, n = m + 1 := ⟨n - 1, by omega⟩
      obtain ⟨a, rfl⟩ : ∃ m, a = m + 1 := ⟨a - 1, by omega⟩
      cases hy : pick ys with
      | none =>
        have ih := kway_two n xs' ys (by omega) a 0 (by omega) (by rw [pick_none hy]; omega)
        rw [kway_none hy b, mrg_nil', kway, pick_app, kway, hx]
        unfold pick2
        rw [hx, hy]
        simp only
        rw [ih, kway, mrg_nil']
      | some q =>
        obtain ⟨y, ys'⟩ := q
        have ty := pick_total hy
        obtain ⟨b, rfl⟩ : ∃ m, b = m + 1 := ⟨b - 1, by omega⟩
        have e1 : kway (a + 1) xs = x :: kway a xs' := by rw [kway, hx]
        have e2 : kway (b + 1) ys = y :: kway b ys' := by rw [kway, hy]
        rw [e1, e2, mrg_cons, kway, pick_app]
        unfold pick2
        rw [hx, hy]
        simp only
        by_cases h : y.sq < x.sq
        · rw [if_pos h, if_pos h]
          simp only
          rw [kway_two n xs ys' (by omega) (a + 1) b (by omega) (by omega), e1]
        · rw [if_neg h, if_neg h]
          simp only
          rw [kway_two n xs' ys (by omega) a (b + 1) (by omega) (by omega), e2]
theorem kway_one : ∀ (n : Nat) (r : List Ev), r.length ≤ n → kway n [r] = r
  | 0, r, h => by rw [List.eq_nil_of_length_eq_zero (by omega : r.length = 0)]; rfl
  | n + 1, [], _ => by simp [kway, pick]
  | n + 1, x :: r, h => by
    have ih := kway_one n r (by simpa using h)
    simp [kway, pick, ih]
/-- all lists put together -/
def all (l : List (List Ev)) : List Ev := kway (total l) l
theorem all_nil : all [] = [] := rfl
theorem all_one (r : List Ev) : all [r] = r := kway_one _ r (by simp [total])
theorem all_half (l : List (List Ev)) (h : Nat) : all l = mrg (all (l.take h)) (all (l.drop h)) := by
  have e := kway_two (total l) (l.take h) (l.drop h) (by rw [← total_app, List.take_append_drop]; omega) _ _ (Nat.le_refl _) (Nat.le_refl _)
  rw [List.take_append_drop] at e
  exact e
theorem all_length : ∀ (n : Nat) (l : List (List Ev)), total l ≤ n → (kway n l).length = total l
  | 0, l, h => by simp [kway]; omega
  | n + 1, l, h => by
    cases hp : pick l with
    | none => rw [kway_none hp, pick_none hp]; rfl
    | some p =>
      obtain ⟨e, l'⟩ := p
      have t := pick_total hp
      rw [kway, hp]
      simp only [List.length_cons]
      rw [all_length n l' (by omega)]
      omega
theorem all_up : ∀ (n : Nat) (l : List (List Ev)), l.length ≤ n → (∀ r ∈ l, Up2 r) → Up2 (all l)
  | _, [], _, _ => by rw [all_nil]; exact List.Pairwise.nil
  | _, [r], _, h => by rw [all_one]; exact h r (by simp)
  | 0, _ :: _ :: _, h, _ => by simp at h
  | n + 1, r :: r' :: rs, h, hu => by
    rw [all_half _ 1]
    refine mrg_up _ _ _ (Nat.le_refl _) (all_up n _ (by simp at h ⊢; omega) ?_) (all_up n _ (by simp at h ⊢; omega) ?_)
    · intro q hq
      exact hu q (List.mem_of_mem_take hq)
    · intro q hq
      exact hu q (List.mem_of_mem_drop hq)
end Go.Law

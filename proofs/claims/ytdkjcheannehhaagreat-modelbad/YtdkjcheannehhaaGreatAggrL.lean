/-
  Which session of a list counts most, and the least time of a list, as plain lists. General over programs.
-/
import Derived.Test.YtdkjcheannehhaaGreatSessL
namespace Go.Law
theorem snocInd {α : Type} {motive : List α → Prop} (nil : motive []) (snoc : ∀ l x, motive l → motive (l ++ [x])) (l : List α) : motive l := by
  rw [← List.reverse_reverse l]
  generalize l.reverse = r
  induction r with
  | nil => exact nil
  | cons x r ih => rw [List.reverse_cons]; exact snoc _ _ ih
/-- a counts more than b -/
def better (a b : Sn) : Bool := decide (b.2.2.1 < a.2.2.1) || (decide (a.2.2.1 = b.2.2.1) && decide (a.1 < b.1))
theorem better_iff (a b : Sn) : better a b = true ↔ (b.2.2.1 < a.2.2.1 ∨ (a.2.2.1 = b.2.2.1 ∧ a.1 < b.1)) := by simp [better]
theorem better_self (a : Sn) : better a a = false := by rw [Bool.eq_false_iff]; intro h; rw [better_iff] at h; omega
theorem better_trans {a b c : Sn} (h1 : better a b = true) (h2 : better b c = true) : better a c = true := by rw [better_iff] at *; omega
theorem better_asym {a b : Sn} (h : better a b = true) : better b a = false := by rw [Bool.eq_false_iff]; intro h'; rw [better_iff] at *; omega
/-- what is better than one that nothing of a kind beats, beats the kind -/
theorem better_over {a b c : Sn} (h1 : better a b = true) (h2 : better c b = false) : better a c = true := by
  rw [Bool.eq_false_iff, ne_eq, better_iff] at h2
  rw [better_iff] at *
  omega
theorem better_alike {a b : Sn} (h1 : better a b = false) (h2 : better b a = false) : a.2.2.1 = b.2.2.1 ∧ a.1 = b.1 := by
  rw [Bool.eq_false_iff, ne_eq, better_iff] at h1 h2
  omega
theorem better_no {a b : Sn} (h : better a b = false) : a.2.2.1 ≤ b.2.2.1 := by
  rw [Bool.eq_false_iff, ne_eq, better_iff] at h
  omega
def stepB : Option Sn → Sn → Option Sn
  | none, x => some x
  | some b, x => some (if better x b then x else b)
def best (l : List Sn) : Option Sn := l.foldl stepB none
/-- the session that counts most; of several the first one; of none the zero session -/
def top (l : List Sn) : Sn := (best l).getD (0, 0, 0, 0)
theorem best_snoc (l : List Sn) (x : Sn) : best (l ++ [x]) = stepB (best l) x := by simp [best, List.foldl_append]
/-- a place of a list whose session counts most, and is the first one that does -/
def First (l : List Sn) (i : Nat) (q : Sn) : Prop := l[i]? = some q ∧ (∀ (k : Nat) p, l[k]? = some p → better p q = false) ∧ (∀ (k : Nat) p, l[k]? = some p → k < i → better q p = true)
theorem best_first (l : List Sn) : (l = [] ∧ best l = none) ∨ ∃ i q, First l i q ∧ best l = some q := by
  induction l using snocInd with
  | nil => exact .inl ⟨rfl, rfl⟩
  | snoc l x ih =>
    refine .inr ?_
    rcases ih with ⟨rfl, h⟩ | ⟨i, q, ⟨h1, h2, h3⟩, h⟩
    · refine ⟨0, x, ⟨rfl, fun k p hp => ?_, fun k p hp hk => by omega⟩, rfl⟩
      cases k with
      | zero => simp at hp; subst hp; exact better_self _
      | succ k => simp at hp
    · have hi : i < l.length := (List.getElem?_eq_some_iff.1 h1).1
      rw [best_snoc, h]
      by_cases hb : better x q = true
      · refine ⟨l.length, x, ⟨by simp, fun k p hp => ?_, fun k p hp hk => ?_⟩, by simp [stepB, hb]⟩
        · by_cases hk : k < l.length
          · rw [List.getElem?_append_left hk] at hp
            have := h2 k p hp
            rw [Bool.eq_false_iff]
            intro hpx
            rw [better_trans hpx hb] at this
            cases this
          · rw [List.getElem?_append_right (by omega)] at hp
            have hk0 : k - l.length = 0 := by
              have := (List.getElem?_eq_some_iff.1 hp).1
              simp at this; omega
            rw [hk0] at hp; simp at hp; subst hp; exact better_self _
        · rw [List.getElem?_append_left hk] at hp
          exact better_over hb (h2 k p hp)
      · have hb' : better x q = false := by simpa using hb
        refine ⟨i, q, ⟨by rw [List.getElem?_append_left hi]; exact h1, fun k p hp => ?_, fun k p hp hk => ?_⟩, by simp [stepB, hb']⟩
        · by_cases hk : k < l.length
          · rw [List.getElem?_append_left hk] at hp
            exact h2 k p hp
          · rw [List.getElem?_append_right (by omega)] at hp
            have hk0 : k - l.length = 0 := by
              have := (List.getElem?_eq_some_iff.1 hp).1
              simp at this; omega
            rw [hk0] at hp; simp at hp; subst hp; exact hb'
        · rw [List.getElem?_append_left (by omega)] at hp
          exact h3 k p hp hk
theorem top_nil : top [] = (0, 0, 0, 0) := rfl
/-- one session more -/
theorem top_snoc (l : List Sn) (x : Sn) : top (l ++ [x]) = if l.length = 0 ∨ better x (top l) = true then x else top l := by
  unfold top
  rw [best_snoc]
  rcases best_first l with ⟨rfl, h⟩ | ⟨i, q, h1, h⟩
  · rw [h]; simp [stepB]
  · have : l.length ≠ 0 := by
      have := (List.getElem?_eq_some_iff.1 h1.1).1
      omega
    rw [h]
    by_cases hb : better x q = true
    · simp [stepB, hb]
    · simp [stepB, hb, this]
theorem top_first {l : List Sn} (h : l ≠ []) : ∃ i, First l i (top l) := by
  rcases best_first l with ⟨rfl, _⟩ | ⟨i, q, h1, h2⟩
  · exact absurd rfl h
  · exact ⟨i, by unfold top; rw [h2]; exact h1⟩
theorem top_mem {l : List Sn} (h : l ≠ []) : top l ∈ l := by
  obtain ⟨i, hi⟩ := top_first h
  exact List.mem_of_getElem? hi.1
theorem top_most {l : List Sn} {p : Sn} (h : p ∈ l) : better p (top l) = false := by
  obtain ⟨i, hi⟩ := top_first (l := l) (by intro e; subst e; cases h)
  obtain ⟨k, hk, e⟩ := List.getElem_of_mem h
  exact hi.2.1 k p (by rw [List.getElem?_eq_getElem hk, e])
/-- the reference's test of a place: nobody counts more, and nobody ahead of it counts alike -/
def beats (k i : Nat) (p q : Sn) : Bool := decide (q.2.2.1 < p.2.2.1) || (decide (p.2.2.1 = q.2.2.1) && (decide (p.1 < q.1) || (decide (p.1 = q.1) && decide (k < i))))
theorem beats_iff {k i : Nat} {p q : Sn} : beats k i p q = true ↔ (better p q = true ∨ (p.2.2.1 = q.2.2.1 ∧ p.1 = q.1 ∧ k < i)) := by
  simp only [beats, better, Bool.or_eq_true, Bool.and_eq_true, decide_eq_true_eq]
  constructor
  · rintro (h | ⟨h1, h2 | ⟨h3, h4⟩⟩)
    · exact .inl (.inl h)
    · exact .inl (.inr ⟨h1, h2⟩)
    · exact .inr ⟨h1, h3, h4⟩
  · rintro ((h | ⟨h1, h2⟩) | ⟨h1, h3, h4⟩)
    · exact .inl h
    · exact .inr ⟨h1, .inl h2⟩
    · exact .inr ⟨h1, .inr ⟨h3, h4⟩⟩
/-- nobody beats place i -/
def Picks (l : List Sn) (i : Nat) : Prop := ∀ (k : Nat) p q, l[k]? = some p → l[i]? = some q → beats k i p q = false
theorem picks_top {l : List Sn} {i : Nat} {q : Sn} (hq : l[i]? = some q) (h : Picks l i) : q = top l := by
  obtain ⟨j, hj1, hj2, hj3⟩ := top_first (l := l) (by intro e; subst e; simp at hq)
  rcases Nat.lt_trichotomy i j with hij | rfl | hij
  · have h1 := hj3 i q hq hij
    have h2 := h j _ q hj1 hq
    rw [Bool.eq_false_iff, ne_eq, beats_iff] at h2
    exact absurd (.inl h1) h2
  · rw [hj1] at hq; exact (Option.some.inj hq).symm
  · have h2 := h j _ q hj1 hq
    rw [Bool.eq_false_iff, ne_eq, beats_iff] at h2
    have h3 := hj2 i q hq
    have h4 : better (top l) q = false := by rw [Bool.eq_false_iff]; intro h; exact h2 (.inl h)
    obtain ⟨e1, e2⟩ := better_alike h4 h3
    exact absurd (.inr ⟨e1, e2, hij⟩) h2
theorem some_picks {l : List Sn} (h : l ≠ []) : ∃ i, i < l.length ∧ Picks l i := by
  obtain ⟨j, hj1, hj2, hj3⟩ := top_first h
  refine ⟨j, (List.getElem?_eq_some_iff.1 hj1).1, fun k p q hp hq => ?_⟩
  rw [hj1] at hq
  obtain rfl := Option.some.inj hq
  rw [Bool.eq_false_iff, ne_eq, beats_iff]
  rintro (h1 | ⟨h1, h2, h3⟩)
  · rw [hj2 k p hp] at h1; cases h1
  · have := hj3 k p hp h3
    rw [better_iff] at this
    omega
/-- of two lists of the same sessions, no two of one id, the same session counts most -/
theorem top_same {l m : List Sn} (hu : ∀ a b, a ∈ l → b ∈ l → a.1 = b.1 → a = b) (h : ∀ q, q ∈ l ↔ q ∈ m) : top l = top m := by
  by_cases hl : l = []
  · subst hl
    have hm : m = [] := List.eq_nil_iff_forall_not_mem.2 fun q hq => by have := (h q).2 hq; cases this
    rw [hm]
  · have hm : m ≠ [] := fun e => by subst e; have := (h _).1 (top_mem hl); cases this
    have h1 := top_most ((h _).2 (top_mem hm))
    have h2 := top_most ((h _).1 (top_mem hl))
    obtain ⟨_, e⟩ := better_alike h1 h2
    exact hu _ _ (top_mem hl) ((h _).2 (top_mem hm)) e.symm
/-! ### The least time -/
def stepN : Option Int → Sn → Option Int
  | none, x => some x.2.2.2
  | some u, x => some (if x.2.2.2 < u then x.2.2.2 else u)
def least (l : List Sn) : Option Int := l.foldl stepN none
theorem least_snoc (l : List Sn) (x : Sn) : least (l ++ [x]) = stepN (least l) x := by simp [least, List.foldl_append]
theorem least_none {l : List Sn} (h : least l = none) : l = [] := by
  induction l using snocInd with
  | nil => rfl
  | snoc l x _ => rw [least_snoc] at h; cases h' : least l <;> rw [h'] at h <;> cases h
theorem least_le {l : List Sn} {u : Int} (h : least l = some u) {q : Sn} (hq : q ∈ l) : u ≤ q.2.2.2 := by
  induction l using snocInd generalizing u with
  | nil => cases hq
  | snoc l x ih =>
    rw [least_snoc] at h
    cases h' : least l with
    | none =>
      obtain rfl := least_none h'
      simp [h', stepN] at h hq
      subst hq; omega
    | some v =>
      rw [h'] at h
      simp only [stepN, Option.some.injEq] at h
      rcases List.mem_append.1 hq with hq | hq
      · have := ih h' hq
        split at h <;> omega
      · simp at hq; subst hq
        split at h <;> omega
/-- till then the same sessions live -/
theorem live_till {now then_ : Int} (l : List Sn) (h1 : now ≤ then_) (h2 : ∀ u, least (live now l) = some u → then_ < u) : live then_ l = live now l := by
  unfold live
  refine List.filter_congr fun q hq => ?_
  by_cases h : now < q.2.2.2
  · have hm : q ∈ live now l := List.mem_filter.2 ⟨hq, by simpa using h⟩
    cases h' : least (live now l) with
    | none => rw [least_none h'] at hm; cases hm
    | some u =>
      have := least_le h' hm
      have := h2 u h'
      simp; omega
  · simp; omega
end Go.Law

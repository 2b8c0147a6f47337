/-
  Lines, and replies' words, tell apart what they tell of.
-/
import Derived.Test.YtdfonlbbohnfhaaDoorOpRep
import Derived.Test.YtdfonlbbohnfhaaDoorOpUnq2
namespace Go.Proofs.YtdfonlbbohnfhaaDoor
open Go.RowKit Go.Lib
namespace Opx
open Go.Law
def LB (b : ByteArray) : List UInt8 := b.data.toList
theorem LB_inj {a b : ByteArray} (h : LB a = LB b) : a = b := by cases a; cases b; congr; exact Array.toList_inj.1 h
theorem LB_app (a b : ByteArray) : LB (a ++ b) = LB a ++ LB b := by unfold LB; rw [ByteArray.data_append, Array.toList_append]
theorem LB_join (x : ByteArray) (xs : List ByteArray) : LB (joinB (x :: xs)) = LB x ++ blankL (xs.map LB) := by
  unfold joinB LB
  rw [List.map_cons, join_blank]
theorem LB_quote (u : ByteArray) : LB (quoteB u) = quoteL u := rfl
theorem LB_int (n : Int) : LB (intB n) = itoa n := by unfold LB intB; rw [List.toList_toArray]
theorem LB_dec (n : Nat) : LB (decB n) = decDigits n := by unfold LB decB; rw [List.toList_toArray]
def wordsL (q : OpW) : List (List UInt8) :=
  if q.kind = 1 then [quoteL q.user, itoa q.id, itoa q.st, itoa q.pr, decDigits q.ttl.toNat]
  else if q.kind = 2 then [quoteL q.user, itoa q.id, decDigits q.ttl.toNat]
  else if q.kind = 3 then [quoteL q.user, itoa q.id]
  else if q.kind = 4 ∨ q.kind = 6 ∨ q.kind = 7 then [quoteL q.user]
  else if q.kind = 5 then q.us.map quoteL
  else []
theorem LB_line (q : OpW) (h : 1 ≤ q.kind ∧ q.kind ≤ 9) : LB (lineB q) = LB (kindB q.kind) ++ blankL (wordsL q) := by
  unfold lineB wordsL
  by_cases h1 : q.kind = 1
  · rw [if_pos h1, if_pos h1, LB_join, h1]; simp only [List.map_cons, List.map_nil, LB_int, LB_dec]; rfl
  rw [if_neg h1, if_neg h1]
  by_cases h2 : q.kind = 2
  · rw [if_pos h2, if_pos h2, LB_join, h2]; simp only [List.map_cons, List.map_nil, LB_int, LB_dec]; rfl
  rw [if_neg h2, if_neg h2]
  by_cases h3 : q.kind = 3
  · rw [if_pos h3, if_pos h3, LB_join, h3]; simp only [List.map_cons, List.map_nil, LB_int]; rfl
  rw [if_neg h3, if_neg h3]
  by_cases h4 : q.kind = 4 ∨ q.kind = 6 ∨ q.kind = 7
  · rw [if_pos h4, if_pos h4, LB_join]; rfl
  rw [if_neg h4, if_neg h4]
  by_cases h5 : q.kind = 5
  · rw [if_pos h5, if_pos h5, LB_join, h5, List.map_map]; rfl
  rw [if_neg h5, if_neg h5, if_pos (by omega)]
  show _ = _ ++ []
  rw [List.append_nil]
/-- a kind's name has no blank -/
theorem kind_word (k : Int) (h : 1 ≤ k ∧ k ≤ 9) : ∀ x ∈ LB (kindB k), (x != 32) = true := by
  obtain ⟨n, rfl⟩ := Int.eq_ofNat_of_zero_le (show 0 ≤ k by omega)
  match n, h with
  | 1, _ | 2, _ | 3, _ | 4, _ | 5, _ | 6, _ | 7, _ | 8, _ | 9, _ => decide
  | 0, h => omega
  | n + 10, h => omega
theorem kind_inj (k l : Int) (h : 1 ≤ k ∧ k ≤ 9) (h' : 1 ≤ l ∧ l ≤ 9) (e : LB (kindB k) = LB (kindB l)) : k = l := by
  have hd : ∀ a ∈ List.range 10, ∀ b ∈ List.range 10, 1 ≤ a → 1 ≤ b → LB (kindB (a : Int)) = LB (kindB (b : Int)) → a = b := by decide
  obtain ⟨n, rfl⟩ := Int.eq_ofNat_of_zero_le (show 0 ≤ k by omega)
  obtain ⟨m, rfl⟩ := Int.eq_ofNat_of_zero_le (show 0 ≤ l by omega)
  have := hd n (List.mem_range.2 (by omega)) m (List.mem_range.2 (by omega)) (by omega) (by omega) e
  omega
/-- are two ops alike, in what counts? -/
def sameB (x y : OpW) : Bool :=
  decide (x.kind = y.kind) && (if x.kind = 1 then decide (x.user = y.user) && decide (x.id = y.id) && decide (x.st = y.st) && decide (x.pr = y.pr) && decide (x.ttl = y.ttl)
    else if x.kind = 2 then decide (x.user = y.user) && decide (x.id = y.id) && decide (x.ttl = y.ttl)
    else if x.kind = 3 then decide (x.user = y.user) && decide (x.id = y.id)
    else if x.kind = 5 then decide (x.us = y.us)
    else if x.kind = 8 ∨ x.kind = 9 then true
    else decide (x.user = y.user))
theorem tail_cons {x : List UInt8} {xs : List (List UInt8)} {y : List UInt8} {ys : List (List UInt8)} (h : blankL (x :: xs) = blankL (y :: ys)) : x ++ blankL xs = y ++ blankL ys := by injection h
theorem line_same (x y : OpW) (hx : 1 ≤ x.kind ∧ x.kind ≤ 9) (hy : 1 ≤ y.kind ∧ y.kind ≤ 9) (tx : 0 ≤ x.ttl) (ty : 0 ≤ y.ttl) : decide (lineB x = lineB y) = sameB x y := by
  have eb : ∀ xs : List (List UInt8), NoMore (fun c => c != 32) (blankL xs) := fun xs => blankL_ends rfl xs
  have ed : ∀ xs : List (List UInt8), NoMore digB (blankL xs) := fun xs => blankL_ends rfl xs
  by_cases hk : x.kind = y.kind
  · have e : (lineB x = lineB y) ↔ blankL (wordsL x) = blankL (wordsL y) := by
      constructor
      · intro h
        have h1 := congrArg LB h
        rw [LB_line x hx, LB_line y hy] at h1
        exact (cut_eq (fun c => c != 32) (kind_word _ hx) (kind_word _ hy) (eb _) (eb _) h1).2
      · intro h
        refine LB_inj ?_
        rw [LB_line x hx, LB_line y hy, hk, h]
    rw [Bool.eq_iff_iff, decide_eq_true_iff, e]
    obtain ⟨k, user, id, st, pr, ttl, A, c, us⟩ := x
    obtain ⟨k', user', id', st', pr', ttl', A', c', us'⟩ := y
    simp only at hk hx hy tx ty
    subst hk
    clear e hy
    rcases (show k = 1 ∨ k = 2 ∨ k = 3 ∨ (k = 4 ∨ k = 6 ∨ k = 7) ∨ k = 5 ∨ (k = 8 ∨ k = 9) by omega) with rfl | rfl | rfl | h4 | rfl | h8
    · simp only [wordsL, sameB, if_pos, Bool.and_eq_true, decide_eq_true_eq]
      constructor
      · intro h
        obtain ⟨rfl, g1⟩ := quoteL_cancel (tail_cons h)
        obtain ⟨rfl, g2⟩ := itoa_cancel (ed _) (ed _) (tail_cons g1)
        obtain ⟨rfl, g3⟩ := itoa_cancel (ed _) (ed _) (tail_cons g2)
        obtain ⟨rfl, g4⟩ := itoa_cancel (ed _) (ed _) (tail_cons g3)
        obtain ⟨h0, g5⟩ := dec_cancel (ed _) (ed _) (tail_cons g4)
        exact ⟨trivial, ⟨⟨⟨rfl, rfl⟩, rfl⟩, rfl⟩, by omega⟩
      · rintro ⟨_, ⟨⟨⟨rfl, rfl⟩, rfl⟩, rfl⟩, rfl⟩; rfl
    · simp only [wordsL, sameB, if_pos, Bool.and_eq_true, decide_eq_true_eq, if_neg (show ¬ ((2 : Int) = 1) by decide)]
      constructor
      · intro h
        obtain ⟨rfl, g1⟩ := quoteL_cancel (tail_cons h)
        obtain ⟨rfl, g2⟩ := itoa_cancel (ed _) (ed _) (tail_cons g1)
        obtain ⟨h0, g3⟩ := dec_cancel (ed _) (ed _) (tail_cons g2)
        exact ⟨trivial, ⟨rfl, rfl⟩, by omega⟩
      · rintro ⟨_, ⟨rfl, rfl⟩, rfl⟩; rfl
    · simp only [wordsL, sameB, if_pos, Bool.and_eq_true, decide_eq_true_eq, if_neg (show ¬ ((3 : Int) = 1) by decide), if_neg (show ¬ ((3 : Int) = 2) by decide)]
      constructor
      · intro h
        obtain ⟨rfl, g1⟩ := quoteL_cancel (tail_cons h)
        obtain ⟨rfl, g2⟩ := itoa_cancel (ed _) (ed _) (tail_cons g1)
        exact ⟨trivial, rfl, rfl⟩
      · rintro ⟨_, rfl, rfl⟩; rfl
    · simp only [wordsL, sameB, Bool.and_eq_true, decide_eq_true_eq]
      rw [if_neg (by omega), if_neg (by omega), if_neg (by omega), if_pos h4, if_neg (by omega), if_neg (by omega), if_neg (by omega), if_pos h4, if_neg (by omega), if_neg (by omega), if_neg (by omega), if_neg (by omega), if_neg (by omega), decide_eq_true_eq]
      constructor
      · intro h
        exact ⟨trivial, (quoteL_cancel (tail_cons h)).1⟩
      · rintro ⟨_, rfl⟩; rfl
    · simp only [wordsL, sameB, Bool.and_eq_true]
      constructor
      · intro h
        exact ⟨by simp, decide_eq_true (quotes_inj h)⟩
      · rintro ⟨_, h⟩
        have h : us = us' := of_decide_eq_true h
        subst h
        rfl
    · simp only [wordsL, sameB, Bool.and_eq_true]
      rw [if_neg (by omega), if_neg (by omega), if_neg (by omega), if_neg (by omega), if_neg (by omega), if_neg (by omega), if_neg (by omega), if_neg (by omega), if_neg (by omega), if_neg (by omega), if_neg (by omega), if_neg (by omega), if_neg (by omega), if_neg (by omega), if_pos h8]
      exact ⟨fun _ => ⟨by simp, rfl⟩, fun _ => rfl⟩
  · have e : ¬ lineB x = lineB y := fun h => hk (by
      have h1 := congrArg LB h
      rw [LB_line x hx, LB_line y hy] at h1
      exact kind_inj _ _ hx hy (cut_eq (fun c => c != 32) (kind_word _ hx) (kind_word _ hy) (eb _) (eb _) h1).1)
    rw [decide_eq_false e]
    unfold sameB
    rw [decide_eq_false hk]
    rfl
/-- a presence's bytes -/
def pL (q : P3) : List UInt8 := itoa q.1 ++ 47 :: (itoa q.2.1 ++ 47 :: itoa q.2.2)
def eL (q : Ev) : List UInt8 := quoteL q.us ++ 58 :: (pL (q.o1, q.o2, q.o3) ++ 62 :: (pL (q.n1, q.n2, q.n3) ++ 64 :: decDigits q.sq.toNat))
theorem LB_p (q : P3) : LB (pB q) = pL q := by
  unfold pB presB pL
  simp only [LB_app, LB_int, List.append_assoc]
  rfl
theorem LB_pres (a b c : Int) : LB (presB a b c) = pL (a, b, c) := LB_p (a, b, c)
theorem LB_e (q : Ev) : LB (eB q) = eL q := by
  unfold eB eventB eL
  simp only [LB_app, LB_pres, LB_dec, LB_quote, List.append_assoc]
  rfl
def lostL (b : Bool) : List (List UInt8) := if b then [[108, 111, 115, 116]] else []
theorem LB_told (q : RepW) : LB (joinB (toldB q)) = itoa q.err ++ blankL (q.vs.map pL ++ (q.es.map eL ++ lostL q.lost)) := by
  unfold toldB
  rw [List.cons_append, List.cons_append, LB_join, LB_int]
  congr 2
  rw [List.map_append, List.map_append, List.map_map, List.map_map, List.append_assoc]
  congr 1
  · exact List.map_congr_left fun q _ => LB_p q
  congr 1
  · exact List.map_congr_left fun q _ => LB_e q
  · cases q.lost <;> rfl
theorem pL_cancel {p q : P3} {l l' : List UInt8} (hl : NoMore digB l) (hl' : NoMore digB l') (h : pL p ++ l = pL q ++ l') : p = q ∧ l = l' := by
  obtain ⟨a, b, c⟩ := p
  obtain ⟨a', b', c'⟩ := q
  unfold pL at h
  simp only [List.append_assoc, List.cons_append] at h
  obtain ⟨rfl, g1⟩ := itoa_cancel (ends_cons rfl) (ends_cons rfl) h
  injection g1 with _ g2
  obtain ⟨rfl, g3⟩ := itoa_cancel (ends_cons rfl) (ends_cons rfl) g2
  injection g3 with _ g4
  obtain ⟨rfl, g5⟩ := itoa_cancel hl hl' g4
  exact ⟨rfl, g5⟩
theorem eL_cancel {p q : Ev} {l l' : List UInt8} (hp : 0 ≤ p.sq) (hq : 0 ≤ q.sq) (hl : NoMore digB l) (hl' : NoMore digB l') (h : eL p ++ l = eL q ++ l') : p = q ∧ l = l' := by
  unfold eL at h
  simp only [List.append_assoc, List.cons_append] at h
  obtain ⟨h1, g1⟩ := quoteL_cancel h
  injection g1 with _ g2
  obtain ⟨h2, g3⟩ := pL_cancel (ends_cons rfl) (ends_cons rfl) g2
  injection g3 with _ g4
  obtain ⟨h3, g5⟩ := pL_cancel (ends_cons rfl) (ends_cons rfl) g4
  injection g5 with _ g6
  obtain ⟨h4, g7⟩ := dec_cancel hl hl' g6
  refine ⟨?_, g7⟩
  cases p
  cases q
  simp only [Prod.mk.injEq] at h1 h2 h3 h4 hp hq ⊢
  obtain ⟨rfl, rfl, rfl⟩ := h2
  obtain ⟨rfl, rfl, rfl⟩ := h3
  subst h1
  congr 1
  omega
theorem evs_inj : ∀ {es es' : List Ev} {lo lo' : Bool}, (∀ e ∈ es, 0 ≤ e.sq) → (∀ e ∈ es', 0 ≤ e.sq) → blankL (es.map eL ++ lostL lo) = blankL (es'.map eL ++ lostL lo') → es = es' ∧ lo = lo'
  | [], [], lo, lo', _, _, h => ⟨rfl, by cases lo <;> cases lo' <;> first | rfl | cases h⟩
  | [], e :: es', lo, lo', _, _, h => by
    obtain ⟨l, hq⟩ := quoteL_head e.us
    cases lo
    · cases h
    · have h := tail_cons (show blankL [[108, 111, 115, 116]] = blankL (eL e :: (es'.map eL ++ lostL lo')) from h)
      unfold eL at h
      rw [hq] at h
      injection h with h _
      exact absurd h (by decide)
  | e :: es, [], lo, lo', _, _, h => by
    obtain ⟨l, hq⟩ := quoteL_head e.us
    cases lo'
    · cases h
    · have h := tail_cons (show blankL (eL e :: (es.map eL ++ lostL lo)) = blankL [[108, 111, 115, 116]] from h)
      unfold eL at h
      rw [hq] at h
      injection h with h _
      exact absurd h (by decide)
  | e :: es, e' :: es', lo, lo', hp, hp', h => by
    have h := tail_cons (show blankL (eL e :: (es.map eL ++ lostL lo)) = blankL (eL e' :: (es'.map eL ++ lostL lo')) from h)
    obtain ⟨h1, h2⟩ := eL_cancel (hp _ (List.mem_cons_self ..)) (hp' _ (List.mem_cons_self ..)) (blankL_ends rfl _) (blankL_ends rfl _) h
    obtain ⟨h3, h4⟩ := evs_inj (fun x hx => hp x (List.mem_cons_of_mem _ hx)) (fun x hx => hp' x (List.mem_cons_of_mem _ hx)) h2
    exact ⟨by rw [h1, h3], h4⟩
/-- what stands behind the values doesn't begin as a value does -/
theorem no_value {es : List Ev} {lo : Bool} {p : P3} {xs : List (List UInt8)} (h : blankL (es.map eL ++ lostL lo) = blankL (pL p :: xs)) : False := by
  obtain ⟨c, l, hc, hd⟩ := itoa_head p.1
  cases es with
  | nil =>
    cases lo
    · cases h
    · have h := tail_cons (show blankL [[108, 111, 115, 116]] = blankL (pL p :: xs) from h)
      unfold pL at h
      rw [hc] at h
      injection h with h _
      rw [← h] at hd
      exact absurd hd (by decide)
  | cons e es =>
    obtain ⟨l', hq⟩ := quoteL_head e.us
    have h := tail_cons (show blankL (eL e :: (es.map eL ++ lostL lo)) = blankL (pL p :: xs) from h)
    unfold eL at h
    unfold pL at h
    rw [hc, hq] at h
    injection h with h _
    rw [← h] at hd
    exact absurd hd (by decide)
theorem rest_inj : ∀ {vs vs' : List P3} {es es' : List Ev} {lo lo' : Bool}, (∀ e ∈ es, 0 ≤ e.sq) → (∀ e ∈ es', 0 ≤ e.sq) → blankL (vs.map pL ++ (es.map eL ++ lostL lo)) = blankL (vs'.map pL ++ (es'.map eL ++ lostL lo')) → vs = vs' ∧ es = es' ∧ lo = lo'
  | [], [], _, _, _, _, hp, hp', h => ⟨rfl, evs_inj hp hp' h⟩
  | [], v :: vs, _, _, _, _, _, _, h => (no_value h).elim
  | v :: vs, [], _, _, _, _, _, _, h => (no_value h.symm).elim
  | v :: vs, v' :: vs', es, es', lo, lo', hp, hp', h => by
    have h := tail_cons (show blankL (pL v :: (vs.map pL ++ (es.map eL ++ lostL lo))) = blankL (pL v' :: (vs'.map pL ++ (es'.map eL ++ lostL lo'))) from h)
    obtain ⟨h1, h2⟩ := pL_cancel (blankL_ends rfl _) (blankL_ends rfl _) h
    obtain ⟨h3, h4⟩ := rest_inj hp hp' h2
    exact ⟨by rw [h1, h3], h4⟩
theorem told_same (a b : RepW) (ha : ∀ e ∈ a.es, 0 ≤ e.sq) (hb : ∀ e ∈ b.es, 0 ≤ e.sq) : (joinB (toldB a) = joinB (toldB b)) ↔ (a.err = b.err ∧ a.lost = b.lost ∧ a.vs = b.vs ∧ a.es = b.es) := by
  constructor
  · intro h
    have h1 := congrArg LB h
    rw [LB_told, LB_told] at h1
    obtain ⟨h2, h3⟩ := itoa_cancel (blankL_ends rfl _) (blankL_ends rfl _) h1
    obtain ⟨h4, h5, h6⟩ := rest_inj ha hb h3
    exact ⟨h2, h6, h4, h5⟩
  · rintro ⟨h1, h2, h3, h4⟩
    refine LB_inj ?_
    rw [LB_told, LB_told, h1, h2, h3, h4]
end Opx
end Go.Proofs.YtdfonlbbohnfhaaDoor

/-
  What was told last of each user, kept in a list of pairs beside a book; what a change makes of it. General over programs.
-/
import Derived.Test.YtjjemdmbhgmiiaaBookV
namespace Go.Law
open Go.RowKit
/-- changes between two books: of each user at most one, from what was told last to what is told now -/
structure Tells (lt : ByteArray → ByteArray → Prop) (now : Int) (b b' : List (ByteArray × En)) (cs : List Ch) : Prop where
  mem : ∀ c ∈ cs, c.2.1 = toldK c.1 b ∧ c.2.2 = toldK c.1 b' ∧ c.2.2 = presS now (sesK c.1 b') ∧ c.2.1 ≠ c.2.2
  one : (cs.map (·.1)).Nodup
  rest : ∀ u, u ∉ cs.map (·.1) → toldK u b' = toldK u b
section
variable (lt : ByteArray → ByteArray → Prop) [DecidableRel lt]
omit [DecidableRel lt] in
theorem tells_sweep (ht : Tri lt) {now : Int} {b : List (ByteArray × En)} (h : Rises lt b) : Tells lt now b (sweepB now b) (sweepC now b) where
  mem c hc := by
    have h1 := mem_sweepC lt ht h hc
    have h2 := told_sweep lt ht (now := now) (u := c.1) h
    refine ⟨h1.1, by rw [h2]; exact h1.2.1, ?_, h1.2.2⟩
    rw [ses_sweep lt ht h]; exact h1.2.1
  one := by
    have := sweepC_rises lt (now := now) h
    rw [List.Nodup, List.pairwise_map]
    exact this.imp fun hlt => ht.ne hlt
  rest u hu := not_sweepC lt ht h fun q hq e => hu (by rw [← e]; exact List.mem_map_of_mem hq)
theorem tells_become (ht : Tri lt) {now : Int} {b : List (ByteArray × En)} (u : ByteArray) (ss : List Sn) : Tells lt now b (become lt u ss now b) (tells u ss now b) where
  mem c hc := by
    have h1 := tells_ne hc
    obtain ⟨rfl, h2⟩ := h1
    exact ⟨rfl, (told_become_same lt u ss now b).symm, by simp only; rw [ses_become_same], h2⟩
  one := by
    unfold tells
    split <;> simp
  rest v hv := by
    by_cases e : v = u
    · subst e
      unfold tells at hv
      split at hv
      · rename_i h; rw [told_become_same, h]
      · simp at hv
    · exact told_become_other lt ht e ss now b
end
/-- what was told last, by a list of pairs -/
def lookT (u : ByteArray) (nt : List (ByteArray × Pr)) : Pr := (getK u nt).getD (0, 0, 0)
/-- behind k of the changes -/
structure Mid (b b' : List (ByteArray × En)) (cs : List Ch) (k : Nat) (nt : List (ByteArray × Pr)) : Prop where
  one : (nt.map (·.1)).Nodup
  yes : ∀ u, u ∈ (cs.take k).map (·.1) → lookT u nt = toldK u b'
  no : ∀ u, u ∉ (cs.take k).map (·.1) → lookT u nt = toldK u b
theorem Mid.start {b b' : List (ByteArray × En)} {cs : List Ch} {nt : List (ByteArray × Pr)} (h1 : (nt.map (·.1)).Nodup) (h2 : ∀ u, lookT u nt = toldK u b) : Mid b b' cs 0 nt := ⟨h1, fun u hu => by simp at hu, fun u _ => h2 u⟩
theorem Mid.fin {lt : ByteArray → ByteArray → Prop} {now : Int} {b b' : List (ByteArray × En)} {cs : List Ch} {nt : List (ByteArray × Pr)} (h : Mid b b' cs cs.length nt) (ht : Tells lt now b b' cs) : (nt.map (·.1)).Nodup ∧ ∀ u, lookT u nt = toldK u b' :=
  ⟨h.one, fun u => by
    have h1 := h.yes u
    have h2 := h.no u
    rw [List.take_length] at h1 h2
    by_cases hu : u ∈ cs.map (·.1)
    · exact h1 hu
    · rw [h2 hu, ht.rest u hu]⟩
theorem Tells.fresh {lt : ByteArray → ByteArray → Prop} {now : Int} {b b' : List (ByteArray × En)} {cs : List Ch} (ht : Tells lt now b b' cs) {k : Nat} (hk : k < cs.length) : cs[k].1 ∉ (cs.take k).map (·.1) := by
  intro hm
  obtain ⟨i, hi, e⟩ := List.mem_iff_getElem.1 hm
  simp at hi
  have h1 := ht.one
  rw [List.Nodup, List.pairwise_iff_getElem] at h1
  have := h1 i k (by simp; omega) (by simpa using hk) (by omega)
  simp at e this
  exact this e
theorem Mid.old {lt : ByteArray → ByteArray → Prop} {now : Int} {b b' : List (ByteArray × En)} {cs : List Ch} {nt : List (ByteArray × Pr)} {k : Nat} (h : Mid b b' cs k nt) (ht : Tells lt now b b' cs) (hk : k < cs.length) : lookT cs[k].1 nt = cs[k].2.1 := by
  rw [h.no _ (ht.fresh hk)]
  exact ((ht.mem _ (List.getElem_mem hk)).1).symm
theorem getK_notin {u : ByteArray} {nt : List (ByteArray × Pr)} (h : u ∉ nt.map (·.1)) : getK u nt = none := getK_none fun p hp e => h (by rw [← e]; exact List.mem_map_of_mem hp)
theorem getK_or {u : ByteArray} : ∀ {xs ys : List (ByteArray × Pr)}, getK u (xs ++ ys) = (getK u xs).or (getK u ys)
  | [], _ => by simp [getK]
  | p :: r, ys => by
    rw [List.cons_append, getK, getK]
    split
    · rfl
    · exact getK_or
/-- a user of whom nothing was told so far -/
theorem Mid.new {lt : ByteArray → ByteArray → Prop} {now : Int} {b b' : List (ByteArray × En)} {cs : List Ch} {nt : List (ByteArray × Pr)} {k : Nat} (h : Mid b b' cs k nt) (ht : Tells lt now b b' cs) (hk : k < cs.length) (hn : cs[k].1 ∉ nt.map (·.1)) : Mid b b' cs (k + 1) (nt ++ [(cs[k].1, cs[k].2.2)]) where
  one := by
    rw [List.map_append, List.nodup_append]
    refine ⟨h.one, by simp, ?_⟩
    intro a ha c hc
    simp at hc
    subst hc
    intro e
    subst e
    exact hn ha
  yes u hu := by
    have hm := (ht.mem _ (List.getElem_mem hk)).2.1
    unfold lookT
    rw [getK_or]
    by_cases e : u = cs[k].1
    · subst e
      rw [getK_notin hn]
      simp [getK, hm]
    · rw [List.take_succ_eq_append_getElem hk, List.map_append, List.mem_append] at hu
      have hu' : u ∈ (cs.take k).map (·.1) := hu.elim id (fun h' => by simp at h'; exact absurd h' e)
      have h1 := h.yes u hu'
      unfold lookT at h1
      have h2 : getK u [(cs[k].1, cs[k].2.2)] = none := by rw [getK, if_neg (fun e' => e e'.symm)]; rfl
      rw [h2, Option.or_none, h1]
  no u hu := by
    rw [List.take_succ_eq_append_getElem hk, List.map_append, List.mem_append] at hu
    have e : u ≠ cs[k].1 := fun e => hu (.inr (by simp [e]))
    have h1 := h.no u (fun h' => hu (.inl h'))
    unfold lookT at *
    have h2 : getK u [(cs[k].1, cs[k].2.2)] = none := by rw [getK, if_neg (fun e' => e e'.symm)]; rfl
    rw [getK_or, h2, Option.or_none, h1]
theorem set_keys {nt : List (ByteArray × Pr)} {i : Nat} (hi : i < nt.length) (v : Pr) : (nt.set i (nt[i].1, v)).map (·.1) = nt.map (·.1) := by
  rw [List.map_set]
  have e : nt[i].1 = (nt.map (·.1))[i]'(by simpa using hi) := by simp
  simp only
  rw [e, List.set_getElem_self]
theorem getK_at {nt : List (ByteArray × Pr)} (h1 : (nt.map (·.1)).Nodup) {i : Nat} (hi : i < nt.length) : getK nt[i].1 nt = some nt[i].2 := by
  induction nt generalizing i with
  | nil => simp at hi
  | cons p r ih =>
    rw [List.map_cons, List.nodup_cons] at h1
    cases i with
    | zero => simp [getK]
    | succ i =>
      simp only [List.getElem_cons_succ]
      rw [getK, if_neg, ih h1.2]
      intro e
      exact h1.1 (by rw [e]; exact List.mem_map_of_mem (List.getElem_mem _))
theorem getK_set_same {nt : List (ByteArray × Pr)} (h1 : (nt.map (·.1)).Nodup) {i : Nat} (hi : i < nt.length) (v : Pr) : getK nt[i].1 (nt.set i (nt[i].1, v)) = some v := by
  have hn : ((nt.set i (nt[i].1, v)).map (·.1)).Nodup := by rw [set_keys hi]; exact h1
  have := getK_at hn (i := i) (by simpa using hi)
  simpa using this
theorem getK_set_other {u : ByteArray} : ∀ {nt : List (ByteArray × Pr)} {i : Nat} (hi : i < nt.length) (v : Pr), u ≠ nt[i].1 → getK u (nt.set i (nt[i].1, v)) = getK u nt
  | [], _, hi, _, _ => by simp at hi
  | p :: r, 0, _, v, h => by
    simp only [List.getElem_cons_zero] at h
    rw [List.set_cons_zero, getK, getK, if_neg (fun e => h e.symm), if_neg (fun e => h e.symm)]
  | p :: r, i + 1, hi, v, h => by
    simp only [List.getElem_cons_succ] at h
    rw [List.set_cons_succ, getK, getK]
    split
    · rfl
    · exact getK_set_other (by simpa using hi) v h
/-- a user of whom something was told -/
theorem Mid.again {lt : ByteArray → ByteArray → Prop} {now : Int} {b b' : List (ByteArray × En)} {cs : List Ch} {nt : List (ByteArray × Pr)} {k : Nat} (h : Mid b b' cs k nt) (ht : Tells lt now b b' cs) (hk : k < cs.length) {i : Nat} (hi : i < nt.length) (hn : nt[i].1 = cs[k].1) : nt[i].2 = cs[k].2.1 ∧ Mid b b' cs (k + 1) (nt.set i (nt[i].1, cs[k].2.2)) := by
  have hm := (ht.mem _ (List.getElem_mem hk)).2.1
  refine ⟨?_, ?_, fun u hu => ?_, fun u hu => ?_⟩
  · have := h.old ht hk
    unfold lookT at this
    rw [← hn, getK_at h.one hi] at this
    exact this
  · rw [set_keys hi]; exact h.one
  · unfold lookT
    by_cases e : u = cs[k].1
    · rw [e, ← hn, getK_set_same h.one hi, hn, ← hm]
      rfl
    · rw [List.take_succ_eq_append_getElem hk, List.map_append, List.mem_append] at hu
      have hu' : u ∈ (cs.take k).map (·.1) := hu.elim id (fun h' => by simp at h'; exact absurd h' e)
      have h1 := h.yes u hu'
      unfold lookT at h1
      rw [getK_set_other hi _ (by rw [hn]; exact e), h1]
  · rw [List.take_succ_eq_append_getElem hk, List.map_append, List.mem_append] at hu
    have e : u ≠ cs[k].1 := fun e => hu (.inr (by simp [e]))
    have h1 := h.no u (fun h' => hu (.inl h'))
    unfold lookT at *
    rw [getK_set_other hi _ (by rw [hn]; exact e), h1]
/-! ### Rows of presences -/
def cellsP (q : Pr) : List Value := [.int .i64 q.1, .int .i64 q.2.1, .int .i64 q.2.2]
def flatP (l : List Pr) : List Value := l.flatMap cellsP
theorem flatP_length (l : List Pr) : (flatP l).length = l.length * 3 := rows_length (cells := cellsP) (fun _ => rfl) l
theorem flatP_app (xs ys : List Pr) : flatP (xs ++ ys) = flatP xs ++ flatP ys := List.flatMap_append
theorem flatP_set : ∀ (l : List Pr) (i : Nat) (q : Pr), i < l.length → (((flatP l).set (i * 3) (.int .i64 q.1)).set (i * 3 + 1) (.int .i64 q.2.1)).set (i * 3 + 2) (.int .i64 q.2.2) = flatP (l.set i q)
  | [], _, _, h => by simp at h
  | p :: r, 0, q, _ => by simp [flatP, cellsP]
  | p :: r, i + 1, q, h => by
    have ih := flatP_set r i q (by simpa using h)
    have e : flatP (p :: r) = .int .i64 p.1 :: .int .i64 p.2.1 :: .int .i64 p.2.2 :: flatP r := rfl
    rw [e, List.set_cons_succ, show (i + 1) * 3 = i * 3 + 1 + 1 + 1 by omega]
    simp only [List.set_cons_succ, show i * 3 + 1 + 1 + 1 + 1 = (i * 3 + 1) + 1 + 1 + 1 by omega, show i * 3 + 1 + 1 + 1 + 2 = (i * 3 + 2) + 1 + 1 + 1 by omega]
    rw [ih]
    rfl
/-- a store into an own row -/
theorem own_set {w : World} {base size n cap g i : Nat} {e : TypeId} {xs : List Value} (h : w.ownsRow base e size (.slice (some ⟨g, 0, none⟩) n cap) n xs) (u : Value) : (w.setCell ⟨g, i, none⟩ u).ownsRow base e size (.slice (some ⟨g, 0, none⟩) n cap) n (xs.set i u) := by
  rcases h with ⟨h1, ⟨h2, _⟩ | ⟨g', cap', cur, h2, h3, h4, h5, h6, h7, h8⟩⟩
  · cases h2
  · injection h2 with ha hn hc
    injection ha with ha
    injection ha with ha
    subst ha hc
    refine ⟨by simpa using h1, .inr ⟨g, cap, cur.setIfInBounds i u, rfl, h3, (Is.set (w := w) (g := g) (t := e) h4 i u rfl), h5, h6, by simpa using h7, ?_⟩⟩
    rw [← h8, Array.toList_setIfInBounds, List.take_set]
theorem Drawn.keeps {t : TypeId} {w wr : World} (h : Drawn w wr) : Keeps t w wr := by obtain ⟨d, rfl⟩ := h; exact Keeps.drewN t w d
theorem Drawn.own {w wr : World} (h : Drawn w wr) {base : Nat} {e : TypeId} {size n : Nat} {v : Value} {xs : List Value} (ho : w.ownsRow base e size v n xs) : wr.ownsRow base e size v n xs := by obtain ⟨d, rfl⟩ := h; exact own_drewN ho d
theorem own_own_ne {w : World} {base base' : Nat} {e e' : TypeId} {size size' n n' : Nat} {v v' : Value} {xs xs' : List Value} (h : w.ownsRow base e size v n xs) (h' : w.ownsRow base' e' size' v' n' xs') (he : e ≠ e') : v'.ownBlock = none ∨ v'.ownBlock ≠ v.ownBlock := by
  rcases h'.2 with ⟨rfl, _⟩ | ⟨g, cap, cur, rfl, _, hh, _⟩
  · exact .inl rfl
  · exact .inr fun e2 => own_ne h (g := g) (t := e') (cs := cur) hh he e2.symm
theorem own_keeps {w w' : World} {base : Nat} {e : TypeId} {size n : Nat} {v : Value} {xs : List Value} (h : w.ownsRow base e size v n xs) (hk : Keeps e w w') : w'.ownsRow base e size v n xs := by
  rcases h with ⟨h1, ⟨h2, h3⟩ | ⟨g, cap, cur, h2, h3, h4, h5⟩⟩
  · exact ⟨h1, .inl ⟨h2, h3⟩⟩
  · exact ⟨h1, .inr ⟨g, cap, cur, h2, h3, hk.is h4, h5⟩⟩
theorem set_names {nt : List (ByteArray × Pr)} {i : Nat} {u : ByteArray} {o : Pr} (h : nt[i]? = some (u, o)) (v : Pr) : (nt.set i (u, v)).map (fun q => Value.string q.1) = nt.map fun q => Value.string q.1 := by
  obtain ⟨hi, he⟩ := List.getElem?_eq_some_iff.1 h
  rw [List.map_set]
  have e : Value.string u = (nt.map fun q => Value.string q.1)[i]'(by simpa using hi) := by simp [he]
  simp only
  rw [e, List.set_getElem_self]
/-- three stores into a block of another type -/
theorem Keeps.store3 {t t' : TypeId} {w : World} {g i1 i2 i3 : Nat} {cs : Array Value} (hg : Is w g t' cs) (ht : t ≠ t') (u1 u2 u3 : Value) : Keeps t w (((w.setCell ⟨g, i1, none⟩ u1).setCell ⟨g, i2, none⟩ u2).setCell ⟨g, i3, none⟩ u3) :=
  ((Keeps.store (i := i1) hg ht u1).trans (Keeps.store (i := i2) (hg.set i1 u1 rfl) ht u2)).trans (Keeps.store (i := i3) ((hg.set i1 u1 rfl).set i2 u2 rfl) ht u3)
end Go.Law

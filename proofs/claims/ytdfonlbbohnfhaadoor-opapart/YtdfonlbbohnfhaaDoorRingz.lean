/-
  A queue in memory, as in Rings, whose items take z cells each. General over programs. (Made by mkringz.py.)
-/
import Derived.Test.YtdfonlbbohnfhaaDoorRings
import Derived.Test.YtdfonlbbohnfhaaDoorMoves
import Derived.Test.YtdfonlbbohnfhaaDoorTrees
namespace Go.Law
open Go.RowKit
/-- block b is a queue with room for so many, and v is its items' slice; all its blocks are of S -/
structure RingzV (t e : TypeId) (z : Nat) (w : World) (base : Nat) (S : Nat → Prop) (b room : Nat) (v : Value) (n : Nat) (xs : List Value) (lost : Bool) : Prop where
  box : Is w b t #[.int .i64 (room : Int), v, .bool lost]
  row : w.ownsRow 0 e z v n xs
  inn : S b
  own : ∀ g, v.ownBlock = some g → S g
  ok : ∀ k, S k → base ≤ k ∧ k < w.heap.size
def Ringz (t e : TypeId) (z : Nat) (w : World) (base : Nat) (S : Nat → Prop) (b room n : Nat) (xs : List Value) (lost : Bool) : Prop := ∃ v, RingzV t e z w base S b room v n xs lost
section
variable {t e : TypeId} {z : Nat} {w w' : World} {base b room n : Nat} {S T : Nat → Prop} {v : Value} {xs : List Value} {lost : Bool}
theorem Ringz.touch (h : Ringz t e z w base S b room n xs lost) (ht : Touch w w' T) (hd : ∀ k, S k → ¬ T k) : Ringz t e z w' base S b room n xs lost := by
  obtain ⟨v, h⟩ := h
  exact ⟨v, ht.is h.box (hd _ h.inn), ht.own h.row (fun g hg => hd _ (h.own g hg)), h.inn, h.own, fun k hk => ⟨(h.ok k hk).1, Nat.lt_of_lt_of_le (h.ok k hk).2 ht.size⟩⟩
theorem Ringz.below (h : Ringz t e z w base S b room n xs lost) (hb : Below w.heap.size w w') : Ringz t e z w' base S b room n xs lost := h.touch (Touch.of_below hb fun _ => False) (fun _ _ h => h)
theorem Ringz.ok (h : Ringz t e z w base S b room n xs lost) : ∀ k, S k → base ≤ k ∧ k < w.heap.size := by obtain ⟨v, h⟩ := h; exact h.ok
theorem Ringz.lt (h : Ringz t e z w base S b room n xs lost) : b < w.heap.size := by obtain ⟨v, h⟩ := h; exact h.box.lt
theorem Ringz.inn (h : Ringz t e z w base S b room n xs lost) : S b := by obtain ⟨v, h⟩ := h; exact h.inn
/-- a new queue -/
theorem Ringz.new (t e : TypeId) (z : Nat) (w : World) (base room : Nat) (hb : base ≤ w.heap.size) {g : Nat} (hg : g = w.heap.size) : Ringz t e z (w.alloc (.cells #[.int .i64 (room : Int), .slice none 0 0, .bool false] t)) base (fun k => k = g) g room 0 [] false := by
  subst hg
  exact ⟨.slice none 0 0, Is.new _ _ _ rfl, World.ownsRow_nil _ _ _ _, rfl, fun g h => by simp [Value.ownBlock] at h, fun k hk => by subst hk; simp; omega⟩
/-- nothing more went in: it is marked -/
theorem RingzV.mark (h : RingzV t e z w base S b room v n xs lost) (hte : e ≠ t) : Ringz t e z (w.setCell ⟨b, 2, none⟩ (.bool true)) base S b room n xs true :=
  ⟨v, h.box.set 2 _ rfl, (Touch.store (T := fun k => k = b) w ⟨b, 2, none⟩ _ rfl).own h.row (fun g hg e' => own_ne h.row h.box hte (e' ▸ hg)), h.inn, h.own, fun k hk => by have := h.ok k hk; simpa using this⟩
/-- one more went in -/
theorem RingzV.next (h : RingzV t e z w base S b room v n xs lost) (hte : e ≠ t) (hb : base ≤ w.heap.size) {w1 : World} {v' : Value} {us : List Value} {o : Obj} (hown : w1.ownsRow 0 e z v' (n + 1) (xs ++ us)) (hg : (w.alloc o).grownBy w1 v.ownBlock)
    (hv : v'.ownBlock = v.ownBlock ∨ v'.ownBlock = some (w.alloc o).heap.size) :
    Is w1 b t #[.int .i64 (room : Int), v, .bool lost] ∧ Ringz t e z (w1.setCell ⟨b, 1, none⟩ v') base (fun k => S k ∨ w.heap.size ≤ k ∧ k < w1.heap.size) b room (n + 1) (xs ++ us) lost ∧ Touch w (w1.setCell ⟨b, 1, none⟩ v') S := by
  have hne := own_ne h.row h.box hte
  have hI : Is w1 b t #[.int .i64 (room : Int), v, .bool lost] := (h.box.alloc o).grown hg hne
  have hne' := own_ne hown hI hte
  have ht : Touch w (w1.setCell ⟨b, 1, none⟩ v') S := ((Touch.alloc w o S).trans (Touch.grown hg h.own) (fun k hk => .inl hk)).trans (Touch.store w1 ⟨b, 1, none⟩ v' h.inn) (fun k hk => .inl hk)
  have hs1 : w.heap.size ≤ w1.heap.size := by have := hg.size; simp at this; omega
  refine ⟨hI, ⟨v', hI.set 1 v' rfl, ?_, .inl h.inn, ?_, ?_⟩, ht⟩
  · exact (Touch.store (T := fun k => k = b) w1 ⟨b, 1, none⟩ v' rfl).own hown (fun g hg e' => hne' (e' ▸ hg))
  · intro g hg'
    rcases hv with hv | hv
    · exact .inl (h.own g (hv ▸ hg'))
    · right
      have e1 : (w.alloc o).heap.size = g := Option.some.inj (hv.symm.trans hg')
      have := (hown.lt g hg').2
      simp at e1
      omega
  · intro k hk
    have : (w1.setCell ⟨b, 1, none⟩ v').heap.size = w1.heap.size := by simp
    rw [this]
    rcases hk with hk | ⟨hk, hk'⟩
    · have := h.ok k hk; omega
    · omega
/-- it was emptied -/
theorem RingzV.emptied (h : RingzV t e z w base S b room v n xs lost) : Ringz t e z ((w.setCell ⟨b, 1, none⟩ (.slice none 0 0)).setCell ⟨b, 2, none⟩ (.bool false)) base S b room 0 [] false :=
  ⟨.slice none 0 0, (h.box.set 1 (.slice none 0 0) rfl).set 2 (.bool false) rfl, World.ownsRow_nil _ _ _ _, h.inn, fun g h => by simp [Value.ownBlock] at h, fun k hk => by have := h.ok k hk; simpa using this⟩
theorem RingzV.below (h : RingzV t e z w base S b room v n xs lost) (hb : Below w.heap.size w w') : RingzV t e z w' base S b room v n xs lost :=
  ⟨h.box.below hb h.box.lt, own_below h.row hb, h.inn, h.own, fun k hk => ⟨(h.ok k hk).1, Nat.lt_of_lt_of_le (h.ok k hk).2 hb.size⟩⟩
theorem RingzV.drewN (h : RingzV t e z w base S b room v n xs lost) (n' : Nat) : RingzV t e z (w.drewN n') base S b room v n xs lost := ⟨h.box, h.row, h.inn, h.own, h.ok⟩
end
/-- only one block of another type has turned -/
theorem Keeps.touch1 {t t' : TypeId} {w w' : World} {g : Nat} {cs : Array Value} (h : Touch w w' (fun k => k = g)) (hi : Is w g t' cs) (ht : t ≠ t') : Keeps t w w' :=
  ⟨h.size, fun hb => (h.block _ hb.lt (fun e => (hb.type_ne hi ht) e)).trans hb⟩
/-- append of what lies at an address, inside a region that draws; in which block the row lies behind it -/
theorem step_append_at {P : Program} {w : World} {base : Nat} {t e : TypeId} {i : TypeInfo} {z : Value} {size bytes : Nat} {ops : Array Oper} {o : Oper} {a : Act} {K : Act → World → Prop} {Q : Exit → Act → World → Prop} {X : Prop} (hgd : o.guard = none) (s x : Operand)
    (ho : o.op = .call { callee := .builtin .append, args := #[s, x], argTypes := #[t, t] }) (E : Elem P t e i z size bytes)
    (v : Value) (n : Nat) (xs : List Value) (hs : a.eval s = v) (hown : w.ownsRow base e size v n xs)
    (ad : Addr) (m c : Nat) (news : List Value) (hx : a.eval x = .slice (some ad) m c) (hl : news.length = m * size) (hnews : ∀ j u, news[j]? = some u → w.cell? (ad.add j) = some u) (h1 : ∀ u ∈ news, u.oneCell' = true)
    (h63 : n + m ≤ maxLen) (hbytes : (n + m) * bytes ≤ 140737488355328) (hbase : base ≤ w.heap.size)
    (h : ∀ v' w', w'.ownsRow base e size v' (n + m) (xs ++ news) → w.grownBy w' v.ownBlock → (v'.ownBlock = v.ownBlock ∨ v'.ownBlock = some w.heap.size) → K (a.put o.dst v') w') :
    if Region.wanted o (yielded ops a.tmps) = true then Oper.wp P o a w K Q else X := by
  rw [if_pos (by simp [Region.wanted, hgd])]
  obtain ⟨v', w', hrun, h2, h3, _, h5⟩ := run_append_own_at (P := P) w base t o.type e i z size bytes E.ut E.info E.zero E.sz E.by_ E.cells E.pos v n xs hown ad m c news hl hnews h1 h63 hbytes hbase
  unfold Oper.wp execOp
  simp only [ho, resolve, invoke, builtin, Sem.run_bind, Sem.run_pure, Result.andThen_ok, List.map_toArray, List.map_cons, List.map_nil, hs, hx, hrun]
  exact h v' w' h2 h3 h5
end Go.Law

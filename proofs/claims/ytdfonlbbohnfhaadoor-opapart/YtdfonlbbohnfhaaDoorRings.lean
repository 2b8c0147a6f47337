/-
  A queue in memory: a block of three cells (its room, its items' slice, whether something was lost) and the slice's own row; which blocks a call may turn. General over programs.
-/
import Derived.Test.YtdfonlbbohnfhaaDoorSlices
import Derived.RangeFuncBox
import Derived.Maps.AppendAt
namespace Go.Law
open Go.RowKit

/-- of the blocks that lay in w only those of T may have turned -/
structure Touch (w w' : World) (T : Nat → Prop) : Prop where
  os : w'.os = w.os
  tape : w'.tape = w.tape
  output : w'.output = w.output
  size : w.heap.size ≤ w'.heap.size
  block : ∀ k, k < w.heap.size → ¬ T k → w'.heap[k]? = w.heap[k]?
section
variable {w w' w'' : World} {T T' : Nat → Prop}
theorem Touch.refl (w : World) (T : Nat → Prop) : Touch w w T := ⟨rfl, rfl, rfl, Nat.le_refl _, fun _ _ _ => rfl⟩
theorem Touch.trans (h : Touch w w' T) (h' : Touch w' w'' T') (hT : ∀ k, T' k → T k ∨ w.heap.size ≤ k) : Touch w w'' T :=
  ⟨h'.os.trans h.os, h'.tape.trans h.tape, h'.output.trans h.output, Nat.le_trans h.size h'.size, fun k hk hn =>
    (h'.block k (Nat.lt_of_lt_of_le hk h.size) (fun e => by rcases hT k e with e | e; exact hn e; omega)).trans (h.block k hk hn)⟩
theorem Touch.mono (h : Touch w w' T) (hT : ∀ k, T k → T' k) : Touch w w' T' := ⟨h.os, h.tape, h.output, h.size, fun k hk hn => h.block k hk fun e => hn (hT k e)⟩
theorem Touch.grown {row : Option Nat} (hg : w.grownBy w' row) (h : ∀ k, row = some k → T k) : Touch w w' T :=
  ⟨hg.os, hg.tape, hg.output, hg.size, fun k hk hn => hg.block k hk fun e => hn (h k e.symm)⟩
theorem Touch.alloc (w : World) (o : Obj) (T : Nat → Prop) : Touch w (w.alloc o) T := Touch.grown (World.grownBy_alloc w o none) (fun _ h => by cases h)
theorem Touch.store (w : World) (p : Addr) (u : Value) (h : T p.block) : Touch w (w.setCell p u) T :=
  ⟨rfl, rfl, rfl, by simp, fun k _ hn => Below.heap_setCell w p u k (fun e => hn (by rw [e]; exact h))⟩
theorem Touch.of_below (hb : Below w.heap.size w w') (T : Nat → Prop) : Touch w w' T := ⟨hb.os, hb.tape, hb.output, hb.size, fun k hk _ => hb.block k hk⟩
theorem Touch.below {B : Nat} {a : World} (h : Touch w w' T) (hb : Below B a w) (hT : ∀ k, T k → B ≤ k) (hs : B ≤ w.heap.size) : Below B a w' :=
  hb.trans ⟨h.os, h.tape, h.output, h.size, fun k hk => h.block k (by omega) (fun e => by have := hT k e; omega)⟩
theorem Touch.is {g : Nat} {t : TypeId} {cs : Array Value} (h : Touch w w' T) (hi : Is w g t cs) (hg : ¬ T g) : Is w' g t cs := (h.block g hi.lt hg).trans hi
theorem Touch.own {base : Nat} {e : TypeId} {size n : Nat} {v : Value} {xs : List Value} (h : Touch w w' T) (ho : w.ownsRow base e size v n xs) (hg : ∀ g, v.ownBlock = some g → ¬ T g) : w'.ownsRow base e size v n xs := by
  refine ⟨ho.1, ?_⟩
  rcases ho.2 with hn | ⟨g, cap, cur, rfl, hb, hgg, rest⟩
  · exact .inl hn
  · exact .inr ⟨g, cap, cur, rfl, hb, (h.block g (Array.getElem?_eq_some_iff.1 hgg).1 (hg g rfl)).trans hgg, rest⟩
theorem Touch.seq {lo B : Nat} {A : Option Addr} {xs : List Value} (h : Touch w w' T) (hs : Seq w lo B A xs) (hB : B ≤ w.heap.size) (hT : ∀ k, T k → k < lo ∨ B ≤ k) : Seq w' lo B A xs :=
  hs.keep fun p h1 h2 => World.cell?_of_block (h.block p.block (by omega) fun e => by have := hT _ e; omega)
end

/-- block b is a queue with room for so many, and v is its items' slice; all its blocks are of S -/
structure RingV (t e : TypeId) (w : World) (base : Nat) (S : Nat → Prop) (b room : Nat) (v : Value) (xs : List Value) (lost : Bool) : Prop where
  box : Is w b t #[.int .i64 (room : Int), v, .bool lost]
  row : w.ownsRow 0 e 1 v xs.length xs
  inn : S b
  own : ∀ g, v.ownBlock = some g → S g
  ok : ∀ k, S k → base ≤ k ∧ k < w.heap.size
def Ring (t e : TypeId) (w : World) (base : Nat) (S : Nat → Prop) (b room : Nat) (xs : List Value) (lost : Bool) : Prop := ∃ v, RingV t e w base S b room v xs lost
section
variable {t e : TypeId} {w w' : World} {base b room : Nat} {S T : Nat → Prop} {v : Value} {xs : List Value} {lost : Bool}
theorem Ring.touch (h : Ring t e w base S b room xs lost) (ht : Touch w w' T) (hd : ∀ k, S k → ¬ T k) : Ring t e w' base S b room xs lost := by
  obtain ⟨v, h⟩ := h
  exact ⟨v, ht.is h.box (hd _ h.inn), ht.own h.row (fun g hg => hd _ (h.own g hg)), h.inn, h.own, fun k hk => ⟨(h.ok k hk).1, Nat.lt_of_lt_of_le (h.ok k hk).2 ht.size⟩⟩
theorem Ring.below (h : Ring t e w base S b room xs lost) (hb : Below w.heap.size w w') : Ring t e w' base S b room xs lost := h.touch (Touch.of_below hb fun _ => False) (fun _ _ h => h)
theorem Ring.ok (h : Ring t e w base S b room xs lost) : ∀ k, S k → base ≤ k ∧ k < w.heap.size := by obtain ⟨v, h⟩ := h; exact h.ok
theorem Ring.lt (h : Ring t e w base S b room xs lost) : b < w.heap.size := by obtain ⟨v, h⟩ := h; exact h.box.lt
theorem Ring.inn (h : Ring t e w base S b room xs lost) : S b := by obtain ⟨v, h⟩ := h; exact h.inn
/-- a new queue -/
theorem Ring.new (t e : TypeId) (w : World) (base room : Nat) (hb : base ≤ w.heap.size) {g : Nat} (hg : g = w.heap.size) : Ring t e (w.alloc (.cells #[.int .i64 (room : Int), .slice none 0 0, .bool false] t)) base (fun k => k = g) g room [] false := by
  subst hg
  exact ⟨.slice none 0 0, Is.new _ _ _ rfl, World.ownsRow_nil _ _ _ _, rfl, fun g h => by simp [Value.ownBlock] at h, fun k hk => by subst hk; simp; omega⟩
/-- nothing more went in: it is marked -/
theorem RingV.mark (h : RingV t e w base S b room v xs lost) (hte : e ≠ t) : Ring t e (w.setCell ⟨b, 2, none⟩ (.bool true)) base S b room xs true :=
  ⟨v, h.box.set 2 _ rfl, (Touch.store (T := fun k => k = b) w ⟨b, 2, none⟩ _ rfl).own h.row (fun g hg e' => own_ne h.row h.box hte (e' ▸ hg)), h.inn, h.own, fun k hk => by have := h.ok k hk; simpa using this⟩
/-- one more went in -/
theorem RingV.next (h : RingV t e w base S b room v xs lost) (hte : e ≠ t) (hb : base ≤ w.heap.size) {w1 : World} {v' u : Value} {o : Obj} (hown : w1.ownsRow 0 e 1 v' (xs.length + 1) (xs ++ [u])) (hg : (w.alloc o).grownBy w1 v.ownBlock)
    (hv : v'.ownBlock = v.ownBlock ∨ v'.ownBlock = some (w.alloc o).heap.size) :
    Is w1 b t #[.int .i64 (room : Int), v, .bool lost] ∧ Ring t e (w1.setCell ⟨b, 1, none⟩ v') base (fun k => S k ∨ w.heap.size ≤ k ∧ k < w1.heap.size) b room (xs ++ [u]) lost ∧ Touch w (w1.setCell ⟨b, 1, none⟩ v') S := by
  have hne := own_ne h.row h.box hte
  have hI : Is w1 b t #[.int .i64 (room : Int), v, .bool lost] := (h.box.alloc o).grown hg hne
  have hne' := own_ne hown hI hte
  have ht : Touch w (w1.setCell ⟨b, 1, none⟩ v') S := ((Touch.alloc w o S).trans (Touch.grown hg h.own) (fun k hk => .inl hk)).trans (Touch.store w1 ⟨b, 1, none⟩ v' h.inn) (fun k hk => .inl hk)
  have hs1 : w.heap.size ≤ w1.heap.size := by have := hg.size; simp at this; omega
  refine ⟨hI, ⟨v', hI.set 1 v' rfl, ?_, .inl h.inn, ?_, ?_⟩, ht⟩
  · have := (Touch.store (T := fun k => k = b) w1 ⟨b, 1, none⟩ v' rfl).own hown (fun g hg e' => hne' (e' ▸ hg))
    simpa using this
  · intro g hg'
    rcases hv with hv | hv
    · exact .inl (h.own g (hv ▸ hg'))
    · right
      have e1 : (w.alloc o).heap.size = g := Option.some.inj (hv.symm.trans hg')
      have := (hown.lt g hg').2
      simp at e1
      omega
  · intro k hk
    have : (w1.setCell ⟨b, 1, none⟩ v').heap.size = w1.heap.size := by simp
    rw [this]
    rcases hk with hk | ⟨hk, hk'⟩
    · have := h.ok k hk; omega
    · omega
/-- it was emptied -/
theorem RingV.emptied (h : RingV t e w base S b room v xs lost) : Ring t e ((w.setCell ⟨b, 1, none⟩ (.slice none 0 0)).setCell ⟨b, 2, none⟩ (.bool false)) base S b room [] false :=
  ⟨.slice none 0 0, (h.box.set 1 (.slice none 0 0) rfl).set 2 (.bool false) rfl, World.ownsRow_nil _ _ _ _, h.inn, fun g h => by simp [Value.ownBlock] at h, fun k hk => by have := h.ok k hk; simpa using this⟩
theorem RingV.below (h : RingV t e w base S b room v xs lost) (hb : Below w.heap.size w w') : RingV t e w' base S b room v xs lost :=
  ⟨h.box.below hb h.box.lt, own_below h.row hb, h.inn, h.own, fun k hk => ⟨(h.ok k hk).1, Nat.lt_of_lt_of_le (h.ok k hk).2 hb.size⟩⟩
theorem Touch.putObj (w : World) (l : Nat) (o : Obj) : Touch w (w.putObj l o) (fun k => k = l) := Touch.grown (grownBy_putObj' w l o) (fun _ h => Option.some.inj h.symm)
theorem Touch.drewN (w : World) (n : Nat) (T : Nat → Prop) : Touch w (w.drewN n) T := ⟨rfl, rfl, rfl, Nat.le_refl _, fun _ _ _ => rfl⟩
theorem RingV.drewN (h : RingV t e w base S b room v xs lost) (n : Nat) : RingV t e (w.drewN n) base S b room v xs lost := ⟨h.box, h.row, h.inn, h.own, h.ok⟩
end
theorem one_str (s : ByteArray) : ∀ u ∈ [Value.string s], u.oneCell' = true := by
  intro u hu; simp at hu; subst hu; rfl
/-- what Put makes of what lies in a queue -/
def putL {α : Type} (room : Nat) (zs : List α) (x : α) : List α := if zs.length < room then zs ++ [x] else zs
theorem putL_yes {α : Type} {room : Nat} {zs : List α} {x : α} (h : zs.length < room) : putL room zs x = zs ++ [x] := by simp [putL, h]
theorem putL_no {α : Type} {room : Nat} {zs : List α} {x : α} (h : ¬ zs.length < room) : putL room zs x = zs := by simp [putL, h]
end Go.Law

/-
  What the calls of an ordered map (layer 4) of texts to nothing come to: With, Without, Get, Len, All, Keys.
-/
import Derived.Test.YtohdlnefgieenaaGreatJ14
import Derived.Shelf.Abstract
import Derived.Test.YtohdlnefgieenaaGreatJ5
import Derived.Test.YtohdlnefgieenaaGreatJ1
import Derived.Test.YtohdlnefgieenaaGreatJ0
import Derived.Test.YtohdlnefgieenaaGreatJ3
namespace Go.Proofs.YtohdlnefgieenaaGreat
open Go.RowKit Go.Shelf
attribute [local go_sem] Oper.semAt_some
namespace OmapU
/-- a map -/
abbrev M (p : Option Addr) : Value := .agg #[.pointer p]
/-- behind what makes a map of these pairs -/
def MadeM (w : World) (zs : List (ByteArray × Int)) (e : Ending) (w' : World) : Prop := ∃ p, e = .returned (M p) ∧ At w' w'.heap.size p zs ∧ Below w.heap.size w w'

set_option maxHeartbeats 1000000 in
theorem withM (k : ByteArray) (v : Int) {w : World} {B : Nat} {p : Option Addr} {xs : List (ByteArray × Int)} (h : At w B p xs) (hB : B ≤ w.heap.size) (hR : Law.Rises lt xs) (hx : xs.length ≤ 999) :
    Calls Tryz.prog 103 #[M p, .string k, .agg #[]] w (MadeM w (Law.putK lt k v xs)) := by
  have H := Lib.hid h
  have HR := Lib.hid hR
  clear h hR
  go_enter Tryz.func103, Tryz.ntmps103
  go_wp2_with fail
  have B0 : Below w.heap.size w (((w.alloc (.cells #[.pointer p] 116)).alloc (.cells #[] 157)).alloc (.cells #[.pointer none] 116)) := (((Below.refl _ w).alloc (Nat.le_refl _) _).alloc (by simp) _).alloc (by simp; omega) _
  refine (with_ k v xs.length _ B p xs (Nat.le_refl _) (H.out.under (B0.mono hB)) (by simp; omega) HR.out hx).mono ?_
  rintro e w1 ⟨p1, rfl, t1, b1⟩
  have I1 : Law.Is w1 (w.heap.size + 1 + 1) 116 #[.pointer none] := (Law.Is.new ((w.alloc (.cells #[.pointer p] 116)).alloc (.cells #[] 157)) 116 #[.pointer none] (by simp)).below b1 (by simp)
  have c0 := I1.cell 0
  have f0 := I1.frozen 0
  have l0 := I1.lt
  simp only [List.getElem?_toArray, List.getElem?_cons_zero] at c0
  have hb : Below w.heap.size w w1 := B0.trans (b1.mono (by simp; omega))
  have T1 := Lib.hid t1
  have HB := Lib.hid hb
  have HI := Lib.hid I1
  clear t1 hb b1 I1 B0
  go_wp2_with fail
  have T2 := Lib.hid (T1.out.far (i := 0) HI.out (by decide) (.pointer p1))
  have I2 : Law.Is (w1.setCell ⟨w.heap.size + 1 + 1, 0, none⟩ (.pointer p1)) (w.heap.size + 1 + 1) 116 #[.pointer p1] := HI.out.set 0 _ rfl
  have c2 : (w1.setCell ⟨w.heap.size + 1 + 1, 0, none⟩ (.pointer p1)).cell? ⟨w.heap.size + 1 + 1, 0, none⟩ = some (Value.pointer p1) := (I2.cell 0).trans rfl
  have B2 := Lib.hid (HB.out.setCell (p := ⟨w.heap.size + 1 + 1, 0, none⟩) (by simp; omega) (.pointer p1))
  have e2 : w1.heap.size = (w1.setCell ⟨w.heap.size + 1 + 1, 0, none⟩ (.pointer p1)).heap.size := by simp
  rw [e2] at T2
  clear c0 f0 l0 T1 HB HI e2 I2
  generalize w1.setCell ⟨w.heap.size + 1 + 1, 0, none⟩ (.pointer p1) = w2 at *
  exact bodyPost_ret (v := M p1) (by simp [results, Tryz.results103, go_sem, c2]) rfl ⟨p1, rfl, T2.out, B2.out⟩

set_option maxHeartbeats 1000000 in
theorem withoutM (k : ByteArray) {w : World} {B : Nat} {p : Option Addr} {xs : List (ByteArray × Int)} (h : At w B p xs) (hB : B ≤ w.heap.size) (hR : Law.Rises lt xs) (hx : xs.length ≤ 999) :
    Calls Tryz.prog 81 #[M p, .string k] w (MadeM w (Law.outK k xs)) := by
  have H := Lib.hid h
  have HR := Lib.hid hR
  clear h hR
  go_enter Tryz.func81, Tryz.ntmps81
  go_wp2_with fail
  have B0 : Below w.heap.size w ((w.alloc (.cells #[.pointer p] 116)).alloc (.cells #[.pointer none] 116)) := ((Below.refl _ w).alloc (Nat.le_refl _) _).alloc (by simp) _
  refine (without xs.length k _ B p xs (Nat.le_refl _) (H.out.under (B0.mono hB)) (by simp; omega) HR.out hx).mono ?_
  rintro e w1 ⟨p1, rfl, t1, b1⟩
  have I1 : Law.Is w1 (w.heap.size + 1) 116 #[.pointer none] := (Law.Is.new (w.alloc (.cells #[.pointer p] 116)) 116 #[.pointer none] (by simp)).below b1 (by simp)
  have c0 := I1.cell 0
  have f0 := I1.frozen 0
  have l0 := I1.lt
  simp only [List.getElem?_toArray, List.getElem?_cons_zero] at c0
  have hb : Below w.heap.size w w1 := B0.trans (b1.mono (by simp; omega))
  have T1 := Lib.hid t1
  have HB := Lib.hid hb
  have HI := Lib.hid I1
  clear t1 hb b1 I1 B0
  go_wp2_with fail
  have T2 := Lib.hid (T1.out.far (i := 0) HI.out (by decide) (.pointer p1))
  have I2 : Law.Is (w1.setCell ⟨w.heap.size + 1, 0, none⟩ (.pointer p1)) (w.heap.size + 1) 116 #[.pointer p1] := HI.out.set 0 _ rfl
  have c2 : (w1.setCell ⟨w.heap.size + 1, 0, none⟩ (.pointer p1)).cell? ⟨w.heap.size + 1, 0, none⟩ = some (Value.pointer p1) := (I2.cell 0).trans rfl
  have B2 := Lib.hid (HB.out.setCell (p := ⟨w.heap.size + 1, 0, none⟩) (Nat.le_succ _) (.pointer p1))
  have e2 : w1.heap.size = (w1.setCell ⟨w.heap.size + 1, 0, none⟩ (.pointer p1)).heap.size := by simp
  rw [e2] at T2
  clear c0 f0 l0 T1 HB HI e2 I2
  generalize w1.setCell ⟨w.heap.size + 1, 0, none⟩ (.pointer p1) = w2 at *
  exact bodyPost_ret (v := M p1) (by simp [results, Tryz.results81, go_sem, c2]) rfl ⟨p1, rfl, T2.out, B2.out⟩

set_option maxHeartbeats 1000000 in
theorem get (k : ByteArray) {w : World} {B : Nat} {p : Option Addr} {xs : List (ByteArray × Int)} (h : At w B p xs) (hB : B ≤ w.heap.size) (hR : Law.Rises lt xs) :
    Calls Tryz.prog 101 #[M p, .string k] w fun e w' => e = .returned (.tuple #[.agg #[], .bool (Law.getK k xs).isSome]) ∧ Below w.heap.size w w' := by
  have H := Lib.hid h
  have HR := Lib.hid hR
  clear h hR
  go_enter Tryz.func101, Tryz.ntmps101
  go_wp2_with fail
  have B0 : Below w.heap.size w ((w.alloc (.cells #[.pointer p] 116)).alloc (.cells #[] 157)) := ((Below.refl _ w).alloc (Nat.le_refl _) _).alloc (by simp) _
  refine (find k (H.out.under (B0.mono hB)) HR.out).mono ?_
  have HB := Lib.hid B0
  clear B0
  rintro e w1 ⟨rfl, ⟨rfl, hg⟩ | ⟨b, u, rfl, hb, c1, hg⟩⟩
  · have HG := Lib.hid hg
    clear hg
    go_wp2_with fail
    exact bodyPost_ret (v := .tuple #[.agg #[], .bool false]) (by simp [results, Tryz.results101, go_sem]) rfl ⟨by rw [HG.out]; rfl, HB.out.alloc (by simp; omega) _⟩
  · have c2 := c1.part
    have HG := Lib.hid hg
    clear hg
    go_wp2_with fail
    exact bodyPost_ret (v := .tuple #[.agg #[], .bool true]) (by simp [results, Tryz.results101, go_sem]) rfl ⟨by rw [HG.out]; rfl, ((Below.refl _ w).alloc (Nat.le_refl _) _).alloc (by simp) _⟩

set_option maxHeartbeats 1000000 in
theorem len {w : World} {B : Nat} {p : Option Addr} {xs : List (ByteArray × Int)} (h : At w B p xs) (hB : B ≤ w.heap.size) :
    Calls Tryz.prog 117 #[M p] w fun e w' => e = .returned (.int .i64 (xs.length : Int)) ∧ w.alloc (.cells #[.pointer p] 116) = w' := by
  have H := Lib.hid h
  clear h
  go_enter Tryz.func117, Tryz.ntmps117
  go_wp2_with fail
  refine (count (H.out.under (((Below.refl _ w).alloc (Nat.le_refl _) _).mono hB))).mono ?_
  rintro e w1 ⟨rfl, rfl⟩
  go_wp2_with fail
  go_ret
  exact ⟨rfl, rfl⟩

end OmapU
end Go.Proofs.YtohdlnefgieenaaGreat
/-
  A queue in memory, as in Rings, whose items take z cells each. General over programs. (Made by mkringz.py.)
-/
namespace Go.Law
open Go.RowKit
/-- block b is a queue with room for so many, and v is its items' slice; all its blocks are of S -/
structure RingzV (t e : TypeId) (z : Nat) (w : World) (base : Nat) (S : Nat → Prop) (b room : Nat) (v : Value) (n : Nat) (xs : List Value) (lost : Bool) : Prop where
  box : Is w b t #[.int .i64 (room : Int), v, .bool lost]
  row : w.ownsRow 0 e z v n xs
  inn : S b
  own : ∀ g, v.ownBlock = some g → S g
  ok : ∀ k, S k → base ≤ k ∧ k < w.heap.size
def Ringz (t e : TypeId) (z : Nat) (w : World) (base : Nat) (S : Nat → Prop) (b room n : Nat) (xs : List Value) (lost : Bool) : Prop := ∃ v, RingzV t e z w base S b room v n xs lost
section
variable {t e : TypeId} {z : Nat} {w w' : World} {base b room n : Nat} {S T : Nat → Prop} {v : Value} {xs : List Value} {lost : Bool}
theorem Ringz.touch (h : Ringz t e z w base S b room n xs lost) (ht : Touch w w' T) (hd : ∀ k, S k → ¬ T k) : Ringz t e z w' base S b room n xs lost := by
  obtain ⟨v, h⟩ := h
  exact ⟨v, ht.is h.box (hd _ h.inn), ht.own h.row (fun g hg => hd _ (h.own g hg)), h.inn, h.own, fun k hk => ⟨(h.ok k hk).1, Nat.lt_of_lt_of_le (h.ok k hk).2 ht.size⟩⟩
theorem Ringz.below (h : Ringz t e z w base S b room n xs lost) (hb : Below w.heap.size w w') : Ringz t e z w' base S b room n xs lost := h.touch (Touch.of_below hb fun _ => False) (fun _ _ h => h)
theorem Ringz.ok (h : Ringz t e z w base S b room n xs lost) : ∀ k, S k → base ≤ k ∧ k < w.heap.size := by obtain ⟨v, h⟩ := h; exact h.ok
theorem Ringz.lt (h : Ringz t e z w base S b room n xs lost) : b < w.heap.size := by obtain ⟨v, h⟩ := h; exact h.box.lt
theorem Ringz.inn (h : Ringz t e z w base S b room n xs lost) : S b := by obtain ⟨v, h⟩ := h; exact h.inn
/-- a new queue -/
theorem Ringz.new (t e : TypeId) (z : Nat) (w : World) (base room : Nat) (hb : base ≤ w.heap.size) {g : Nat} (hg : g = w.heap.size) : Ringz t e z (w.alloc (.cells #[.int .i64 (room : Int), .slice none 0 0, .bool false] t)) base (fun k => k = g) g room 0 [] false := by
  subst hg
  exact ⟨.slice none 0 0, Is.new _ _ _ rfl, World.ownsRow_nil _ _ _ _, rfl, fun g h => by simp [Value.ownBlock] at h, fun k hk => by subst hk; simp; omega⟩
/-- nothing more went in: it is marked -/
theorem RingzV.mark (h : RingzV t e z w base S b room v n xs lost) (hte : e ≠ t) : Ringz t e z (w.setCell ⟨b, 2, none⟩ (.bool true)) base S b room n xs true :=
  ⟨v, h.box.set 2 _ rfl, (Touch.store (T := fun k => k = b) w ⟨b, 2, none⟩ _ rfl).own h.row (fun g hg e' => own_ne h.row h.box hte (e' ▸ hg)), h.inn, h.own, fun k hk => by have := h.ok k hk; simpa using this⟩
/-- one more went in -/
theorem RingzV.next (h : RingzV t e z w base S b room v n xs lost) (hte : e ≠ t) (hb : base ≤ w.heap.size) {w1 : World} {v' : Value} {us : List Value} {o : Obj} (hown : w1.ownsRow 0 e z v' (n + 1) (xs ++ us)) (hg : (w.alloc o).grownBy w1 v.ownBlock)
    (hv : v'.ownBlock = v.ownBlock ∨ v'.ownBlock = some (w.alloc o).heap.size) :
    Is w1 b t #[.int .i64 (room : Int), v, .bool lost] ∧ Ringz t e z (w1.setCell ⟨b, 1, none⟩ v') base (fun k => S k ∨ w.heap.size ≤ k ∧ k < w1.heap.size) b room (n + 1) (xs ++ us) lost ∧ Touch w (w1.setCell ⟨b, 1, none⟩ v') S := by
  have hne := own_ne h.row h.box hte
  have hI : Is w1 b t #[.int .i64 (room : Int), v, .bool lost] := (h.box.alloc o).grown hg hne
  have hne' := own_ne hown hI hte
  have ht : Touch w (w1.setCell ⟨b, 1, none⟩ v') S := ((Touch.alloc w o S).trans (Touch.grown hg h.own) (fun k hk => .inl hk)).trans (Touch.store w1 ⟨b, 1, none⟩ v' h.inn) (fun k hk => .inl hk)
  have hs1 : w.heap.size ≤ w1.heap.size := by have := hg.size; simp at this; omega
  refine ⟨hI, ⟨v', hI.set 1 v' rfl, ?_, .inl h.inn, ?_, ?_⟩, ht⟩
  · exact (Touch.store (T := fun k => k = b) w1 ⟨b, 1, none⟩ v' rfl).own hown (fun g hg e' => hne' (e' ▸ hg))
  · intro g hg'
    rcases hv with hv | hv
    · exact .inl (h.own g (hv ▸ hg'))
    · right
      have e1 : (w.alloc o).heap.size = g := Option.some.inj (hv.symm.trans hg')
      have := (hown.lt g hg').2
      simp at e1
      omega
  · intro k hk
    have : (w1.setCell ⟨b, 1, none⟩ v').heap.size = w1.heap.size := by simp
    rw [this]
    rcases hk with hk | ⟨hk, hk'⟩
    · have := h.ok k hk; omega
    · omega
/-- it was emptied -/
theorem RingzV.emptied (h : RingzV t e z w base S b room v n xs lost) : Ringz t e z ((w.setCell ⟨b, 1, none⟩ (.slice none 0 0)).setCell ⟨b, 2, none⟩ (.bool false)) base S b room 0 [] false :=
  ⟨.slice none 0 0, (h.box.set 1 (.slice none 0 0) rfl).set 2 (.bool false) rfl, World.ownsRow_nil _ _ _ _, h.inn, fun g h => by simp [Value.ownBlock] at h, fun k hk => by have := h.ok k hk; simpa using this⟩
theorem RingzV.below (h : RingzV t e z w base S b room v n xs lost) (hb : Below w.heap.size w w') : RingzV t e z w' base S b room v n xs lost :=
  ⟨h.box.below hb h.box.lt, own_below h.row hb, h.inn, h.own, fun k hk => ⟨(h.ok k hk).1, Nat.lt_of_lt_of_le (h.ok k hk).2 hb.size⟩⟩
theorem RingzV.drewN (h : RingzV t e z w base S b room v n xs lost) (n' : Nat) : RingzV t e z (w.drewN n') base S b room v n xs lost := ⟨h.box, h.row, h.inn, h.own, h.ok⟩
end
/-- only one block of another type has turned -/
theorem Keeps.touch1 {t t' : TypeId} {w w' : World} {g : Nat} {cs : Array Value} (h : Touch w w' (fun k => k = g)) (hi : Is w g t' cs) (ht : t ≠ t') : Keeps t w w' :=
  ⟨h.size, fun hb => (h.block _ hb.lt (fun e => (hb.type_ne hi ht) e)).trans hb⟩
/-- append of what lies at an address, inside a region that draws; in which block the row lies behind it -/
theorem step_append_at {P : Program} {w : World} {base : Nat} {t e : TypeId} {i : TypeInfo} {z : Value} {size bytes : Nat} {ops : Array Oper} {o : Oper} {a : Act} {K : Act → World → Prop} {Q : Exit → Act → World → Prop} {X : Prop} (hgd : o.guard = none) (s x : Operand)
    (ho : o.op = .call { callee := .builtin .append, args := #[s, x], argTypes := #[t, t] }) (E : Elem P t e i z size bytes)
    (v : Value) (n : Nat) (xs : List Value) (hs : a.eval s = v) (hown : w.ownsRow base e size v n xs)
    (ad : Addr) (m c : Nat) (news : List Value) (hx : a.eval x = .slice (some ad) m c) (hl : news.length = m * size) (hnews : ∀ j u, news[j]? = some u → w.cell? (ad.add j) = some u) (h1 : ∀ u ∈ news, u.oneCell' = true)
    (h63 : n + m ≤ maxLen) (hbytes : (n + m) * bytes ≤ 140737488355328) (hbase : base ≤ w.heap.size)
    (h : ∀ v' w', w'.ownsRow base e size v' (n + m) (xs ++ news) → w.grownBy w' v.ownBlock → (v'.ownBlock = v.ownBlock ∨ v'.ownBlock = some w.heap.size) → K (a.put o.dst v') w') :
    if Region.wanted o (yielded ops a.tmps) = true then Oper.wp P o a w K Q else X := by
  rw [if_pos (by simp [Region.wanted, hgd])]
  obtain ⟨v', w', hrun, h2, h3, _, h5⟩ := run_append_own_at (P := P) w base t o.type e i z size bytes E.ut E.info E.zero E.sz E.by_ E.cells E.pos v n xs hown ad m c news hl hnews h1 h63 hbytes hbase
  unfold Oper.wp execOp
  simp only [ho, resolve, invoke, builtin, Sem.run_bind, Sem.run_pure, Result.andThen_ok, List.map_toArray, List.map_cons, List.map_nil, hs, hx, hrun]
  exact h v' w' h2 h3 h5
end Go.Law
/-
  Events and changes as plain data, and their cells. General over programs.
-/
namespace Go.Law
open Go.RowKit
/-- an event: its user, how it was, how it is, its number -/
structure Ev where
  us : ByteArray
  o1 : Int
  o2 : Int
  o3 : Int
  n1 : Int
  n2 : Int
  n3 : Int
  sq : Int
deriving DecidableEq
/-- a change -/
structure Cg where
  us : ByteArray
  o1 : Int
  o2 : Int
  o3 : Int
  n1 : Int
  n2 : Int
  n3 : Int
deriving DecidableEq
/-- a change, told with a number -/
abbrev Cg.ev (q : Cg) (s : Int) : Ev := ⟨q.us, q.o1, q.o2, q.o3, q.n1, q.n2, q.n3, s⟩
def cellsE (q : Ev) : List Value := [.string q.us, .int .i64 q.o1, .int .i64 q.o2, .int .i64 q.o3, .int .i64 q.n1, .int .i64 q.n2, .int .i64 q.n3, .int .u64 q.sq]
def flatE (l : List Ev) : List Value := l.flatMap cellsE
abbrev Ev.val (q : Ev) : Value := .agg #[.string q.us, .int .i64 q.o1, .int .i64 q.o2, .int .i64 q.o3, .int .i64 q.n1, .int .i64 q.n2, .int .i64 q.n3, .int .u64 q.sq]
abbrev Ev.box (q : Ev) : Array Value := #[.string q.us, .int .i64 q.o1, .int .i64 q.o2, .int .i64 q.o3, .int .i64 q.n1, .int .i64 q.n2, .int .i64 q.n3, .int .u64 q.sq]
def cellsG (q : Cg) : List Value := [.string q.us, .int .i64 q.o1, .int .i64 q.o2, .int .i64 q.o3, .int .i64 q.n1, .int .i64 q.n2, .int .i64 q.n3]
def flatG (l : List Cg) : List Value := l.flatMap cellsG
abbrev Cg.box (q : Cg) : Array Value := #[.string q.us, .int .i64 q.o1, .int .i64 q.o2, .int .i64 q.o3, .int .i64 q.n1, .int .i64 q.n2, .int .i64 q.n3]
theorem one_E (q : Ev) : ∀ u ∈ cellsE q, u.oneCell' = true := by
  intro u hu
  simp [cellsE] at hu
  rcases hu with rfl | rfl | rfl | rfl | rfl | rfl | rfl | rfl <;> rfl
theorem flatE_one (l : List Ev) : ∀ u ∈ flatE l, u.oneCell' = true := by
  intro u hu
  obtain ⟨q, _, hq⟩ := List.mem_flatMap.1 hu
  exact one_E q u hq
theorem flatE_length (l : List Ev) : (flatE l).length = l.length * 8 := rows_length (cells := cellsE) (fun _ => rfl) l
theorem flatE_app (xs ys : List Ev) : flatE (xs ++ ys) = flatE xs ++ flatE ys := List.flatMap_append
theorem flatE_snoc (zs : List Ev) (q : Ev) : flatE (zs ++ [q]) = flatE zs ++ cellsE q := by rw [flatE_app]; simp [flatE]
theorem flatE_take : ∀ (zs : List Ev) (i : Nat), flatE (zs.take i) = (flatE zs).take (i * 8)
  | [], i => by simp [flatE]
  | q :: r, 0 => by simp [flatE]
  | q :: r, i + 1 => by
    have ih := flatE_take r i
    have e : ∀ r : List Ev, flatE (q :: r) = cellsE q ++ flatE r := fun r => by simp [flatE]
    rw [List.take_succ_cons, e, e, ih, show (i + 1) * 8 = 8 + i * 8 by omega, List.take_append, List.take_of_length_le (l := cellsE q) (by show 8 ≤ _; omega), show 8 + i * 8 - (cellsE q).length = i * 8 from Nat.add_sub_cancel_left ..]
theorem flatE_drop : ∀ (zs : List Ev) (i : Nat), flatE (zs.drop i) = (flatE zs).drop (i * 8)
  | [], i => by simp [flatE]
  | q :: r, 0 => by simp [flatE]
  | q :: r, i + 1 => by
    have ih := flatE_drop r i
    have e : ∀ r : List Ev, flatE (q :: r) = cellsE q ++ flatE r := fun r => by simp [flatE]
    rw [List.drop_succ_cons, e, ih, show (i + 1) * 8 = 8 + i * 8 by omega, List.drop_append, List.drop_of_length_le (l := cellsE q) (by show 8 ≤ _; omega), show 8 + i * 8 - (cellsE q).length = i * 8 from Nat.add_sub_cancel_left ..]
    rfl
/-- an event's cells -/
structure EvAt (w : World) (b o : Nat) (q : Ev) : Prop where
  c0 : w.cell? ⟨b, o, none⟩ = some (.string q.us)
  c1 : w.cell? ⟨b, o + 1, none⟩ = some (.int .i64 q.o1)
  c2 : w.cell? ⟨b, o + 2, none⟩ = some (.int .i64 q.o2)
  c3 : w.cell? ⟨b, o + 3, none⟩ = some (.int .i64 q.o3)
  c4 : w.cell? ⟨b, o + 4, none⟩ = some (.int .i64 q.n1)
  c5 : w.cell? ⟨b, o + 5, none⟩ = some (.int .i64 q.n2)
  c6 : w.cell? ⟨b, o + 6, none⟩ = some (.int .i64 q.n3)
  c7 : w.cell? ⟨b, o + 7, none⟩ = some (.int .u64 q.sq)
theorem Seq.ev {w : World} {lo B : Nat} {A : Option Addr} {l : List Ev} {i : Nat} (h : Seq w lo B A (flatE l)) (hi : i < l.length) : ∃ b off, A = some ⟨b, off, none⟩ ∧ lo ≤ b ∧ b < B ∧ EvAt w b (off + i * 8) l[i] := by
  obtain ⟨b, off, hA, h1, h2, hc⟩ := Seq.row (cells := cellsE) (fun _ => rfl) (by decide : 0 < 8) h hi
  exact ⟨b, off, hA, h1, h2, by simpa using hc 0 _ rfl, hc 1 _ rfl, hc 2 _ rfl, hc 3 _ rfl, hc 4 _ rfl, hc 5 _ rfl, hc 6 _ rfl, hc 7 _ rfl⟩
theorem EvAt.below {w w' : World} {b o B : Nat} {q : Ev} (h : EvAt w b o q) (hb : Below B w w') (hB : b < B) : EvAt w' b o q :=
  ⟨(hb.cell (p := ⟨b, _, none⟩) hB).trans h.c0, (hb.cell (p := ⟨b, _, none⟩) hB).trans h.c1, (hb.cell (p := ⟨b, _, none⟩) hB).trans h.c2, (hb.cell (p := ⟨b, _, none⟩) hB).trans h.c3, (hb.cell (p := ⟨b, _, none⟩) hB).trans h.c4, (hb.cell (p := ⟨b, _, none⟩) hB).trans h.c5, (hb.cell (p := ⟨b, _, none⟩) hB).trans h.c6, (hb.cell (p := ⟨b, _, none⟩) hB).trans h.c7⟩
theorem new_E (w : World) (q : Ev) (t : TypeId) {g : Nat} (hg : g = w.heap.size) : ∀ (j : Nat) (u : Value), (cellsE q)[j]? = some u → (w.alloc (.cells q.box t)).cell? ((⟨g, 0, none⟩ : Addr).add j) = some u := by
  subst hg
  intro j u hj
  match j, hj with
  | 0, hj => simp [cellsE] at hj; subst hj; simp [Addr.add]
  | 1, hj => simp [cellsE] at hj; subst hj; simp [Addr.add]
  | 2, hj => simp [cellsE] at hj; subst hj; simp [Addr.add]
  | 3, hj => simp [cellsE] at hj; subst hj; simp [Addr.add]
  | 4, hj => simp [cellsE] at hj; subst hj; simp [Addr.add]
  | 5, hj => simp [cellsE] at hj; subst hj; simp [Addr.add]
  | 6, hj => simp [cellsE] at hj; subst hj; simp [Addr.add]
  | 7, hj => simp [cellsE] at hj; subst hj; simp [Addr.add]
  | j + 8, hj => simp [cellsE] at hj
/-- a change's cells -/
structure CgAt (w : World) (b o : Nat) (q : Cg) : Prop where
  c0 : w.cell? ⟨b, o, none⟩ = some (.string q.us)
  c1 : w.cell? ⟨b, o + 1, none⟩ = some (.int .i64 q.o1)
  c2 : w.cell? ⟨b, o + 2, none⟩ = some (.int .i64 q.o2)
  c3 : w.cell? ⟨b, o + 3, none⟩ = some (.int .i64 q.o3)
  c4 : w.cell? ⟨b, o + 4, none⟩ = some (.int .i64 q.n1)
  c5 : w.cell? ⟨b, o + 5, none⟩ = some (.int .i64 q.n2)
  c6 : w.cell? ⟨b, o + 6, none⟩ = some (.int .i64 q.n3)
theorem Seq.cg {w : World} {lo B : Nat} {A : Option Addr} {l : List Cg} {i : Nat} (h : Seq w lo B A (flatG l)) (hi : i < l.length) : ∃ b off, A = some ⟨b, off, none⟩ ∧ lo ≤ b ∧ b < B ∧ CgAt w b (off + i * 7) l[i] := by
  obtain ⟨b, off, hA, h1, h2, hc⟩ := Seq.row (cells := cellsG) (fun _ => rfl) (by decide : 0 < 7) h hi
  exact ⟨b, off, hA, h1, h2, by simpa using hc 0 _ rfl, hc 1 _ rfl, hc 2 _ rfl, hc 3 _ rfl, hc 4 _ rfl, hc 5 _ rfl, hc 6 _ rfl⟩
end Go.Law

/-
  Calls of a feed with what they answer as equations; layer 9's own example (awake).
-/
import Derived.Test.YtohdlnefgieenaaGreatJ17
import Derived.Test.YtohdlnefgieenaaGreatJ13
import Derived.Test.YtohdlnefgieenaaGreatJ12
import Derived.Test.YtohdlnefgieenaaGreatJ10
namespace Go.Proofs.YtohdlnefgieenaaGreat
open Go.RowKit Go.Shelf
attribute [local go_sem] Oper.semAt_some
namespace Feed
open Go.Law
section
variable {w : World} {base b room k : Nat} {S : Nat → Prop} {s : St}
/-- Tell of a list that was just written down -/
theorem tellLit (h : Fed w base S b room s) (hb : base ≤ w.heap.size) (l : List Cg) (seq : Int) {cs : Array Value} {m c : Nat} (hcs : cs.toList = flatG l) (hm : l.length = m) (hl : ∀ k, k < 8 → (s.que k).length + l.length ≤ 1000) {s' : St} (hs' : s.tell room l seq = s') :
    Calls Tryz.prog 86 #[.pointer (some ⟨b, 0, none⟩), .slice (some ⟨w.heap.size, 0, none⟩) m c, .int .u64 seq] (w.alloc (.cells cs 185)) (Told w base S b room s') := by
  subst hm hs'
  have bb := (Below.refl w.heap.size w).alloc (Nat.le_refl _) (.cells cs 185)
  refine (tell (h.below bb) (Nat.le_trans hb bb.size) l seq (Lain.is (Is.new w _ _ rfl) hcs) hl).mono ?_
  rintro e w' ⟨rfl, S', hF, hW, hK⟩
  exact ⟨rfl, S', hF, (Went.of_below (S := S) bb).trans hW, fun t h1 h2 => (Keeps.of_below bb).trans (hK t h1 h2)⟩
theorem watchE (h : Fed w base S b room s) {who : Int} (hw : who = (k : Int)) (hk : k < 8) (u : ByteArray) (hl : (s.wat k).length ≤ 999) {s' : St} (hs' : { s with wat := upd s.wat k (putK OmapU.lt u 0 (s.wat k)) } = s') :
    Calls Tryz.prog 79 #[.pointer (some ⟨b, 0, none⟩), .int .i64 who, .string u] w fun e w' => e = .returned (.tuple #[]) ∧ Fed w' base S b room s' ∧ Went w S w' S := by
  subst hw hs'; exact watch h hk u hl
theorem unwatchE (h : Fed w base S b room s) {who : Int} (hw : who = (k : Int)) (hk : k < 8) (u : ByteArray) (hl : (s.wat k).length ≤ 999) {s' : St} (hs' : { s with wat := upd s.wat k (outK u (s.wat k)) } = s') :
    Calls Tryz.prog 51 #[.pointer (some ⟨b, 0, none⟩), .int .i64 who, .string u] w fun e w' => e = .returned (.tuple #[]) ∧ Fed w' base S b room s' ∧ Went w S w' S := by
  subst hw hs'; exact unwatch h hk u hl
theorem countE (h : Fed w base S b room s) {who : Int} (hw : who = (k : Int)) (hk : k < 8) {n : Int} (hn : ((s.wat k).length : Int) = n) :
    Calls Tryz.prog 102 #[.pointer (some ⟨b, 0, none⟩), .int .i64 who] w fun e w' => e = .returned (.int .i64 n) ∧ Below w.heap.size w w' := by
  subst hw hn; exact count h hk
theorem watchingE (h : Fed w base S b room s) {who : Int} (hw : who = (k : Int)) (hk : k < 8) (u : ByteArray) {r : Bool} (hr : s.has k u = r) :
    Calls Tryz.prog 77 #[.pointer (some ⟨b, 0, none⟩), .int .i64 who, .string u] w fun e w' => e = .returned (.bool r) ∧ Below w.heap.size w w' := by
  subst hw hr; exact watching h hk u
/-- behind a Drain -/
def DrainedE (w : World) (base : Nat) (S : Nat → Prop) (b room : Nat) (zs : List Ev) (m : Nat) (lost : Bool) (s' : St) (e : Ending) (w' : World) : Prop :=
  ∃ A c, e = .returned (.tuple #[.slice A m c, .bool lost]) ∧ Seq w' w.heap.size w'.heap.size A (flatE zs) ∧ Fed w' base S b room s' ∧ Went w S w' S
theorem drainE (h : Fed w base S b room s) {who : Int} (hw : who = (k : Int)) (hk : k < 8) {zs : List Ev} {m : Nat} {lost : Bool} (hz : s.que k = zs) (hm : zs.length = m) (ho : s.los k = lost) (hl : zs.length ≤ 1000) {s' : St} (hs' : { s with que := upd s.que k [], los := upd s.los k false } = s') :
    Calls Tryz.prog 74 #[.pointer (some ⟨b, 0, none⟩), .int .i64 who] w (DrainedE w base S b room zs m lost s') := by
  subst hw hs' hz hm ho; exact drain h hk hl
end
section
variable {w w' : World} {base B b room : Nat} {S S' : Nat → Prop} {s : St}
theorem Went.below (h : Went w S w' S') (hS : ∀ n, S n → B ≤ n) {w0 : World} (hb : Below B w0 w) (hB : B ≤ w.heap.size) : Below B w0 w' := h.touch.below hb hS hB
end
/-- the example's two changes, and whoever watches -/
def ann : ByteArray := ⟨#[97, 110, 110]⟩
def exS : St := { St.zero with wat := upd St.zero.wat 2 (putK OmapU.lt ann 0 (St.zero.wat 2)) }
def exL : List Cg := [⟨ann, 0, 0, 0, 0, 0, 1⟩, ⟨ann, 0, 0, 1, 0, 0, 0⟩]
theorem ex_que : (exS.tell 1 exL 7).que 2 = [⟨ann, 0, 0, 0, 0, 0, 1, 7⟩] := by rfl
theorem ex_los : (exS.tell 1 exL 7).los 2 = true := by rfl
theorem ex_wat : ((exS.tell 1 exL 7).wat 2).length = 1 := by rfl
end Feed
end Go.Proofs.YtohdlnefgieenaaGreat
/-
  A table of layer 10 in memory: its time, its stripes, of each a book and a feed; how it goes on where one of these turns.
-/
namespace Go.Proofs.YtohdlnefgieenaaGreat
open Go.RowKit Go.Shelf
attribute [local go_sem] Oper.semAt_some
namespace Mod
open Go.Law Feed Bk
/-- a table: how many sessions and users there may be, the time, how many stripes, the room of a queue, the stripes' books and feeds -/
structure Mo where
  most : Int
  lim : Int
  now : Int
  seq : Int
  closed : Bool
  n : Nat
  room : Nat
  bk : Nat → List (ByteArray × En)
  fd : Nat → St
abbrev Mo.cells (a : Mo) (t c : Nat) : Array Value := #[.int .i64 a.most, .int .i64 a.lim, .int .u64 a.now, .int .u64 a.seq, .bool a.closed, .slice (some ⟨t, 0, none⟩) a.n c]
/-- the reference's users' type, where there is one -/
abbrev UT : Option TypeId := (some 107)
/-- what is needed of blocks outside -/
structure Still (w w' : World) : Prop where
  calm : Bk.Calm w w'
  name : Keeps 200 w w'
  user : ∀ t, UT = some t → Keeps t w w'
theorem Still.of_below {w w' : World} (hb : Below w.heap.size w w') : Still w w' := ⟨Bk.Calm.of_below hb, Keeps.of_below hb, fun _ _ => Keeps.of_below hb⟩
theorem Still.trans {w w' w'' : World} (h : Still w w') (h' : Still w' w'') : Still w w'' := ⟨h.calm.trans h'.calm, h.name.trans h'.name, fun t ht => (h.user t ht).trans (h'.user t ht)⟩
theorem Still.of {w w' : World} (h : ∀ t, t ≠ 121 → t ≠ 159 → t ≠ 63 → Keeps t w w') : Still w w' := ⟨⟨h _ (by decide) (by decide) (by decide), h _ (by decide) (by decide) (by decide)⟩, h _ (by decide) (by decide) (by decide), fun t ht => h t (fun e => absurd (e ▸ ht) (by decide)) (fun e => absurd (e ▸ ht) (by decide)) (fun e => absurd (e ▸ ht) (by decide))⟩
theorem Still.store {w : World} {g i : Nat} {t' : TypeId} {cs : Array Value} (hg : Is w g t' cs) (h1 : 168 ≠ t') (h2 : 138 ≠ t') (h3 : 200 ≠ t') (u : Value) (h4 : UT ≠ some t' := by decide) : Still w (w.setCell ⟨g, i, none⟩ u) := ⟨Bk.Calm.store hg h1 h2 u, Keeps.store hg h3 u, fun _ ht => Keeps.store hg (fun e => h4 (e ▸ ht)) u⟩
/-- block m is a table; it, its stripes (block t) and feeds lie in blocks of S -/
structure TabV (w : World) (base : Nat) (S : Nat → Prop) (m t c : Nat) (arr : Array Value) (p : Nat → Option Addr) (g : Nat → Nat) (Sk : Nat → Nat → Prop) (a : Mo) : Prop where
  box : Is w m 67 (a.cells t c)
  row : Is w t 74 arr
  bkc : ∀ k, k < a.n → arr[k * 2]? = some (.pointer (p k))
  fdc : ∀ k, k < a.n → arr[k * 2 + 1]? = some (.pointer (some ⟨g k, 0, none⟩))
  book : ∀ k, k < a.n → Booked w (p k) (a.bk k)
  feed : ∀ k, k < a.n → Fed w base (Sk k) (g k) a.room (a.fd k)
  apart : ∀ i j, i < a.n → j < a.n → i ≠ j → ∀ x, Sk i x → ¬ Sk j x
  offm : ∀ k, k < a.n → ¬ Sk k m
  offt : ∀ k, k < a.n → ¬ Sk k t
  inm : S m
  int : S t
  sub : ∀ k, k < a.n → ∀ x, Sk k x → S x
  ok : ∀ x, S x → base ≤ x ∧ x < w.heap.size
def Tab (w : World) (base : Nat) (S : Nat → Prop) (m : Nat) (a : Mo) : Prop := ∃ t c arr p g Sk, TabV w base S m t c arr p g Sk a
/-- blocks of S alone have turned, but for what lies as it lay by its type -/
structure Gone (w : World) (S : Nat → Prop) (w' : World) (S' : Nat → Prop) : Prop where
  touch : Law.Touch w w' S
  new : ∀ x, S' x → S x ∨ w.heap.size ≤ x
  still : Still w w'
section
variable {w w' w'' : World} {base m t c : Nat} {S S' S'' T : Nat → Prop} {arr : Array Value} {p : Nat → Option Addr} {g : Nat → Nat} {Sk : Nat → Nat → Prop} {a : Mo}
theorem Gone.refl (w : World) (S : Nat → Prop) : Gone w S w S := ⟨Law.Touch.refl _ _, fun _ h => .inl h, Still.of_below (Below.refl _ _)⟩
theorem Gone.of_below (hb : Below w.heap.size w w') : Gone w S w' S := ⟨Law.Touch.of_below hb S, fun _ h => .inl h, Still.of_below hb⟩
theorem Gone.trans (h : Gone w S w' S') (h' : Gone w' S' w'' S'') : Gone w S w'' S'' :=
  ⟨h.touch.trans h'.touch h.new, fun n hn => (h'.new n hn).elim (h.new n) (fun hl => .inr (Nat.le_trans h.touch.size hl)), h.still.trans h'.still⟩
theorem Gone.is (h : Gone w S w' S') {g : Nat} {t : TypeId} {cs : Array Value} (hi : Is w g t cs) (hg : ¬ S g) : Is w' g t cs := h.touch.is hi hg
theorem Gone.below (h : Gone w S w' S') {B : Nat} (hS : ∀ n, S n → B ≤ n) {w0 : World} (hb : Below B w0 w) (hB : B ≤ w.heap.size) : Below B w0 w' := h.touch.below hb hS hB
theorem Gone.seq (h : Gone w S w' S') {lo B : Nat} {A : Option Addr} {xs : List Value} (hs : Seq w lo B A xs) (hB : B ≤ w.heap.size) (hS : ∀ x, S x → x < lo ∨ B ≤ x) : Seq w' lo B A xs :=
  hs.keep fun q h1 h2 => World.cell?_of_block (h.touch.block q.block (by omega) (fun hx => (hS _ hx).elim (by omega) (by omega)))
theorem TabV.touch (h : TabV w base S m t c arr p g Sk a) (ht : Law.Touch w w' T) (hd : ∀ x, S x → ¬ T x) (hs : Still w w') : TabV w' base S m t c arr p g Sk a :=
  ⟨ht.is h.box (hd _ h.inm), ht.is h.row (hd _ h.int), h.bkc, h.fdc, fun k hk => (h.book k hk).calm hs.calm, fun k hk => (h.feed k hk).touch ht (fun x hx => hd x (h.sub k hk x hx)) hs.name, h.apart, h.offm, h.offt, h.inm, h.int, h.sub, fun x hx => ⟨(h.ok x hx).1, Nat.lt_of_lt_of_le (h.ok x hx).2 ht.size⟩⟩
theorem TabV.below (h : TabV w base S m t c arr p g Sk a) (hb : Below w.heap.size w w') : TabV w' base S m t c arr p g Sk a := h.touch (Law.Touch.of_below hb fun _ => False) (fun _ _ h => h) (Still.of_below hb)
theorem Tab.touch (h : Tab w base S m a) (ht : Law.Touch w w' T) (hd : ∀ x, S x → ¬ T x) (hs : Still w w') : Tab w' base S m a := by
  obtain ⟨t, c, arr, p, g, Sk, h⟩ := h
  exact ⟨t, c, arr, p, g, Sk, h.touch ht hd hs⟩
theorem Tab.below (h : Tab w base S m a) (hb : Below w.heap.size w w') : Tab w' base S m a := h.touch (Law.Touch.of_below hb fun _ => False) (fun _ _ h => h) (Still.of_below hb)
theorem Tab.ok (h : Tab w base S m a) : ∀ x, S x → base ≤ x ∧ x < w.heap.size := by obtain ⟨_, _, _, _, _, _, h⟩ := h; exact h.ok
theorem TabV.ne (h : TabV w base S m t c arr p g Sk a) : m ≠ t := fun e => by
  have h1 := h.box
  rw [e] at h1
  have h2 : (some (Obj.cells (a.cells t c) 67)) = some (Obj.cells arr 74) := h1.symm.trans h.row
  injection h2 with h2
  injection h2 with _ h2
  exact absurd h2 (by decide)
/-- one of the box's cells is put -/
theorem TabV.time (h : TabV w base S m t c arr p g Sk a) (i : Nat) (v : Value) {a' : Mo} (hn : a'.n = a.n) (hr : a'.room = a.room) (hb : a'.bk = a.bk) (hf : a'.fd = a.fd) (hc : (a.cells t c).setIfInBounds i v = a'.cells t c) : TabV (w.setCell ⟨m, i, none⟩ v) base S m t c arr p g Sk a' ∧ Gone w S (w.setCell ⟨m, i, none⟩ v) S := by
  have ht := Law.Touch.store (T := fun n => n = m) w ⟨m, i, none⟩ v rfl
  have hs : Still w (w.setCell ⟨m, i, none⟩ v) := Still.store h.box (by decide) (by decide) (by decide) v
  refine ⟨⟨h.box.set i v hc, ht.is h.row (fun e => h.ne e.symm), ?_, ?_, ?_, ?_, ?_, ?_, ?_, h.inm, h.int, ?_, ?_⟩, ⟨Law.Touch.store w ⟨m, i, none⟩ v h.inm, fun _ h => .inl h, hs⟩⟩
  · rw [hn]; exact h.bkc
  · rw [hn]; exact h.fdc
  · rw [hn, hb]; exact fun k hk => (h.book k hk).calm hs.calm
  · rw [hn, hf, hr]; exact fun k hk => (h.feed k hk).touch ht (fun x hx e => h.offm k hk (e ▸ hx)) hs.name
  · rw [hn]; exact h.apart
  · rw [hn]; exact h.offm
  · rw [hn]; exact h.offt
  · rw [hn]; exact h.sub
  · exact fun x hx => ⟨(h.ok x hx).1, by simpa using (h.ok x hx).2⟩
theorem set_at (arr : Array Value) (v u : Value) {i j : Nat} (h : i ≠ j) (hu : arr[i]? = some u) : (arr.setIfInBounds j v)[i]? = some u := by rw [Array.getElem?_setIfInBounds_ne (Ne.symm h)]; exact hu
/-- a stripe's book is put -/
theorem TabV.put (h : TabV w base S m t c arr p g Sk a) {k : Nat} (hk : k < a.n) {q : Option Addr} {nb : List (ByteArray × En)} (hq : Booked w q nb) :
    TabV (w.setCell ⟨t, k * 2, none⟩ (.pointer q)) base S m t c (arr.setIfInBounds (k * 2) (.pointer q)) (upd p k q) g Sk { a with bk := upd a.bk k nb } ∧ Gone w S (w.setCell ⟨t, k * 2, none⟩ (.pointer q)) S := by
  have ht := Law.Touch.store (T := fun n => n = t) w ⟨t, k * 2, none⟩ (.pointer q) rfl
  have hs : Still w (w.setCell ⟨t, k * 2, none⟩ (.pointer q)) := Still.store h.row (by decide) (by decide) (by decide) _
  refine ⟨⟨ht.is h.box h.ne, h.row.set (k * 2) _ rfl, fun i hi => ?_, fun i hi => set_at _ _ _ (by omega) (h.fdc i hi), fun i hi => ?_, fun i hi => (h.feed i hi).touch ht (fun x hx e => h.offt i hi (e ▸ hx)) hs.name, h.apart, h.offm, h.offt, h.inm, h.int, h.sub, fun x hx => ⟨(h.ok x hx).1, by simpa using (h.ok x hx).2⟩⟩, ⟨Law.Touch.store w ⟨t, k * 2, none⟩ _ h.int, fun _ h => .inl h, hs⟩⟩
  · by_cases e : i = k
    · subst e
      have hlt : i * 2 < arr.size := (Array.getElem?_eq_some_iff.1 (h.bkc i hi)).1
      rw [upd_same, Array.getElem?_setIfInBounds_self_of_lt hlt]
    · rw [upd_other _ _ e]
      exact set_at _ _ _ (by omega) (h.bkc i hi)
  · show Booked _ (upd p k q i) (upd a.bk k nb i)
    by_cases e : i = k
    · subst e
      rw [upd_same, upd_same]
      exact hq.calm hs.calm
    · rw [upd_other _ _ e, upd_other _ _ e]
      exact (h.book i hi).calm hs.calm
/-- a stripe's feed goes on -/
theorem TabV.tell (h : TabV w base S m t c arr p g Sk a) {k : Nat} (hk : k < a.n) {s' : St} {Sn' : Nat → Prop} (hF : Fed w' base Sn' (g k) a.room s') (hW : Went w (Sk k) w' Sn') :
    TabV w' base (fun x => S x ∨ Sn' x) m t c arr p g (upd Sk k Sn') { a with fd := upd a.fd k s' } ∧ Gone w S w' (fun x => S x ∨ Sn' x) := by
  have hs : Still w w' := Still.of hW.calm
  have hnew : ∀ x, Sn' x → S x ∨ w.heap.size ≤ x := fun x hx => (hW.new x hx).imp (h.sub k hk x) id
  refine ⟨⟨hW.is h.box (h.offm k hk), hW.is h.row (h.offt k hk), h.bkc, h.fdc, fun i hi => (h.book i hi).calm hs.calm, fun i hi => ?_, fun i j hi hj hne x => ?_, fun i hi => ?_, fun i hi => ?_, .inl h.inm, .inl h.int, fun i hi x => ?_, fun x hx => ?_⟩, ⟨hW.touch.mono (h.sub k hk), fun x hx => hx.elim .inl (hnew x), hs⟩⟩
  · show Fed w' base (upd Sk k Sn' i) (g i) a.room (upd a.fd k s' i)
    by_cases e : i = k
    · subst e; rw [upd_same, upd_same]; exact hF
    · rw [upd_other _ _ e, upd_other _ _ e]
      exact (h.feed i hi).touch hW.touch (fun x hx => h.apart i k hi hk e x hx) hs.name
  · by_cases e : i = k
    · subst e
      rw [upd_same, upd_other _ _ (Ne.symm hne)]
      exact fun hx hj' => (hW.new x hx).elim (fun h' => h.apart i j hi hj hne x h' hj') (fun h' => by have := ((h.feed j hj).ok x hj').2; omega)
    · rw [upd_other _ _ e]
      by_cases e' : j = k
      · subst e'
        rw [upd_same]
        exact fun hx hj' => (hW.new x hj').elim (fun h' => h.apart i j hi hj hne x hx h') (fun h' => by have := ((h.feed i hi).ok x hx).2; omega)
      · rw [upd_other _ _ e']
        exact h.apart i j hi hj hne x
  · by_cases e : i = k
    · subst e; rw [upd_same]; exact hW.off h.box.lt (h.offm i hk)
    · rw [upd_other _ _ e]; exact h.offm i hi
  · by_cases e : i = k
    · subst e; rw [upd_same]; exact hW.off h.row.lt (h.offt i hk)
    · rw [upd_other _ _ e]; exact h.offt i hi
  · by_cases e : i = k
    · subst e; rw [upd_same]; exact .inr
    · rw [upd_other _ _ e]; exact fun hx => .inl (h.sub i hi x hx)
  · exact hx.elim (fun h' => ⟨(h.ok x h').1, Nat.lt_of_lt_of_le (h.ok x h').2 hW.touch.size⟩) (fun h' => hF.ok x h')
end
end Mod
end Go.Proofs.YtohdlnefgieenaaGreat
/-
  What the table's small calls (layer 10) come to: of, take, become, Time, Tick.
-/
namespace Go.Proofs.YtohdlnefgieenaaGreat
open Go.RowKit Go.Shelf
attribute [local go_sem] Oper.semAt_some
namespace Mod
open Go.Law Feed Bk
/-- a change as the feed takes it -/
def cgOf (q : Ch) : Cg := ⟨q.1, q.2.1.1, q.2.1.2.1, q.2.1.2.2, q.2.2.1, q.2.2.2.1, q.2.2.2.2⟩
theorem flat_cg : ∀ l : List Ch, flatG (l.map cgOf) = flatC l
  | [] => rfl
  | q :: r => by
    have ih := flat_cg r
    unfold flatG flatC at *
    rw [List.map_cons, List.flatMap_cons, List.flatMap_cons, ih]
    rfl
/-- the stripe that a user is in -/
def str (u : ByteArray) (n : Nat) : Nat := Hash.stripe u.data.toList (n : Int)
theorem str_lt (u : ByteArray) {n : Nat} (h : 1 ≤ n) : str u n < n := by
  have := Hash.stripe_lt u.data.toList (n := (n : Int)) (by omega)
  unfold str; omega
section
variable {w w' : World} {base m t c : Nat} {S S' : Nat → Prop} {arr : Array Value} {p : Nat → Option Addr} {g : Nat → Nat} {Sk : Nat → Nat → Prop} {a : Mo}
set_option maxRecDepth 100000 in
set_option maxHeartbeats 1000000 in
theorem of_ (h : TabV w base S m t c arr p g Sk a) (u : ByteArray) (hu : u.size ≤ maxLen) (hn : 1 ≤ a.n) (hn2 : a.n ≤ 8) {k : Nat} (hk : str u a.n = k) :
    Calls Tryz.prog 42 #[.pointer (some ⟨m, 0, none⟩), .string u] w fun e w' => e = .returned (.pointer (some ⟨t, k * 2, none⟩)) ∧ Below w.heap.size w w' := by
  have hlt : k < a.n := hk ▸ str_lt u hn
  have c5 : w.cell? ⟨m, 5, none⟩ = some (.slice (some ⟨t, 0, none⟩) a.n c) := h.box.cell' rfl
  have l1 := h.box.lt
  have l2 := h.row.lt
  have d2 : k * 2 < arr.size := (Array.getElem?_eq_some_iff.1 (h.bkc k hlt)).1
  have HS : Hid (∀ W, Calls Tryz.prog 69 #[.string u, .int .i64 (a.n : Int)] W fun e w' => e = .returned (.int .i64 (k : Int)) ∧ W = w') := fun W => by rw [← hk]; exact Hash.hstripe u (a.n : Int) W hu (by omega)
  clear h hk
  generalize a.n = n at *
  go_enter Tryz.func42, Tryz.ntmps42
  go_wp2_with fail
  go_quiet ((go_at_call 69; exact Law.quiet (HS.out _)))
  go_wp2_with fail
  go_ret
  exact ⟨rfl, Law.below_drewN (Below.refl _ _) nq⟩
set_option maxRecDepth 100000 in
set_option maxHeartbeats 1000000 in
theorem take_ (h : TabV w base S m t c arr p g Sk a) (hs : Door.U a.seq) :
    Calls Tryz.prog 55 #[.pointer (some ⟨m, 0, none⟩)] w fun e w' => e = .returned (.int .u64 (Door.sat a.seq 1)) ∧ TabV w' base S m t c arr p g Sk { a with seq := Door.sat a.seq 1 } ∧ Gone w S w' S := by
  have c2 : w.cell? ⟨m, 2, none⟩ = some (.int .u64 a.now) := h.box.cell' rfl
  have c3 : w.cell? ⟨m, 3, none⟩ = some (.int .u64 a.seq) := h.box.cell' rfl
  have c4 : w.cell? ⟨m, 4, none⟩ = some (.bool a.closed) := h.box.cell' rfl
  have l1 := h.box.lt
  have H := Lib.hid h
  clear h
  go_enter Tryz.func55, Tryz.ntmps55
  go_wp2_with fail
  refine (Tick.take _ _ _ hs _).mono ?_
  rintro e w1 ⟨rfl, hw⟩
  have hb : Below w.heap.size w w1 := by subst hw; exact Law.below_drewN (((Below.refl _ w).alloc (Nat.le_refl _) _).alloc (by simp) _) 1
  clear hw
  have H1 := Lib.hid (H.out.below hb)
  have HB := Lib.hid hb
  have b2 : w1.cell? ⟨m, 2, none⟩ = some (.int .u64 a.now) := H1.out.box.cell' rfl
  have b3 : w1.cell? ⟨m, 3, none⟩ = some (.int .u64 a.seq) := H1.out.box.cell' rfl
  have b4 : w1.cell? ⟨m, 4, none⟩ = some (.bool a.closed) := H1.out.box.cell' rfl
  have f2 := H1.out.box.frozen 2
  have f3 := H1.out.box.frozen 3
  have f4 := H1.out.box.frozen 4
  have l2 := H1.out.box.lt
  clear hb c2 c3 c4 l1
  go_wp2_with fail
  have t1 := H1.out.time 2 (.int .u64 a.now) (a' := a) rfl rfl rfl rfl rfl
  have t2 := t1.1.time 3 (.int .u64 (Door.sat a.seq 1)) (a' := { a with seq := Door.sat a.seq 1 }) rfl rfl rfl rfl rfl
  have t3 := t2.1.time 4 (.bool a.closed) (a' := { a with seq := Door.sat a.seq 1 }) rfl rfl rfl rfl rfl
  go_ret
  exact ⟨rfl, t3.1, (Gone.of_below HB.out).trans (t1.2.trans (t2.2.trans t3.2))⟩
set_option maxRecDepth 100000 in
set_option maxHeartbeats 1000000 in
theorem become_ (h : TabV w base S m t c arr p g Sk a) (hbw : base ≤ w.heap.size) {k : Nat} (hk : k < a.n) {q : Option Addr} {nb : List (ByteArray × En)} (hq : Booked w q nb) {A : Option Addr} {cs : List Ch} {cc : Nat} (hc : Lain 185 w A (flatC cs)) (seq : Int) (hl : ∀ i, i < 8 → ((a.fd k).que i).length + cs.length ≤ 1000) :
    Calls Tryz.prog 57 #[.pointer (some ⟨t, k * 2, none⟩), .agg #[.pointer q], .slice A cs.length cc, .int .u64 seq] w fun e w' => e = .returned (.tuple #[]) ∧ ∃ S' arr' p' Sk', TabV w' base S' m t c arr' p' g Sk' { a with bk := upd a.bk k nb, fd := upd a.fd k ((a.fd k).tell a.room (cs.map cgOf) seq) } ∧ Gone w S w' S' := by
  have hp := h.put hk hq
  have hK1 : Lain 185 (w.setCell ⟨t, k * 2, none⟩ (.pointer q)) A (flatC cs) := hc.keeps (Keeps.store h.row (by decide) _)
  have hb := (Below.refl (w.setCell ⟨t, k * 2, none⟩ (.pointer q)).heap.size (w.setCell ⟨t, k * 2, none⟩ (.pointer q))).alloc (Nat.le_refl _) (.cells #[.pointer q] 72)
  have H := Lib.hid (hp.1.below hb)
  have HC := Lib.hid (hK1.now hb)
  have HG : Hid (Gone w S ((w.setCell ⟨t, k * 2, none⟩ (.pointer q)).alloc (.cells #[.pointer q] 72)) S) := hp.2.trans (Gone.of_below hb)
  have hbw2 : base ≤ ((w.setCell ⟨t, k * 2, none⟩ (.pointer q)).alloc (.cells #[.pointer q] 72)).heap.size := by simp; omega
  have l3 := h.row.lt
  have b2 := (Below.refl w.heap.size w).alloc (Nat.le_refl _) (.cells #[.pointer q] 72)
  have R2 := h.row.below b2 l3
  have c0 := (R2.cell (k * 2)).trans (h.bkc k hk)
  have f0 := R2.frozen (k * 2)
  have l0 := R2.lt
  have c1 : World.cell? _ ⟨t, k * 2 + 1, none⟩ = some (.pointer (some ⟨g k, 0, none⟩)) := (H.out.row.cell (k * 2 + 1)).trans (H.out.fdc k hk)
  have l1 := H.out.row.lt
  have HL := Lib.hid hl
  have HF := Lib.hid (H.out.feed k hk)
  clear h hq hc hb hl hp hK1 R2 b2
  go_enter Tryz.func57, Tryz.ntmps57
  go_wp2_with fail
  generalize ((w.setCell ⟨t, k * 2, none⟩ (.pointer q)).alloc (.cells #[.pointer q] 72)) = w1 at *
  have HT := tell HF.out hbw2 (cs.map cgOf) seq (c := cc) (by rw [flat_cg]; exact HC.out) (fun i hi => by have := HL.out i hi; simpa using this)
  rw [List.length_map] at HT
  refine HT.mono ?_
  rintro e w2 ⟨rfl, S2, hF, hW, _⟩
  have HT2 := Lib.hid (H.out.tell hk hF hW)
  clear hF hW HT
  go_wp2_with fail
  go_end0
  exact ⟨rfl, _, _, _, _, HT2.out.1, HG.out.trans HT2.out.2⟩
end
end Mod
end Go.Proofs.YtohdlnefgieenaaGreat

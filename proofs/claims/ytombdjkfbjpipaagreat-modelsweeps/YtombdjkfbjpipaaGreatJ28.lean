/-
  A slice of numbers that came in. General over programs.
-/
import Derived.Test.YtombdjkfbjpipaaGreatJ0
import Derived.ChangeSlices
import Derived.Test.YtombdjkfbjpipaaGreatJ27
namespace Go.Law
open Go.RowKit Go.ChangeShapes Go.WideShapes Go.ChangeAt
theorem open_nums {H : Type} {enc : TypeId × Value → H} {P : Program} {t e : TypeId} {k : IntKind} (ht : P.underlying t = some (.slice e)) (he : P.underlying e = some (.int k)) (hc1 : P.cellsOf e = 1)
    {W : World} {base b0 : Nat} {sp : Nat → Bool} {hd : Bool} {v : Value} {d : DataW H} {p : List MemPlace}
    (hv : Value.okWide P W .any b0 t v) (h : DataW.Trod enc P W base sp hd t v d p) :
    ∃ (A : Option Addr) (c : Nat) (zs : List Int), v = .slice A zs.length c ∧ Seq W 0 W.heap.size A (zs.map (.int k)) ∧ zs.length ≤ maxLen ∧ zs.length ≤ c ∧ ∀ z ∈ zs, (Lit.int k z).wf = true := by
  obtain ⟨a, n, c, rfl⟩ := okWide_slice ht hv
  obtain ⟨fuel, hf⟩ := h
  rcases open_ints ht he hc1 hf with ⟨hcs, _⟩ | ⟨x, l, k', zs, hcs, _, hl, hm, hz, hx, hcell, hwz⟩
  · simp [Value.cells] at hcs
    obtain ⟨rfl, rfl, rfl⟩ := hcs
    exact ⟨none, 0, [], rfl, Seq.nil, by simp, by simp, by simp⟩
  · simp [Value.cells] at hcs
    obtain ⟨rfl, rfl, rfl⟩ := hcs
    have hlen : n ≤ zs.length := by rw [hz]; split <;> omega
    have hl2 : (zs.take n).length = n := by simp; omega
    refine ⟨some x, c, zs.take n, by rw [hl2], fun hne => ?_, by omega, by omega, fun u hu => hwz u (List.mem_of_mem_take hu)⟩
    have hn : 0 < n := by
      rcases Nat.eq_zero_or_pos n with h0 | h0
      · subst h0; simp at hne
      · exact h0
    obtain ⟨b, off, spot⟩ := x
    have hspot : spot = none := by simpa [Addr.add] using World.cell?_spot (hcell 0 (by omega))
    subst hspot
    refine ⟨b, off, rfl, Nat.zero_le _, World.block_lt_of_cell? W ⟨b, off, none⟩ (by simpa [Addr.add] using hcell 0 (by omega)), fun i u hu => ?_⟩
    have hi : i < n := by
      have := (List.getElem?_eq_some_iff.1 hu).1
      simp at this; omega
    have hi' : i < zs.length := by omega
    have e1 : u = .int k zs[i] := by
      simp [hi] at hu
      obtain ⟨y, hy, rfl⟩ := hu
      rw [List.getElem?_eq_getElem hi'] at hy
      rw [Option.some.inj hy]
    have := hcell i (by omega)
    rw [e1]
    simp only [List.getD_eq_getElem?_getD, List.getElem?_eq_getElem hi', Option.getD_some] at this
    by_cases h0 : i = 0
    · subst h0
      simpa [Addr.add] using this
    · simpa [Addr.add, h0] using this
end Go.Law
/-
  Two tables (layer 10) in memory, apart; replies of both beside each other.
-/
namespace Go.Proofs.YtombdjkfbjpipaaGreat
open Go.RowKit Go.Shelf
namespace Mod
open Go.Law Feed Bk
section
variable {w W W' : World} {base m ma mb : Nat} {S T T' Sa Sb Sa' Sb' : Nat → Prop} {a a' b b' : Mo}
theorem Live.other (h : Live w W base S m a) (hG : Gone W T W' T') (hd : ∀ x, S x → ¬ T x) (hT : ∀ n, T n → w.heap.size ≤ n) : Live w W' base S m a :=
  ⟨h.tab.touch hG.touch hd hG.still, hG.below hT h.bel h.bel.size, h.new⟩
structure Two (w W : World) (Sa Sb : Nat → Prop) (ma mb : Nat) (a b : Mo) : Prop where
  la : Live w W w.heap.size Sa ma a
  lb : Live w W w.heap.size Sb mb b
  apart : ∀ x, Sa x → ¬ Sb x
theorem Two.below (h : Two w W Sa Sb ma mb a b) (hb : Below W.heap.size W W') : Two w W' Sa Sb ma mb a b := ⟨h.la.below hb, h.lb.below hb, h.apart⟩
theorem Two.first (h : Two w W Sa Sb ma mb a b) (hT : Tab W' w.heap.size Sa' ma a') (hG : Gone W Sa W' Sa') : Two w W' Sa' Sb ma mb a' b :=
  ⟨h.la.gone hT hG, Live.other h.lb hG (fun x hb ha => h.apart x ha hb) h.la.new, fun x hx hb => (hG.new x hx).elim (fun ha => h.apart x ha hb) (fun hl => by have := (h.lb.tab.ok x hb).2; omega)⟩
theorem Two.second (h : Two w W Sa Sb ma mb a b) (hT : Tab W' w.heap.size Sb' mb b') (hG : Gone W Sb W' Sb') : Two w W' Sa Sb' ma mb a b' :=
  ⟨Live.other h.la hG h.apart h.lb.new, h.lb.gone hT hG, fun x ha hx => (hG.new x hx).elim (fun hb => h.apart x ha hb) (fun hl => by have := (h.la.tab.ok x ha).2; omega)⟩
abbrev zeroR : Array Value := #[.int .i64 0, .slice none 0 0, .slice none 0 0, .bool false]
/-- on the way: the tables, new blocks for replies (G), what was answered (Q by the first one, Z by the second one) -/
structure Mid (w W : World) (Sa Sb : Nat → Prop) (ma mb : Nat) (a b : Mo) (G : List (Nat × Array Value)) (Q Z : List (Option Addr × List Value)) : Prop where
  two : Two w W Sa Sb ma mb a b
  box : ∀ p ∈ G, Is W p.1 43 p.2 ∧ ¬ Sa p.1 ∧ ¬ Sb p.1
  one : (G.map Prod.fst).Nodup
  old : ∀ p ∈ G, w.heap.size ≤ p.1
  q : ∀ s ∈ Q, ∃ lo hi, Seq W lo hi s.1 s.2 ∧ hi ≤ W.heap.size ∧ (∀ x, Sb x → x < lo ∨ hi ≤ x) ∧ ∀ p ∈ G, p.1 < lo ∨ hi ≤ p.1
  z : ∀ s ∈ Z, ∃ lo hi, Seq W lo hi s.1 s.2 ∧ hi ≤ W.heap.size ∧ ∀ p ∈ G, p.1 < lo ∨ hi ≤ p.1
variable {G : List (Nat × Array Value)} {Q Z : List (Option Addr × List Value)}
theorem Mid.start (h : Two w W Sa Sb ma mb a b) : Mid w W Sa Sb ma mb a b [] [] [] := ⟨h, fun _ hp => (by cases hp), List.nodup_nil, fun _ hp => (by cases hp), fun _ hp => (by cases hp), fun _ hp => (by cases hp)⟩
theorem Mid.below (h : Mid w W Sa Sb ma mb a b G Q Z) (hb : Below W.heap.size W W') : Mid w W' Sa Sb ma mb a b G Q Z :=
  ⟨h.two.below hb, fun p hp => ⟨(h.box p hp).1.below hb (h.box p hp).1.lt, (h.box p hp).2⟩, h.one, h.old,
   fun s hs => by obtain ⟨lo, hi, h1, h2, h3, h4⟩ := h.q s hs; exact ⟨lo, hi, h1.below (hb.mono h2), Nat.le_trans h2 hb.size, h3, h4⟩,
   fun s hs => by obtain ⟨lo, hi, h1, h2, h4⟩ := h.z s hs; exact ⟨lo, hi, h1.below (hb.mono h2), Nat.le_trans h2 hb.size, h4⟩⟩
theorem Mid.drew (h : Mid w W Sa Sb ma mb a b G Q Z) : Mid w W.drew Sa Sb ma mb a b G Q Z := h.below (Law.below_drewN (Below.refl _ W) 1)
theorem Mid.alloc (h : Mid w W Sa Sb ma mb a b G Q Z) : Mid w (W.alloc (.cells zeroR 43)) Sa Sb ma mb a b ((W.heap.size, zeroR) :: G) Q Z := by
  have hb := (Below.refl W.heap.size W).alloc (Nat.le_refl _) (.cells zeroR 43)
  have h1 := h.below hb
  refine ⟨h1.two, fun p hp => ?_, ?_, fun p hp => ?_, fun s hs => ?_, fun s hs => ?_⟩
  · rcases List.mem_cons.1 hp with rfl | hp
    · exact ⟨Is.new W _ _ rfl, fun hx => Nat.lt_irrefl _ (h.two.la.tab.ok _ hx).2, fun hx => Nat.lt_irrefl _ (h.two.lb.tab.ok _ hx).2⟩
    · exact h1.box p hp
  · rw [List.map_cons, List.nodup_cons]
    refine ⟨fun hm => ?_, h.one⟩
    obtain ⟨p, hp, e⟩ := List.mem_map.1 hm
    have := (h.box p hp).1.lt
    simp only at e
    omega
  · rcases List.mem_cons.1 hp with rfl | hp
    · exact h.two.la.bel.size
    · exact h.old p hp
  · obtain ⟨lo, hi, k1, k2, k3, k4⟩ := h.q s hs
    refine ⟨lo, hi, k1.below (hb.mono k2), Nat.le_trans k2 hb.size, k3, fun p hp => ?_⟩
    rcases List.mem_cons.1 hp with rfl | hp
    · exact .inr k2
    · exact k4 p hp
  · obtain ⟨lo, hi, k1, k2, k4⟩ := h.z s hs
    refine ⟨lo, hi, k1.below (hb.mono k2), Nat.le_trans k2 hb.size, fun p hp => ?_⟩
    rcases List.mem_cons.1 hp with rfl | hp
    · exact .inr k2
    · exact k4 p hp
/-- the first table has answered -/
theorem Mid.first (h : Mid w W Sa Sb ma mb a b G [] []) (hT : Tab W' w.heap.size Sa' ma a') (hG : Gone W Sa W' Sa') {A A2 : Option Addr} {xs ys : List Value} (h1 : Seq W' W.heap.size W'.heap.size A xs) (h2 : Seq W' W.heap.size W'.heap.size A2 ys) : Mid w W' Sa' Sb ma mb a' b G [(A, xs), (A2, ys)] [] := by
  refine ⟨h.two.first hT hG, fun p hp => ⟨hG.is (h.box p hp).1 (h.box p hp).2.1, fun hx => (hG.new _ hx).elim (h.box p hp).2.1 (fun hl => by have := (h.box p hp).1.lt; omega), (h.box p hp).2.2⟩, h.one, h.old, fun s hs => ?_, fun s hs => (by cases hs)⟩
  refine ⟨W.heap.size, W'.heap.size, ?_, Nat.le_refl _, fun x hx => .inl (h.two.lb.tab.ok x hx).2, fun p hp => .inl (h.box p hp).1.lt⟩
  rcases List.mem_cons.1 hs with rfl | hs
  · exact h1
  · obtain rfl := List.mem_singleton.1 hs; exact h2
/-- the second table has answered -/
theorem Mid.second (h : Mid w W Sa Sb ma mb a b G Q []) (hT : Tab W' w.heap.size Sb' mb b') (hG : Gone W Sb W' Sb') {A A2 : Option Addr} {xs ys : List Value} (h1 : Seq W' W.heap.size W'.heap.size A xs) (h2 : Seq W' W.heap.size W'.heap.size A2 ys) : Mid w W' Sa Sb' ma mb a b' G Q [(A, xs), (A2, ys)] := by
  refine ⟨h.two.second hT hG, fun p hp => ⟨hG.is (h.box p hp).1 (h.box p hp).2.2, (h.box p hp).2.1, fun hx => (hG.new _ hx).elim (h.box p hp).2.2 (fun hl => by have := (h.box p hp).1.lt; omega)⟩, h.one, h.old, fun s hs => ?_, fun s hs => ?_⟩
  · obtain ⟨lo, hi, k1, k2, k3, k4⟩ := h.q s hs
    exact ⟨lo, hi, hG.seq k1 k2 k3, Nat.le_trans k2 hG.touch.size, fun x hx => (hG.new x hx).elim (k3 x) (fun hl => .inr (Nat.le_trans k2 hl)), k4⟩
  · refine ⟨W.heap.size, W'.heap.size, ?_, Nat.le_refl _, fun p hp => .inl (h.box p hp).1.lt⟩
    rcases List.mem_cons.1 hs with rfl | hs
    · exact h1
    · obtain rfl := List.mem_singleton.1 hs; exact h2
theorem Mid.swap {p p' : Nat × Array Value} (h : Mid w W Sa Sb ma mb a b [p, p'] Q Z) : Mid w W Sa Sb ma mb a b [p', p] Q Z := by
  have hm : ∀ x, x ∈ [p', p] → x ∈ [p, p'] := fun x hx => by simp at hx ⊢; exact hx.symm
  refine ⟨h.two, fun x hx => h.box x (hm x hx), ?_, fun x hx => h.old x (hm x hx), fun s hs => ?_, fun s hs => ?_⟩
  · have h1 := h.one
    simp at h1 ⊢
    exact fun e => h1 e.symm
  · obtain ⟨lo, hi, k1, k2, k3, k4⟩ := h.q s hs
    exact ⟨lo, hi, k1, k2, k3, fun x hx => k4 x (hm x hx)⟩
  · obtain ⟨lo, hi, k1, k2, k4⟩ := h.z s hs
    exact ⟨lo, hi, k1, k2, fun x hx => k4 x (hm x hx)⟩
/-- a cell of a reply's block is put -/
theorem Mid.put1 {g i : Nat} {cs cs' : Array Value} (h : Mid w W Sa Sb ma mb a b ((g, cs) :: G) Q Z) (u : Value) (hc : cs.setIfInBounds i u = cs') : Mid w (W.setCell ⟨g, i, none⟩ u) Sa Sb ma mb a b ((g, cs') :: G) Q Z := by
  have hg := h.box (g, cs) (by simp)
  have ht := Law.Touch.store (T := fun n => n = g) W ⟨g, i, none⟩ u rfl
  have hst : Still W (W.setCell ⟨g, i, none⟩ u) := Still.store hg.1 (by decide) (by decide) (by decide) u
  have hz : (W.setCell ⟨g, i, none⟩ u).heap.size = W.heap.size := by simp
  have hgw : w.heap.size ≤ g := h.old (g, cs) (by simp)
  refine ⟨⟨⟨h.two.la.tab.touch ht (fun x hx e => hg.2.1 (e ▸ hx)) hst, h.two.la.bel.setCell (p := ⟨g, i, none⟩) hgw u, h.two.la.new⟩, ⟨h.two.lb.tab.touch ht (fun x hx e => hg.2.2 (e ▸ hx)) hst, h.two.lb.bel.setCell (p := ⟨g, i, none⟩) hgw u, h.two.lb.new⟩, h.two.apart⟩, fun p hp => ?_, h.one, fun p hp => ?_, fun s hs => ?_, fun s hs => ?_⟩
  · rcases List.mem_cons.1 hp with rfl | hp
    · exact ⟨hg.1.set i u hc, hg.2⟩
    · have hk := h.box p (by simp [hp])
      have h1 := h.one
      rw [List.map_cons, List.nodup_cons] at h1
      exact ⟨ht.is hk.1 (fun e => h1.1 (List.mem_map.2 ⟨p, hp, e⟩)), hk.2⟩
  · rcases List.mem_cons.1 hp with rfl | hp
    · exact hgw
    · exact h.old p (by simp [hp])
  · obtain ⟨lo, hi, k1, k2, k3, k4⟩ := h.q s hs
    refine ⟨lo, hi, k1.store (p := ⟨g, i, none⟩) (k4 (g, cs) (by simp)) u, by omega, k3, fun p hp => ?_⟩
    rcases List.mem_cons.1 hp with rfl | hp
    · exact k4 (g, cs) (by simp)
    · exact k4 p (by simp [hp])
  · obtain ⟨lo, hi, k1, k2, k4⟩ := h.z s hs
    refine ⟨lo, hi, k1.store (p := ⟨g, i, none⟩) (k4 (g, cs) (by simp)) u, by omega, fun p hp => ?_⟩
    rcases List.mem_cons.1 hp with rfl | hp
    · exact k4 (g, cs) (by simp)
    · exact k4 p (by simp [hp])
theorem Mid.put {g : Nat} {y0 y1 y2 y3 : Value} (h : Mid w W Sa Sb ma mb a b ((g, #[y0, y1, y2, y3]) :: G) Q Z) (v0 v1 v2 v3 : Value) :
    Mid w ((((W.setCell ⟨g, 0, none⟩ v0).setCell ⟨g, 1, none⟩ v1).setCell ⟨g, 2, none⟩ v2).setCell ⟨g, 3, none⟩ v3) Sa Sb ma mb a b ((g, #[v0, v1, v2, v3]) :: G) Q Z :=
  (((h.put1 (i := 0) (cs' := #[v0, y1, y2, y3]) v0 rfl).put1 (i := 1) (cs' := #[v0, v1, y2, y3]) v1 rfl).put1 (i := 2) (cs' := #[v0, v1, v2, y3]) v2 rfl).put1 (i := 3) (cs' := #[v0, v1, v2, v3]) v3 rfl
end
end Mod
end Go.Proofs.YtombdjkfbjpipaaGreat

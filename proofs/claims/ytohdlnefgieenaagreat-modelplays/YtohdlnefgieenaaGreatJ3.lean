/-
  A slice argument whose elements take any number of cells, opened by what one element is. General over programs.
-/
import Derived.Test.YtohdlnefgieenaaGreatJ0
import Derived.ChangeSlices
import Derived.Deep.SlicePairs
import Derived.Test.YtohdlnefgieenaaGreatJ2
namespace Go.Law
open Go.RowKit Go.ChangeShapes Go.WideShapes Go.ChangeAt
theorem add_plainR (b off i : Nat) : (⟨b, off, none⟩ : Addr).add i = ⟨b, off + i, none⟩ := by
  by_cases h0 : i = 0
  · subst h0; simp [Addr.add]
  · simp [Addr.add, h0]
section
variable {α : Type} (cells : α → List Value) {sz : Nat} (hc : ∀ q, (cells q).length = sz)
include hc
theorem rows_length : ∀ l : List α, (l.flatMap cells).length = l.length * sz
  | [] => by simp
  | q :: r => by rw [List.flatMap_cons, List.length_append, hc, rows_length r, List.length_cons, Nat.add_mul]; omega
theorem rows_at : ∀ {l : List α} {i : Nat} {q : α}, l[i]? = some q → ∀ {j : Nat}, j < sz → (l.flatMap cells)[i * sz + j]? = (cells q)[j]?
  | [], _, _, h, _, _ => by simp at h
  | p :: r, 0, q, h, j, hj => by
    simp at h; subst h
    rw [List.flatMap_cons, Nat.zero_mul, Nat.zero_add, List.getElem?_append_left (by rw [hc]; exact hj)]
  | p :: r, i + 1, q, h, j, hj => by
    rw [List.flatMap_cons, List.getElem?_append_right (by rw [hc, Nat.add_mul]; omega), hc, show (i + 1) * sz + j - sz = i * sz + j by rw [Nat.add_mul]; omega]
    exact rows_at (by simpa using h) hj
/-- an element's cells, out of a slice of such -/
theorem Seq.row {w : World} {lo B : Nat} {A : Option Addr} {l : List α} {i : Nat} (hsz : 0 < sz) (h : Seq w lo B A (l.flatMap cells)) (hi : i < l.length) : ∃ b off, A = some ⟨b, off, none⟩ ∧ lo ≤ b ∧ b < B ∧ ∀ j u, (cells l[i])[j]? = some u → w.cell? ⟨b, off + i * sz + j, none⟩ = some u := by
  have hne : l.flatMap cells ≠ [] := by
    intro h0
    have := rows_length cells hc l
    rw [h0, List.length_nil] at this
    have := Nat.mul_pos (show 0 < l.length by omega) hsz
    omega
  obtain ⟨b, off, e, hl, hb, hcell⟩ := h hne
  refine ⟨b, off, e, hl, hb, fun j u hu => ?_⟩
  have hj : j < sz := by have := (List.getElem?_eq_some_iff.1 hu).1; rwa [hc] at this
  have := hcell (i * sz + j) u (by rw [rows_at cells hc (List.getElem?_eq_getElem hi) hj]; exact hu)
  rwa [← Nat.add_assoc] at this
theorem open_rows {H : Type} {enc : TypeId × Value → H} {P : Program} {t e : TypeId} {Good : α → Prop} (ht : P.underlying t = some (.slice e)) (ce : P.cellsOf e = sz) (hsz : 0 < sz)
    {W : World} {base b0 : Nat} {sp : Nat → Bool} {hd : Bool} {v : Value} {d : DataW H} {p : List MemPlace}
    (dec : ∀ (fuel : Nat) (cs : List Value) (x : DataW H × List MemPlace), DataW.trod enc P W base sp hd fuel e cs = some x → ∃ q : α, cs = cells q ∧ Good q)
    (hv : Value.okWide P W .any b0 t v) (h : DataW.Trod enc P W base sp hd t v d p) :
    ∃ (A : Option Addr) (c : Nat) (l : List α), v = .slice A l.length c ∧ Seq W 0 W.heap.size A (l.flatMap cells) ∧ l.length ≤ maxLen ∧ ∀ q ∈ l, Good q := by
  obtain ⟨a, n, c, rfl⟩ := okWide_slice ht hv
  obtain ⟨fuel, hf⟩ := h
  rcases Go.Deep.open_slice ht hf with ⟨hcs, _⟩ | ⟨x, l, k, m, n', D, Pl, hcs, _, hl, hmx, hm, hdp, hx⟩
  · simp [Value.cells] at hcs
    obtain ⟨rfl, rfl, rfl⟩ := hcs
    exact ⟨none, 0, [], rfl, fun h => absurd rfl h, by simp, fun _ h => by cases h⟩
  · simp [Value.cells] at hcs
    obtain ⟨rfl, rfl, rfl⟩ := hcs
    have hlm : n ≤ m := by rw [hm]; split <;> omega
    obtain ⟨b, off, spot⟩ := x
    have hsp : 0 < n → spot = none := fun hn => by
      obtain ⟨cs', h1, h2⟩ := hx 0 (by omega)
      rw [ce] at h1
      obtain ⟨_, hlen, hcell⟩ := World.cells?_some h1
      have e0 := hcell 0 (by omega)
      rw [Go.Deep.add_add, List.getElem?_eq_getElem (by omega)] at e0
      have := World.cell?_spot e0
      simpa [Addr.add] using this
    have each : ∀ i, i < n → spot = none ∧ b < W.heap.size ∧ ∃ q : α, Good q ∧ ∀ j u, (cells q)[j]? = some u → W.cell? ⟨b, off + i * sz + j, none⟩ = some u := fun i hi => by
      obtain ⟨cs', h1, h2⟩ := hx i (by omega)
      rw [ce] at h1
      obtain ⟨_, hlen, hcell⟩ := World.cells?_some h1
      obtain ⟨q, rfl, hg⟩ := dec _ _ _ h2
      have hspot : spot = none := hsp (by omega)
      subst hspot
      have hj : ∀ j u, (cells q)[j]? = some u → W.cell? ⟨b, off + i * sz + j, none⟩ = some u := fun j u hu => by
        have hjl : j < sz := by have := (List.getElem?_eq_some_iff.1 hu).1; rwa [hc] at this
        have e0 := hcell j hjl
        rw [Go.Deep.add_add, add_plainR, hu, ← Nat.add_assoc] at e0
        exact e0
      refine ⟨rfl, ?_, q, hg, hj⟩
      have h0 : (cells q)[0]? = some ((cells q)[0]'(by rw [hc]; exact hsz)) := List.getElem?_eq_getElem _
      exact World.block_lt_of_cell? W _ (hj 0 _ h0)
    have : ∃ g : Nat → Option α, ∀ i, i < n → ∃ q, g i = some q ∧ Good q ∧ ∀ j u, (cells q)[j]? = some u → W.cell? ⟨b, off + i * sz + j, none⟩ = some u := by
      refine ⟨fun i => if h : i < n then some (Classical.choose (each i h).2.2) else none, fun i hi => ?_⟩
      simp only [hi, dif_pos]
      exact ⟨_, rfl, Classical.choose_spec (each i hi).2.2⟩
    obtain ⟨g, hg⟩ := this
    have hmap : ∃ l : List α, l.length = n ∧ ∀ i q, l[i]? = some q → Good q ∧ ∀ j u, (cells q)[j]? = some u → W.cell? ⟨b, off + i * sz + j, none⟩ = some u := by
      clear hl hmx hm hx hlm each hv hf hsp hdp
      induction n with
      | zero => exact ⟨[], rfl, fun i q h => by simp at h⟩
      | succ n ih =>
        obtain ⟨l, hl, hq⟩ := ih (fun i hi => hg i (by omega))
        obtain ⟨q, _, hG, hQ⟩ := hg n (by omega)
        refine ⟨l ++ [q], by simp [hl], fun i q' h => ?_⟩
        rcases Nat.lt_or_ge i n with h1 | h1
        · rw [List.getElem?_append_left (by omega)] at h
          exact hq i q' h
        · rw [List.getElem?_append_right (by omega)] at h
          have hi : i = n := by
            have := (List.getElem?_eq_some_iff.1 h).1
            simp at this; omega
          subst hi
          simp [hl] at h
          subst h
          exact ⟨hG, hQ⟩
    obtain ⟨l, hll, hlq⟩ := hmap
    subst hll
    refine ⟨some ⟨b, off, spot⟩, c, l, rfl, fun hne => ?_, by omega, fun q hq => ?_⟩
    · have hn : 0 < l.length := by
        rcases Nat.eq_zero_or_pos l.length with h0 | h0
        · rw [List.eq_nil_of_length_eq_zero h0] at hne; simp at hne
        · exact h0
      obtain ⟨hsp', hb, _⟩ := each 0 hn
      subst hsp'
      refine ⟨b, off, rfl, Nat.zero_le _, hb, fun i u hu => ?_⟩
      have hi : i < l.length * sz := by
        have := (List.getElem?_eq_some_iff.1 hu).1
        rwa [rows_length cells hc] at this
      have hq : i / sz < l.length := (Nat.div_lt_iff_lt_mul hsz).2 hi
      have hj : i % sz < sz := Nat.mod_lt _ hsz
      have hdm : i / sz * sz + i % sz = i := by rw [Nat.mul_comm]; exact Nat.div_add_mod i sz
      have h1 := rows_at cells hc (List.getElem?_eq_getElem hq) hj
      rw [hdm, hu] at h1
      have h2 := (hlq _ _ (List.getElem?_eq_getElem hq)).2 (i % sz) u h1.symm
      rwa [Nat.add_assoc, hdm] at h2
    · obtain ⟨i, hi, rfl⟩ := List.getElem_of_mem hq
      exact (hlq i _ (List.getElem?_eq_getElem hi)).1
end
/-- a struct argument by what its cells are -/
theorem open_struct {α : Type} (cells : α → List Value) {Good : α → Prop} {H : Type} {enc : TypeId × Value → H} {P : Program} {t : TypeId} {fs : Array Field} (ht : P.underlying t = some (.struct fs))
    {W : World} {base b0 : Nat} {sp : Nat → Bool} {hd : Bool} {v : Value} {d : DataW H} {p : List MemPlace}
    (dec : ∀ (fuel : Nat) (cs : List Value) (x : DataW H × List MemPlace), DataW.trod enc P W base sp hd fuel t cs = some x → ∃ q : α, cs = cells q ∧ Good q)
    (hv : Value.okWide P W .any b0 t v) (h : DataW.Trod enc P W base sp hd t v d p) : ∃ q : α, v = .agg (cells q).toArray ∧ Good q := by
  obtain ⟨cs, rfl, _⟩ := okWide_struct ht hv
  obtain ⟨fuel, hf⟩ := h
  obtain ⟨q, hq, hg⟩ := dec _ _ _ hf
  refine ⟨q, ?_, hg⟩
  rw [← hq]
  simp [Value.cells]
end Go.Law
/-
  Cells that lie in a block of one type: as long as no block of that type turns, they lie as they lay. General over programs.
-/
namespace Go.Law
open Go.RowKit
/-- these cells lie at A, in a block of type t -/
def Lain (t : TypeId) (w : World) (A : Option Addr) (xs : List Value) : Prop := xs ≠ [] → ∃ g off cs, A = some ⟨g, off, none⟩ ∧ Is w g t cs ∧ ∀ (i : Nat) u, xs[i]? = some u → cs[off + i]? = some u
section
variable {t : TypeId} {w w' : World} {A : Option Addr} {xs : List Value}
theorem Lain.nil : Lain t w A [] := fun h => absurd rfl h
theorem Lain.seq (h : Lain t w A xs) : Seq w 0 w.heap.size A xs := fun hn => by
  obtain ⟨g, off, cs, e, hi, hc⟩ := h hn
  exact ⟨g, off, e, Nat.zero_le _, hi.lt, fun i u hu => (hi.cell _).trans (hc i u hu)⟩
theorem Lain.keeps (h : Lain t w A xs) (hk : Keeps t w w') : Lain t w' A xs := fun hn => by
  obtain ⟨g, off, cs, e, hi, hc⟩ := h hn
  exact ⟨g, off, cs, e, hk.is hi, hc⟩
theorem Lain.now (h : Lain t w A xs) (hb : Below w.heap.size w w') : Lain t w' A xs := h.keeps (Keeps.of_below hb)
theorem Lain.is {g : Nat} {cs : Array Value} (h : Is w g t cs) (e : cs.toList = xs) : Lain t w (some ⟨g, 0, none⟩) xs := fun _ => ⟨g, 0, cs, rfl, h, fun i u hu => by subst e; simpa using hu⟩
theorem Lain.own {base size n c : Nat} (h : w.ownsRow base t size (.slice A n c) n xs) : Lain t w A xs := fun hn => by
  rcases h.2 with ⟨h1, h2⟩ | ⟨k, cap, cur, hv, hk, hh, hr⟩
  · exact absurd (List.eq_nil_of_length_eq_zero (by rw [h.1, h2]; simp)) hn
  · injection hv with hA
    subst hA
    refine ⟨k, 0, cur, rfl, hh, fun i u hu => ?_⟩
    rw [← hr.2.2.2] at hu
    rw [List.getElem?_take] at hu
    split at hu
    · rw [Nat.zero_add]; simpa using hu
    · cases hu
end
end Go.Law
/-
  Books in memory: an entry's cells and the sessions that they stand for; a book as a plain list; what has to be told, as cells. General over programs.
-/
namespace Go.Law
open Go.RowKit
section
variable {κ α β : Type} (lt : κ → κ → Prop) [DecidableRel lt] [DecidableEq κ]
/-- each value turned -/
def mapV (f : α → β) (xs : List (κ × α)) : List (κ × β) := xs.map fun q => (q.1, f q.2)
omit [DecidableEq κ] in
theorem mapV_put (f : α → β) (k : κ) (v : α) : ∀ xs : List (κ × α), mapV f (putK lt k v xs) = putK lt k (f v) (mapV f xs)
  | [] => rfl
  | p :: r => by
    have ih := mapV_put f k v r
    unfold mapV at *
    rw [List.map_cons, putK, putK]
    simp only
    split
    · simp
    · split
      · rw [List.map_cons, ih]
      · simp
omit [DecidableRel lt] lt in
theorem mapV_out (f : α → β) (k : κ) : ∀ xs : List (κ × α), mapV f (outK k xs) = outK k (mapV f xs)
  | [] => rfl
  | p :: r => by
    have ih := mapV_out f k r
    unfold mapV outK at *
    rw [List.map_cons]
    by_cases h : p.1 = k
    · rw [List.filter_cons_of_neg (by simp [h]), List.filter_cons_of_neg (by simp [h]), ih]
    · rw [List.filter_cons_of_pos (by simpa using h), List.filter_cons_of_pos (by simpa using h), List.map_cons, ih]
omit [DecidableRel lt] lt in
theorem mapV_get (f : α → β) (k : κ) : ∀ xs : List (κ × α), getK k (mapV f xs) = (getK k xs).map f
  | [] => rfl
  | p :: r => by
    have ih := mapV_get f k r
    unfold mapV at *
    rw [List.map_cons, getK, getK]
    simp only
    split
    · rfl
    · exact ih
omit [DecidableRel lt] [DecidableEq κ] lt in
theorem mapV_length (f : α → β) (xs : List (κ × α)) : (mapV f xs).length = xs.length := List.length_map ..
omit [DecidableRel lt] [DecidableEq κ] in
theorem mapV_rises {f : α → β} {xs : List (κ × α)} : Rises lt (mapV f xs) ↔ Rises lt xs := by unfold mapV Rises; rw [List.pairwise_map]
end
/-- what was told last -/
abbrev EnV.told (v : EnV) : Pr := (v.st, v.pr, v.lv)
def EnV.en (v : EnV) : En := (v.ss, v.told)
theorem Tree4.any {t : TypeId} {κ ν : Type} {ek : κ → Value} {e0 e1 e2 e3 : ν → Value} {w : World} {B : Nat} {p : Option Addr} {xs : List (κ × ν)} (h : Tree4 t ek e0 e1 e2 e3 w B p xs) : Tree4 t ek e0 e1 e2 e3 w w.heap.size p xs := by
  induction h with
  | nil => exact .nil
  | node _ hi _ _ ihl ihr => exact .node hi.lt hi ihl ihr
/-- its sessions lie where it says, in a block of type t -/
def EnV.In (t : TypeId) (v : EnV) (w : World) : Prop := v.n = v.ss.length ∧ Lain t w v.A (flatS v.ss)
theorem EnV.In.keeps {t : TypeId} {v : EnV} {w w' : World} (h : v.In t w) (hk : Keeps t w w') : v.In t w' := ⟨h.1, h.2.keeps hk⟩
theorem EnV.In.zero (t : TypeId) (w : World) : EnV.zero.In t w := ⟨rfl, Lain.nil⟩
theorem EnV.en_zero : EnV.zero.en = ([], (0, 0, 0)) := rfl
theorem get_ses {xs : List (ByteArray × EnV)} (k : ByteArray) : ((getK k xs).getD EnV.zero).ss = sesK k (mapV EnV.en xs) := by
  unfold sesK; rw [mapV_get]; cases getK k xs <;> rfl
theorem get_told {xs : List (ByteArray × EnV)} (k : ByteArray) : ((getK k xs).getD EnV.zero).told = toldK k (mapV EnV.en xs) := by
  unfold toldK; rw [mapV_get]; cases getK k xs <;> rfl
theorem get_in {t : TypeId} {xs : List (ByteArray × EnV)} {w : World} (k : ByteArray) (h : ∀ q ∈ xs, q.2.In t w) : ((getK k xs).getD EnV.zero).In t w := by
  cases hg : getK k xs with
  | none => exact EnV.In.zero t w
  | some v => exact h _ (getK_mem hg)
/-! ### What has to be told -/
abbrev Ch := ByteArray × Pr × Pr
def cellsC (q : Ch) : List Value := [.string q.1, .int .i64 q.2.1.1, .int .i64 q.2.1.2.1, .int .i64 q.2.1.2.2, .int .i64 q.2.2.1, .int .i64 q.2.2.2.1, .int .i64 q.2.2.2.2]
def flatC (l : List Ch) : List Value := l.flatMap cellsC
theorem flatC_one (l : List Ch) : ∀ u ∈ flatC l, u.oneCell' = true := by
  intro u hu
  obtain ⟨q, _, hq⟩ := List.mem_flatMap.1 hu
  simp [cellsC] at hq
  rcases hq with rfl | rfl | rfl | rfl | rfl | rfl | rfl <;> rfl
theorem flatC_length (l : List Ch) : (flatC l).length = l.length * 7 := rows_length (cells := cellsC) (fun _ => rfl) l
theorem flatC_app (xs ys : List Ch) : flatC (xs ++ ys) = flatC xs ++ flatC ys := List.flatMap_append
theorem Seq.ch {w : World} {lo B : Nat} {A : Option Addr} {l : List Ch} {i : Nat} (h : Seq w lo B A (flatC l)) (hi : i < l.length) : ∃ b off, A = some ⟨b, off, none⟩ ∧ lo ≤ b ∧ b < B ∧
    w.cell? ⟨b, off + i * 7, none⟩ = some (.string l[i].1) ∧ w.cell? ⟨b, off + i * 7 + 1, none⟩ = some (.int .i64 l[i].2.1.1) ∧ w.cell? ⟨b, off + i * 7 + 2, none⟩ = some (.int .i64 l[i].2.1.2.1) ∧ w.cell? ⟨b, off + i * 7 + 3, none⟩ = some (.int .i64 l[i].2.1.2.2) ∧
    w.cell? ⟨b, off + i * 7 + 4, none⟩ = some (.int .i64 l[i].2.2.1) ∧ w.cell? ⟨b, off + i * 7 + 5, none⟩ = some (.int .i64 l[i].2.2.2.1) ∧ w.cell? ⟨b, off + i * 7 + 6, none⟩ = some (.int .i64 l[i].2.2.2.2) := by
  obtain ⟨b, off, hA, h1, h2, hc⟩ := Seq.row (cells := cellsC) (fun _ => rfl) (by decide : 0 < 7) h hi
  exact ⟨b, off, hA, h1, h2, by simpa using hc 0 _ rfl, hc 1 _ rfl, hc 2 _ rfl, hc 3 _ rfl, hc 4 _ rfl, hc 5 _ rfl, hc 6 _ rfl⟩
theorem tells_le (u : ByteArray) (ss : List Sn) (now : Int) (b : List (ByteArray × En)) : (tells u ss now b).length ≤ 1 := by unfold tells; split <;> simp
end Go.Law

/-
  A slice argument whose elements are slices: rows of events, rows of numbers. General over programs.
-/
import Derived.Test.YtohdlnefgieenaaGreatJ15
import Derived.Test.YtohdlnefgieenaaGreatJ20
import Derived.Deep.RegionHeld3
import Derived.Deep.OwnRows
namespace Go.Law
open Go.RowKit Go.ChangeShapes Go.WideShapes Go.ChangeAt
section
variable {α : Type} (cells : α → List Value) {sz : Nat} (hc : ∀ q, (cells q).length = sz)
include hc
theorem open_rowsT {H : Type} {enc : TypeId × Value → H} {P : Program} {t e : TypeId} {Good : α → Prop} (ht : P.underlying t = some (.slice e)) (ce : P.cellsOf e = sz) (hsz : 0 < sz)
    {W : World} {base fuel0 : Nat} {sp : Nat → Bool} {hd : Bool} {cs0 : List Value} {x0 : DataW H × List MemPlace}
    (dec : ∀ (fuel : Nat) (cs : List Value) (x : DataW H × List MemPlace), DataW.trod enc P W base sp hd fuel e cs = some x → ∃ q : α, cs = cells q ∧ Good q)
    (hf : DataW.trod enc P W base sp hd fuel0 t cs0 = some x0) :
    ∃ (A : Option Addr) (c : Nat) (l : List α), cs0 = [.slice A l.length c] ∧ l.length ≤ c ∧ Seq W 0 W.heap.size A (l.flatMap cells) ∧ l.length ≤ maxLen ∧ ∀ q ∈ l, Good q := by
  rcases Go.Deep.open_slice ht hf with ⟨hcs, _⟩ | ⟨x, n, c, m, n', D, Pl, hcs, _, hl, hmx, hm, hdp, hx⟩
  · subst hcs
    exact ⟨none, 0, [], rfl, Nat.le_refl _, fun h => absurd rfl h, by simp, fun _ h => by cases h⟩
  · subst hcs
    have hlm : n ≤ m := by rw [hm]; split <;> omega
    obtain ⟨b, off, spot⟩ := x
    have hsp : 0 < n → spot = none := fun hn => by
      obtain ⟨cs', h1, h2⟩ := hx 0 (by omega)
      rw [ce] at h1
      obtain ⟨_, hlen, hcell⟩ := World.cells?_some h1
      have e0 := hcell 0 (by omega)
      rw [Go.Deep.add_add, List.getElem?_eq_getElem (by omega)] at e0
      have := World.cell?_spot e0
      simpa [Addr.add] using this
    have each : ∀ i, i < n → spot = none ∧ b < W.heap.size ∧ ∃ q : α, Good q ∧ ∀ j u, (cells q)[j]? = some u → W.cell? ⟨b, off + i * sz + j, none⟩ = some u := fun i hi => by
      obtain ⟨cs', h1, h2⟩ := hx i (by omega)
      rw [ce] at h1
      obtain ⟨_, hlen, hcell⟩ := World.cells?_some h1
      obtain ⟨q, rfl, hg⟩ := dec _ _ _ h2
      have hspot : spot = none := hsp (by omega)
      subst hspot
      have hj : ∀ j u, (cells q)[j]? = some u → W.cell? ⟨b, off + i * sz + j, none⟩ = some u := fun j u hu => by
        have hjl : j < sz := by have := (List.getElem?_eq_some_iff.1 hu).1; rwa [hc] at this
        have e0 := hcell j hjl
        rw [Go.Deep.add_add, add_plainR, hu, ← Nat.add_assoc] at e0
        exact e0
      refine ⟨rfl, ?_, q, hg, hj⟩
      have h0 : (cells q)[0]? = some ((cells q)[0]'(by rw [hc]; exact hsz)) := List.getElem?_eq_getElem _
      exact World.block_lt_of_cell? W _ (hj 0 _ h0)
    have : ∃ g : Nat → Option α, ∀ i, i < n → ∃ q, g i = some q ∧ Good q ∧ ∀ j u, (cells q)[j]? = some u → W.cell? ⟨b, off + i * sz + j, none⟩ = some u := by
      refine ⟨fun i => if h : i < n then some (Classical.choose (each i h).2.2) else none, fun i hi => ?_⟩
      simp only [hi, dif_pos]
      exact ⟨_, rfl, Classical.choose_spec (each i hi).2.2⟩
    obtain ⟨g, hg⟩ := this
    have hmap : ∃ l : List α, l.length = n ∧ ∀ i q, l[i]? = some q → Good q ∧ ∀ j u, (cells q)[j]? = some u → W.cell? ⟨b, off + i * sz + j, none⟩ = some u := by
      clear hl hmx hm hx hlm each hf hsp hdp
      induction n with
      | zero => exact ⟨[], rfl, fun i q h => by simp at h⟩
      | succ n ih =>
        obtain ⟨l, hl, hq⟩ := ih (fun i hi => hg i (by omega))
        obtain ⟨q, _, hG, hQ⟩ := hg n (by omega)
        refine ⟨l ++ [q], by simp [hl], fun i q' h => ?_⟩
        rcases Nat.lt_or_ge i n with h1 | h1
        · rw [List.getElem?_append_left (by omega)] at h
          exact hq i q' h
        · rw [List.getElem?_append_right (by omega)] at h
          have hi : i = n := by
            have := (List.getElem?_eq_some_iff.1 h).1
            simp at this; omega
          subst hi
          simp [hl] at h
          subst h
          exact ⟨hG, hQ⟩
    obtain ⟨l, hll, hlq⟩ := hmap
    subst hll
    refine ⟨some ⟨b, off, spot⟩, c, l, rfl, by omega, fun hne => ?_, by omega, fun q hq => ?_⟩
    · have hn : 0 < l.length := by
        rcases Nat.eq_zero_or_pos l.length with h0 | h0
        · rw [List.eq_nil_of_length_eq_zero h0] at hne; simp at hne
        · exact h0
      obtain ⟨hsp', hb, _⟩ := each 0 hn
      subst hsp'
      refine ⟨b, off, rfl, Nat.zero_le _, hb, fun i u hu => ?_⟩
      have hi : i < l.length * sz := by
        have := (List.getElem?_eq_some_iff.1 hu).1
        rwa [rows_length cells hc] at this
      have hq : i / sz < l.length := (Nat.div_lt_iff_lt_mul hsz).2 hi
      have hj : i % sz < sz := Nat.mod_lt _ hsz
      have hdm : i / sz * sz + i % sz = i := by rw [Nat.mul_comm]; exact Nat.div_add_mod i sz
      have h1 := rows_at cells hc (List.getElem?_eq_getElem hq) hj
      rw [hdm, hu] at h1
      have h2 := (hlq _ _ (List.getElem?_eq_getElem hq)).2 (i % sz) u h1.symm
      rwa [Nat.add_assoc, hdm] at h2
    · obtain ⟨i, hi, rfl⟩ := List.getElem_of_mem hq
      exact (hlq i _ (List.getElem?_eq_getElem hi)).1
end
/-- a row: where it lies, how much room there is, and what it holds -/
structure RowV (α : Type) where
  A : Option Addr
  c : Nat
  xs : List α
def cellsR {α : Type} (q : RowV α) : List Value := [.slice q.A q.xs.length q.c]
theorem open_grid {α : Type} (cells : α → List Value) {sz : Nat} (hc : ∀ q, (cells q).length = sz) {H : Type} {enc : TypeId × Value → H} {P : Program} {t r e : TypeId} (ht : P.underlying t = some (.slice r)) (hr : P.underlying r = some (.slice e)) (cr : P.cellsOf r = 1) (ce : P.cellsOf e = sz) (hsz : 0 < sz)
    {W : World} {base b0 : Nat} {sp : Nat → Bool} {hd : Bool} {v : Value} {d : DataW H} {p : List MemPlace}
    (dec : ∀ (fuel : Nat) (cs : List Value) (x : DataW H × List MemPlace), DataW.trod enc P W base sp hd fuel e cs = some x → ∃ q : α, cs = cells q)
    (hv : Value.okWide P W .any b0 t v) (h : DataW.Trod enc P W base sp hd t v d p) :
    ∃ (A : Option Addr) (c : Nat) (l : List (RowV α)), v = .slice A l.length c ∧ l.length ≤ c ∧ Seq W 0 W.heap.size A (l.flatMap cellsR) ∧ l.length ≤ maxLen ∧ ∀ q ∈ l, Seq W 0 W.heap.size q.A (q.xs.flatMap cells) ∧ q.xs.length ≤ maxLen ∧ q.xs.length ≤ q.c := by
  obtain ⟨a, n, c, rfl⟩ := okWide_slice ht hv
  obtain ⟨fuel, hf⟩ := h
  obtain ⟨A, c', l, he, hc', hs, hl, hq⟩ := open_rowsT (Good := fun q : RowV α => Seq W 0 W.heap.size q.A (q.xs.flatMap cells) ∧ q.xs.length ≤ maxLen ∧ q.xs.length ≤ q.c) cellsR (fun _ => rfl) ht cr (by decide) (fun fuel cs x hf => by
    obtain ⟨A, c, l, rfl, hc2, hs, hl, _⟩ := open_rowsT (Good := fun _ => True) cells hc hr ce hsz (fun fuel cs x hf => by obtain ⟨q, hq⟩ := dec fuel cs x hf; exact ⟨q, hq, trivial⟩) hf
    exact ⟨⟨A, c, l⟩, rfl, hs, hl, hc2⟩) hf
  refine ⟨A, c', l, ?_, hc', hs, hl, hq⟩
  simpa [Value.cells] using he
section
variable {H : Type} {enc : TypeId × Value → H} {P : Program} {W : World} {base : Nat} {sp : Nat → Bool} {hd : Bool} {fuel : Nat} {cs : List Value} {x : DataW H × List MemPlace}
theorem dec_pres {o : TypeId} {g0 g1 g2 : Field} (ho : P.underlying o = some (.struct #[g0, g1, g2])) (co : P.cellsOf o = 3) (o0 : g0.offset = 0) (o1 : g1.offset = 1) (o2 : g2.offset = 2)
    (c0 : P.cellsOf g0.type = 1) (c1 : P.cellsOf g1.type = 1) (c2 : P.cellsOf g2.type = 1) (u0 : P.underlying g0.type = some (.int .i64)) (u1 : P.underlying g1.type = some (.int .i64)) (u2 : P.underlying g2.type = some (.int .i64))
    (h : DataW.trod enc P W base sp hd fuel o cs = some x) : ∃ a b c : Int, cs = [.int .i64 a, .int .i64 b, .int .i64 c] := by
  obtain ⟨xs, n, _, _, hl, hxl, hf⟩ := DataW.trod_struct ho h
  rw [co] at hl
  match cs, hl, xs, hxl with
  | [v0, v1, v2], _, [y0, y1, y2], _ =>
    have k0 := hf 0 g0 rfl
    have k1 := hf 1 g1 rfl
    have k2 := hf 2 g2 rfl
    simp [o0, o1, o2, c0, c1, c2] at k0 k1 k2
    obtain ⟨a0, e0, _, w0⟩ := DataW.trod_int u0 k0
    obtain ⟨a1, e1, _, w1⟩ := DataW.trod_int u1 k1
    obtain ⟨a2, e2, _, w2⟩ := DataW.trod_int u2 k2
    simp at e0 e1 e2
    subst e0 e1 e2
    exact ⟨a0, a1, a2, rfl⟩
theorem dec_ev {e : TypeId} {f0 f1 f2 f3 : Field} (he : P.underlying e = some (.struct #[f0, f1, f2, f3])) (ce : P.cellsOf e = 8) (o0 : f0.offset = 0) (o1 : f1.offset = 1) (o2 : f2.offset = 4) (o3 : f3.offset = 7)
    (c0 : P.cellsOf f0.type = 1) (c1 : P.cellsOf f1.type = 3) (c2 : P.cellsOf f2.type = 3) (c3 : P.cellsOf f3.type = 1) (u0 : P.underlying f0.type = some .string) (u3 : P.underlying f3.type = some (.int .u64))
    (d1 : ∀ fuel cs x, DataW.trod enc P W base sp hd fuel f1.type cs = some x → ∃ a b c : Int, cs = [.int .i64 a, .int .i64 b, .int .i64 c]) (d2 : ∀ fuel cs x, DataW.trod enc P W base sp hd fuel f2.type cs = some x → ∃ a b c : Int, cs = [.int .i64 a, .int .i64 b, .int .i64 c])
    (h : DataW.trod enc P W base sp hd fuel e cs = some x) : ∃ q : Ev, cs = cellsE q := by
  obtain ⟨xs, n, _, _, hl, hxl, hf⟩ := DataW.trod_struct he h
  rw [ce] at hl
  match cs, hl, xs, hxl with
  | [v0, v1, v2, v3, v4, v5, v6, v7], _, [y0, y1, y2, y3], _ =>
    have k0 := hf 0 f0 rfl
    have k1 := hf 1 f1 rfl
    have k2 := hf 2 f2 rfl
    have k3 := hf 3 f3 rfl
    simp [o0, o1, o2, o3, c0, c1, c2, c3] at k0 k1 k2 k3
    obtain ⟨a0, e0, _, w0⟩ := DataW.trod_string u0 k0
    obtain ⟨a1, b1, z1, e1⟩ := d1 _ _ _ k1
    obtain ⟨a2, b2, z2, e2⟩ := d2 _ _ _ k2
    obtain ⟨a3, e3, _, w3⟩ := DataW.trod_int u3 k3
    simp at e0 e1 e2 e3
    obtain ⟨rfl, rfl, rfl⟩ := e1
    obtain ⟨rfl, rfl, rfl⟩ := e2
    subst e0 e3
    exact ⟨⟨a0, a1, b1, z1, a2, b2, z2, a3⟩, rfl⟩
theorem dec_u64 {e : TypeId} (he : P.underlying e = some (.int .u64)) (h : DataW.trod enc P W base sp hd fuel e cs = some x) : ∃ q : Int, cs = [.int .u64 q] := by
  obtain ⟨a, e0, _, w0⟩ := DataW.trod_int he h
  exact ⟨a, e0⟩
end
end Go.Law
/-
  What Merge (layer 9) comes to.
-/
namespace Go.Proofs.YtohdlnefgieenaaGreat
open Go.RowKit Go.Shelf
attribute [local go_sem] Oper.semAt_some
namespace Feed
open Go.Law
/-- rows of events lie at A -/
structure Rows (w : World) (A : Option Addr) (l : List (RowV Ev)) : Prop where
  seq : Seq w 0 w.heap.size A (l.flatMap cellsR)
  row : ∀ q ∈ l, Seq w 0 w.heap.size q.A (flatE q.xs)
  cap : ∀ q ∈ l, q.xs.length ≤ q.c
theorem Rows.below {w w' : World} {A : Option Addr} {l : List (RowV Ev)} (h : Rows w A l) (hb : Below w.heap.size w w') : Rows w' A l :=
  ⟨(h.seq.below hb).more hb.size, fun q hq => ((h.row q hq).below hb).more hb.size, h.cap⟩
theorem rows_len (l : List (RowV Ev)) : (l.flatMap cellsR).length = l.length := by rw [rows_length (cells := cellsR) (sz := 1) (fun _ => rfl)]; omega
theorem rows_take (l : List (RowV Ev)) (i : Nat) : (l.take i).flatMap cellsR = (l.flatMap cellsR).take i := by
  induction l generalizing i with
  | nil => simp
  | cons q r ih =>
    cases i with
    | zero => simp
    | succ i => simp [cellsR, ih]
theorem rows_drop (l : List (RowV Ev)) (i : Nat) : (l.drop i).flatMap cellsR = (l.flatMap cellsR).drop i := by
  induction l generalizing i with
  | nil => simp
  | cons q r ih =>
    cases i with
    | zero => simp
    | succ i => simp [cellsR, ih]
theorem Rows.at {w : World} {A : Option Addr} {l : List (RowV Ev)} (h : Rows w A l) {i : Nat} (hi : i < l.length) : ∃ b off, A = some ⟨b, off, none⟩ ∧ b < w.heap.size ∧ w.cell? ⟨b, off + i, none⟩ = some (.slice l[i].A l[i].xs.length l[i].c) := by
  obtain ⟨b, off, hA, _, h2, hc⟩ := Seq.row (cells := cellsR) (fun _ => rfl) (by decide : 0 < 1) h.seq hi
  exact ⟨b, off, hA, h2, by simpa using hc 0 _ rfl⟩
theorem Rows.take {w : World} {A : Option Addr} {l : List (RowV Ev)} (h : Rows w A l) (i : Nat) : Rows w A (l.take i) :=
  ⟨fun hne => by
    rw [rows_take] at hne ⊢
    obtain ⟨b, o, e, h1, h2, h3⟩ := h.seq (by intro h0; rw [h0] at hne; simp at hne)
    exact ⟨b, o, e, h1, h2, fun j u hu => h3 j u (by rw [List.getElem?_take] at hu; split at hu; exact hu; cases hu)⟩, fun q hq => h.row q (List.mem_of_mem_take hq), fun q hq => h.cap q (List.mem_of_mem_take hq)⟩
theorem Rows.drop {w : World} {b o : Nat} {l : List (RowV Ev)} (h : Rows w (some ⟨b, o, none⟩) l) (i : Nat) : Rows w (some ⟨b, o + i, none⟩) (l.drop i) :=
  ⟨fun hne => by
    rw [rows_drop] at hne ⊢
    obtain ⟨b', o', e, h1, h2, h3⟩ := h.seq (by intro h0; rw [h0] at hne; simp at hne)
    obtain ⟨rfl, rfl, _⟩ := by simpa using e
    exact ⟨b, o + i, rfl, h1, h2, fun j u hu => by
      have := h3 (i + j) u (by rw [List.getElem?_drop] at hu; exact hu)
      rwa [← Nat.add_assoc] at this⟩, fun q hq => h.row q (List.mem_of_mem_drop hq), fun q hq => h.cap q (List.mem_of_mem_drop hq)⟩
def evs (l : List (RowV Ev)) : List (List Ev) := l.map (·.xs)
theorem evs_take (l : List (RowV Ev)) (i : Nat) : evs (l.take i) = (evs l).take i := List.map_take ..
theorem evs_drop (l : List (RowV Ev)) (i : Nat) : evs (l.drop i) = (evs l).drop i := List.map_drop ..
theorem total_take (l : List (List Ev)) (i : Nat) : total (l.take i) + total (l.drop i) = total l := by rw [← total_app, List.take_append_drop]
theorem all_len (l : List (List Ev)) : (all l).length = total l := all_length _ l (Nat.le_refl _)
set_option maxRecDepth 100000 in
set_option maxHeartbeats 4000000 in
theorem mergeAll : ∀ (n : Nat) (l : List (RowV Ev)) (A : Option Addr) (c : Nat) (w : World), l.length ≤ n → Rows w A l → l.length ≤ c → total (evs l) ≤ 500 → l.length ≤ 1000 →
    Calls Tryz.prog 75 #[.slice A l.length c] w (Lists w (all (evs l))) := by
  intro n
  induction n with
  | zero =>
    intro l A c w hn _ _ _ _
    obtain rfl := List.eq_nil_of_length_eq_zero (by omega : l.length = 0)
    go_enter Tryz.func75, Tryz.ntmps75
    go_wp2_with fail
    go_ret
    exact ⟨none, 0, rfl, Nat.le_refl _, fun h => absurd rfl h, Below.refl _ _⟩
  | succ n ih =>
    intro l A c w hn hR hc ht hl
    rcases l with _ | ⟨q, _ | ⟨q2, r⟩⟩
    · exact ih [] A c w (Nat.zero_le _) hR hc ht hl
    · have HR := Lib.hid hR
      obtain ⟨b, o, rfl, hb, c0⟩ := hR.at (i := 0) (by simp)
      simp only [List.getElem_cons_zero, Nat.add_zero] at c0
      have HE : Hid (all (evs [q]) = q.xs) := all_one q.xs
      have hq : q.xs.length ≤ 500 := by simpa [evs, total] using ht
      clear ih hR ht
      go_enter Tryz.func75, Tryz.ntmps75
      go_wp2_with fail
      refine (clone q.xs q.A q.c w (HR.out.row q (by simp)) (by omega)).mono ?_
      rintro e w1 ⟨A1, c1, rfl, hc1, hs, hb1⟩
      have HS := Lib.hid hs
      have HB := Lib.hid hb1
      clear hs hb1
      go_wp2_with fail
      go_ret
      exact ⟨A1, c1, by rw [HE.out]; rfl, by rw [HE.out]; exact hc1, by rw [HE.out]; exact HS.out, HB.out⟩
    · obtain ⟨b, o, rfl, hb, hcc⟩ := hR.at (i := 0) (by simp)
      clear hcc
      obtain ⟨h, hh⟩ : ∃ h : Nat, (q :: q2 :: r).length / 2 = h := ⟨_, rfl⟩
      have hlen : 2 ≤ (q :: q2 :: r).length := by simp
      generalize q :: q2 :: r = l at *
      have h1 : 1 ≤ h := by omega
      have h2 : h < l.length := by omega
      have HH : Hid ((l.length : Int) / 2 = (h : Int)) := by show _ = _; omega
      have HE := Lib.hid (all_half (evs l) h)
      have htt := total_take (evs l) h
      rw [← evs_take, ← evs_drop] at htt
      have HI1 : Hid (∀ w', Below w.heap.size w w' → Calls Tryz.prog 75 #[.slice (some ⟨b, o, none⟩) (l.take h).length c] w' (Lists w' (all (evs (l.take h))))) := fun w' hb' => ih (l.take h) _ c w' (by simp; omega) ((hR.below hb').take h) (by simp; omega) (by omega) (by simp; omega)
      have HI2 : Hid (∀ w', Below w.heap.size w w' → Calls Tryz.prog 75 #[.slice (some ⟨b, o + h, none⟩) (l.drop h).length (c - h)] w' (Lists w' (all (evs (l.drop h))))) := fun w' hb' => ih (l.drop h) _ (c - h) w' (by simp; omega) ((hR.below hb').drop h) (by simp; omega) (by omega) (by simp; omega)
      have e1 : (l.take h).length = h := by simp; omega
      have e2 : (l.drop h).length = l.length - h := by simp
      rw [e1] at HI1
      rw [e2] at HI2
      have hL1 := Lib.hid (all_len (evs (l.take h)))
      have hL2 := Lib.hid (all_len (evs (l.drop h)))
      rw [evs_take] at HI1 hL1 htt
      rw [evs_drop] at HI2 hL2 htt
      clear ih hR hh
      generalize (evs l).take h = L1 at *
      generalize (evs l).drop h = L2 at *
      generalize evs l = L at *
      have hl500 : total L1 + total L2 ≤ 500 := by omega
      clear htt ht hn
      go_enter Tryz.func75, Tryz.ntmps75
      have d0 : ((l.length : Int) == 0) = false := by rw [beq_eq_false_iff_ne]; omega
      have d1 : ((l.length : Int) == 1) = false := by rw [beq_eq_false_iff_ne]; omega
      go_wp2_with fail
      rw [HH.out]
      have hch : ¬ c = h := by omega
      have hi1 : (h : Int) ≤ (c : Int) := by omega
      have hi2 : (h : Int) ≤ (l.length : Int) := by omega
      have hi3 : h ≤ c := by omega
      have hi4 : h ≤ l.length := by omega
      have hbd : Below w.heap.size w w.drew := Law.below_drewN (Below.refl _ w) 1
      have HBD := Lib.hid hbd
      have szd : w.heap.size ≤ w.drew.heap.size := Nat.le_refl _
      clear hbd HH
      refine wp_region_held_drew (S := fun _ => True) (by kernel_rfl) trivial (fun hS0 => ?_)
      refine wpAnyH_take (i := 0) (oi := { dst := some 17, op := .move (.tmp 0), type := _, pos := _, after := _, guard := _ }) (v := .slice (some ⟨b, o, none⟩) l.length c) rfl (by kernel_rfl) (by kernel_rfl) (by kernel_rfl) (fun _ _ _ h => h) (Or.inl ⟨by rfl, ?_⟩) hS0 ?_
      · intro w' hSw
        go_simp
      try simp only [Act.put, List.setIfInBounds_toArray, List.set_cons_zero, List.set_cons_succ]
      refine wpAnyH_take (i := 1) (oi := { dst := some 18, op := .move (.tmp 3), type := _, pos := _, after := _, guard := _ }) (v := .int .i64 (h : Int)) rfl (by kernel_rfl) (by kernel_rfl) (by kernel_rfl) (fun _ _ _ h => h) (Or.inl ⟨by rfl, ?_⟩) hS0 ?_
      · intro w' hSw
        go_simp
      try simp only [Act.put, List.setIfInBounds_toArray, List.set_cons_zero, List.set_cons_succ]
      refine wpAnyH_take (i := 2) (oi := { dst := some 19, op := .slice 89 (.tmp 17) none (some (.tmp 18)) none, type := _, pos := _, after := _, guard := _ }) (v := .slice (some ⟨b, o, none⟩) h c) rfl (by kernel_rfl) (by kernel_rfl) (by kernel_rfl) (fun _ _ _ h => h) (Or.inl ⟨by rfl, ?_⟩) hS0 ?_
      · intro w' hSw
        go_simp; (try (first | omega | (simp; omega)))
      try simp only [Act.put, List.setIfInBounds_toArray, List.set_cons_zero, List.set_cons_succ]
      refine wpAnyH_take (i := 4) (oi := { dst := some 21, op := .move (.tmp 0), type := _, pos := _, after := _, guard := _ }) (v := .slice (some ⟨b, o, none⟩) l.length c) rfl (by kernel_rfl) (by kernel_rfl) (by kernel_rfl) (fun _ _ _ h => h) (Or.inl ⟨by rfl, ?_⟩) hS0 ?_
      · intro w' hSw
        go_simp
      try simp only [Act.put, List.setIfInBounds_toArray, List.set_cons_zero, List.set_cons_succ]
      refine wpAnyH_take (i := 5) (oi := { dst := some 22, op := .move (.tmp 3), type := _, pos := _, after := _, guard := _ }) (v := .int .i64 (h : Int)) rfl (by kernel_rfl) (by kernel_rfl) (by kernel_rfl) (fun _ _ _ h => h) (Or.inl ⟨by rfl, ?_⟩) hS0 ?_
      · intro w' hSw
        go_simp
      try simp only [Act.put, List.setIfInBounds_toArray, List.set_cons_zero, List.set_cons_succ]
      refine wpAnyH_take (i := 6) (oi := { dst := some 23, op := .slice 89 (.tmp 21) (some (.tmp 22)) none none, type := _, pos := _, after := _, guard := _ }) (v := .slice (some ⟨b, o + h, none⟩) (l.length - h) (c - h)) rfl (by kernel_rfl) (by kernel_rfl) (by kernel_rfl) (fun _ _ _ h => h) (Or.inl ⟨by rfl, ?_⟩) hS0 ?_
      · intro w' hSw
        go_simp; (try (first | omega | (simp; omega)))
      try simp only [Act.put, List.setIfInBounds_toArray, List.set_cons_zero, List.set_cons_succ]
      generalize w.drew = wd at *
      refine wpAnyH_ready (rs := [3]) (by kernel_rfl) (by simp) ?_
      refine AllReadyH.cons (o := { dst := some 20, op := .call { callee := .value (.func 75), args := #[.tmp 19], argTypes := _ }, type := _, pos := _, after := _, guard := _ }) rfl (fun K hK => ?_) AllReadyH.nil
      go_simp
      refine Calls.mono (HI1.out _ HBD.out) ?_
      rintro e w1 ⟨A1, c1, rfl, hc1, hs, hb1⟩
      have S1 := Lib.hid hs
      have B1 := Lib.hid (HBD.out.trans (hb1.mono szd))
      have sz1 := hb1.size
      clear hs hb1
      go_wp2_with fail
      refine hK.out _ _ trivial (fun hS1 => ?_)
      clear hK K
      try simp only [Act.put, List.setIfInBounds_toArray, List.set_cons_zero, List.set_cons_succ]
      refine wpAnyH_ready (rs := [7]) (by kernel_rfl) (by simp) ?_
      refine AllReadyH.cons (o := { dst := some 24, op := .call { callee := .value (.func 75), args := #[.tmp 23], argTypes := _ }, type := _, pos := _, after := _, guard := _ }) rfl (fun K hK => ?_) AllReadyH.nil
      go_simp
      refine Calls.mono (HI2.out _ B1.out) ?_
      rintro e w2 ⟨A2, c2, rfl, hc2, hs, hb2⟩
      have S2 := Lib.hid ((hs.from_ (Nat.zero_le _)))
      have S1b := Lib.hid (((S1.out.below hb2).more hb2.size).from_ (Nat.zero_le _))
      have B2 := Lib.hid (B1.out.trans (hb2.mono (Nat.le_trans szd sz1)))
      have sz2 := hb2.size
      clear hs hb2
      go_wp2_with fail
      refine hK.out _ _ trivial (fun hS2 => ?_)
      clear hK K
      try simp only [Act.put, List.setIfInBounds_toArray, List.set_cons_zero, List.set_cons_succ]
      refine wpAnyH_ready (rs := [8]) (by kernel_rfl) (by simp) ?_
      refine AllReadyH.cons (o := { dst := some 25, op := .call { callee := .value (.func 100), args := #[.tmp 20, .tmp 24], argTypes := _ }, type := _, pos := _, after := _, guard := _ }) rfl (fun K hK => ?_) AllReadyH.nil
      go_simp
      refine Calls.mono (merge (all L1) (all L2) A1 A2 c1 c2 _ S1b.out S2.out hc1 hc2 (by rw [hL1.out, hL2.out]; exact hl500)) ?_
      rintro e w3 ⟨A3, c3, rfl, hc3, hs, hb3⟩
      have S3 := Lib.hid (hs.from_ (Nat.le_trans szd (Nat.le_trans sz1 sz2)))
      have B3 := Lib.hid (B2.out.trans (hb3.mono (Nat.le_trans szd (Nat.le_trans sz1 sz2))))
      clear hs hb3
      go_wp2_with fail
      refine hK.out _ _ trivial (fun hS3 => ?_)
      clear hK K
      try simp only [Act.put, List.setIfInBounds_toArray, List.set_cons_zero, List.set_cons_succ]
      refine wpAnyH_take (i := 9) (oi := { dst := some 2, op := .assign (.tmp 25), type := _, pos := _, after := _, guard := _ }) (v := .slice A3 (mrg (all L1) (all L2)).length c3) rfl (by kernel_rfl) (by kernel_rfl) (by kernel_rfl) (fun _ _ _ h => h) (Or.inl ⟨by rfl, ?_⟩) hS3 ?_
      · intro w' hSw
        go_simp
      try simp only [Act.put, List.setIfInBounds_toArray, List.set_cons_zero, List.set_cons_succ]
      refine wpAnyH_done (by kernel_rfl) ?_ _
      go_wp2_with fail
      go_ret
      exact ⟨A3, c3, by rw [HE.out]; rfl, by rw [HE.out]; exact hc3, by rw [HE.out]; exact S3.out, B3.out⟩
end Feed
end Go.Proofs.YtohdlnefgieenaaGreat
/-
  What the table's (layer 10) presences, Users and poll come to.
-/
namespace Go.Law
open Go.RowKit
def cellsPr (q : Pr) : List Value := [.int .i64 q.1, .int .i64 q.2.1, .int .i64 q.2.2]
def flatPr (l : List Pr) : List Value := l.flatMap cellsPr
theorem flatPr_length (l : List Pr) : (flatPr l).length = l.length * 3 := rows_length (cells := cellsPr) (fun _ => rfl) l
theorem flatPr_snoc (zs : List Pr) (q : Pr) : flatPr (zs ++ [q]) = flatPr zs ++ cellsPr q := by unfold flatPr; rw [List.flatMap_append]; simp
theorem one_Pr (q : Pr) : ∀ u ∈ cellsPr q, u.oneCell' = true := by
  intro u hu
  simp [cellsPr] at hu
  rcases hu with rfl | rfl | rfl <;> rfl
theorem new_Pr (w : World) (q : Pr) (t : TypeId) {g : Nat} (hg : g = w.heap.size) : ∀ (j : Nat) (u : Value), (cellsPr q)[j]? = some u → (w.alloc (.cells #[.int .i64 q.1, .int .i64 q.2.1, .int .i64 q.2.2] t)).cell? ((⟨g, 0, none⟩ : Addr).add j) = some u := by
  subst hg
  intro j u hj
  match j, hj with
  | 0, hj => simp [cellsPr] at hj; subst hj; simp [Addr.add]
  | 1, hj => simp [cellsPr] at hj; subst hj; simp [Addr.add]
  | 2, hj => simp [cellsPr] at hj; subst hj; simp [Addr.add]
  | j + 3, hj => simp [cellsPr] at hj
end Go.Law
namespace Go.Proofs.YtohdlnefgieenaaGreat
open Go.RowKit Go.Shelf
attribute [local go_sem] Oper.semAt_some
namespace Mod
open Go.Law Feed Bk
theorem elemPr : ∃ i, Law.Elem Tryz.prog 40 57 i (.agg #[.int .i64 0, .int .i64 0, .int .i64 0]) 3 24 := Law.Elem.of Tryz.underlying40 (by kernel_rfl) rfl (by decide)
section
variable {w w' : World} {base m t c b : Nat} {S S' : Nat → Prop} {arr : Array Value} {p : Nat → Option Addr} {g : Nat → Nat} {Sk : Nat → Nat → Prop} {a : Mo}
/-- a list of presences in new memory -/
def Prs (w : World) (zs : List Pr) (e : Ending) (w' : World) : Prop := ∃ A c, e = .returned (.slice A zs.length c) ∧ Seq w' w.heap.size w'.heap.size A (flatPr zs) ∧ Below w.heap.size w w'
set_option maxRecDepth 100000 in
set_option maxHeartbeats 1000000 in
theorem presences (h : Tab w base S m a) (ho : a.Ok b) (hb : b ≤ 380) (us : List ByteArray) (A : Option Addr) (cc : Nat) (hs : Seq w 0 w.heap.size A (us.map .string)) (hl : us.length ≤ 1000) (hz : ∀ u ∈ us, u.size ≤ maxLen) :
    Calls Tryz.prog 48 #[.pointer (some ⟨m, 0, none⟩), .slice A us.length cc] w (Prs w (us.map a.pres)) := by
  obtain ⟨i0, hE⟩ := elemPr
  have HE := Lib.hid hE
  have H := Lib.hid h
  have HO := Lib.hid ho
  have HS := Lib.hid hs
  have HZ := Lib.hid hz
  clear h ho hs hz hE
  go_enter Tryz.func48, Tryz.ntmps48
  go_wp2_with fail
  go_loopw [5, 10] (fun vv vi wr => ∃ j : Nat, j ≤ us.length ∧ vi = .int .i64 j ∧ wr.ownsRow w.heap.size 57 3 vv j (flatPr ((us.take j).map a.pres)) ∧ Below w.heap.size w wr) (fun _ vi _ => us.length - (intOf vi).toNat)
  case atStart => exact ⟨0, Nat.zero_le _, rfl, World.ownsRow_nil _ _ _ _, Below.refl _ _⟩
  case round =>
    obtain ⟨j, hj, rfl, hR, hB⟩ := hrel
    have HR := Lib.hid hR
    have HB := Lib.hid hB
    have H1 := Lib.hid (H.out.below hB)
    have sz := hB.size
    obtain ⟨Dv, cv, rfl, hcv⟩ := own_shape hR
    clear hB hR
    by_cases hlt : j < us.length
    · have d1 : decide ((j : Int) < (us.length : Int)) = true := by simp; omega
      obtain ⟨ga, oa, rfl, _, hga, c0⟩ := (HS.out.below HB.out).str hlt
      have HTK : Hid ((us.take (j + 1)).map a.pres = (us.take j).map a.pres ++ [a.pres us[j]]) := by show _ = _; rw [List.take_succ_eq_append_getElem hlt, List.map_append]; rfl
      have HZ1 := Lib.hid (HZ.out _ (List.getElem_mem hlt))
      generalize us[j] = u at *
      obtain ⟨s0, s1, s2, hp⟩ : ∃ s0 s1 s2, a.pres u = (s0, s1, s2) := ⟨_, _, _, rfl⟩
      rw [hp] at HTK
      have HP := Lib.hid hp
      clear hp
      go_wp2_with fail
      refine (presence H1.out HO.out hb u HZ1.out HP.out).mono ?_
      rintro e w5 ⟨rfl, b5⟩
      have HR5 := Lib.hid (own_below HR.out b5)
      have HB5 := Lib.hid (HB.out.trans (b5.mono sz))
      have sz5 := HB5.out.size
      clear b5 HR HB H1
      generalize (us.take j).map a.pres = fs at *
      go_wp2_with (at_builtin; refine wpList_append_own _ rfl _ _ 40 rfl w.heap.size 57 i0 (.agg #[.int .i64 0, .int .i64 0, .int .i64 0]) 3 24 HE.out.ut HE.out.info HE.out.zero HE.out.sz HE.out.by_ HE.out.cells HE.out.pos _ _ _ rfl (HR5.out.alloc _) ⟨w5.heap.size, 0, none⟩ 1 1 (cellsPr (s0, s1, s2)) rfl rfl (new_Pr w5 (s0, s1, s2) _ rfl) (one_Pr _) (by unfold maxLen; omega) (by omega) (by simp; omega) ?_; intro v' w6 hown hg _; have HR6 := Lib.hid hown; have HB6 := Lib.hid ((HB5.out.alloc sz5 _).grown hg (by simp; omega) (fun g hg => (HR5.out.lt g hg).1)); obtain ⟨g', cap', rfl⟩ := ownsRow_succ hown; clear hown hg)
      go_roundw
      case rel => exact ⟨j + 1, by omega, by go_num, by rw [HTK.out, flatPr_snoc]; exact HR6.out, HB6.out⟩
      case measure => simp [intOf]; omega
    · obtain rfl : j = us.length := by omega
      have d1 : decide ((us.length : Int) < (us.length : Int)) = false := by simp
      have HR2 := HR.out
      rw [List.take_of_length_le (Nat.le_refl _)] at HR2
      have HSQ := Lib.hid (Seq.own HR2)
      go_wp2_with fail
      go_ret
      exact ⟨Dv, cv, by simp, HSQ.out, HB.out⟩
set_option maxRecDepth 100000 in
set_option maxHeartbeats 2000000 in
theorem drainC {w : World} {base b room k : Nat} {S : Nat → Prop} {s : St} (h : Fed w base S b room s) (hk : k < 8) (hl : (s.que k).length ≤ 1000) :
    Calls Tryz.prog 74 #[.pointer (some ⟨b, 0, none⟩), .int .i64 (k : Int)] w fun e w' => ∃ A c, e = .returned (.tuple #[.slice A (s.que k).length c, .bool (s.los k)]) ∧ (s.que k).length ≤ c ∧ Seq w' w.heap.size w'.heap.size A (flatE (s.que k)) ∧ Fed w' base S b room (drained k s) ∧ Went w S w' S := by
  obtain ⟨p, g, Sk, h⟩ := h
  have HC := Lib.hid (client_yes hk)
  have HF := Lib.hid h
  have HG := Lib.hid (RingE.drain (h.ring k hk) hl)
  have c0 : w.cell? ⟨b, 8 + k, none⟩ = some (.pointer (some ⟨g k, 0, none⟩)) := (h.box.cell _).trans (by simpa using cellsF_que p g hk)
  have hk1 : k ≤ 7 := by omega
  have lb := h.box.lt
  clear h
  go_enter Tryz.func74, Tryz.ntmps74
  go_wp2_with fail
  refine (HC.out w).mono ?_
  rintro e w' ⟨rfl, rfl⟩
  go_wp2_with fail
  refine HG.out.mono ?_
  rintro e w' ⟨A, c, rfl, hc, hs, hr, ht⟩
  have HCC := Lib.hid hc
  have HS := Lib.hid hs
  have HR := Lib.hid hr
  have HT := Lib.hid ht
  clear hs hr ht hc
  go_wp2_with fail
  go_ret2
  have hin := Ringz.inn (HF.out.ring k hk)
  obtain ⟨v, hv⟩ := HF.out.ring k hk
  exact ⟨A, c, rfl, HCC.out, HS.out, ⟨p, g, _, HF.out.queue (S' := S) hk (HT.out.mono (fun n e => e ▸ hin)) (Keeps.touch1 HT.out hv.box (by decide)) HR.out (fun n hn => .inl hn) (fun n hn => .inl hn) (fun n hn => hn.elim id (HF.out.sub k hk n))⟩, HT.out.mono (fun n e => e ▸ HF.out.sub k hk _ hin), fun n hn => .inl hn, fun t _ ht _ => Keeps.touch1 HT.out hv.box ht⟩
theorem TabV.keep {s' : St} {k : Nat} (h : TabV w base S m t c arr p g Sk a) (hk : k < a.n) (hF : Fed w' base (Sk k) (g k) a.room s') (hW : Went w (Sk k) w' (Sk k)) :
    TabV w' base S m t c arr p g Sk { a with fd := upd a.fd k s' } ∧ Gone w S w' S := by
  have h1 := h.tell hk hF hW
  have e1 : (fun x => S x ∨ Sk k x) = S := funext fun x => propext ⟨fun h' => h'.elim id (h.sub k hk x), .inl⟩
  have e2 : upd Sk k (Sk k) = Sk := by
    funext i
    by_cases e : i = k
    · subst e; rw [upd_same]
    · rw [upd_other _ _ e]
  rw [e1, e2] at h1
  exact h1
theorem upto_next (a : Mo) (who j : Nat) : a.upto who (j + 1) = { a.upto who j with fd := upd (a.upto who j).fd j (drained who (a.fd j)) } := by
  unfold Mo.upto
  congr 1
  funext k
  by_cases e : k = j
  · subst e; rw [upd_same, if_pos (by omega)]
  · rw [upd_other _ _ e]
    show _ = if k < j then drained who (a.fd k) else a.fd k
    by_cases h : k < j
    · rw [if_pos (by omega), if_pos h]
    · rw [if_neg (by omega), if_neg h]
theorem upto_at (a : Mo) (who j : Nat) : (a.upto who j).fd j = a.fd j := by unfold Mo.upto; simp
theorem told_next (a : Mo) (who j : Nat) : a.told who (j + 1) = a.told who j ++ [(a.fd j).que who] := by unfold Mo.told; rw [List.range_succ, List.map_append]; rfl
theorem lost_next (a : Mo) (who j : Nat) : a.lost who (j + 1) = (a.lost who j || (a.fd j).los who) := by unfold Mo.lost; rw [List.range_succ, List.any_append]; simp
/-- on the way of a poll: the stripes below j are drained -/
structure PollI (w wr : World) (base : Nat) (S : Nat → Prop) (m t c : Nat) (arr : Array Value) (p : Nat → Option Addr) (g : Nat → Nat) (Sk : Nat → Nat → Prop) (a : Mo) (who j : Nat) (l : List (RowV Ev)) (cs : Array Value) : Prop where
  tab : TabV wr base S m t c arr p g Sk (a.upto who j)
  gone : Gone w S wr S
  res : Is wr w.heap.size 43 #[.int .i64 0, .slice none 0 0, .slice none 0 0, .bool false]
  told : Is wr (w.heap.size + 1) 41 cs
  size : cs.size = a.n
  at_ : ∀ (i : Nat) (u : Value), (l.flatMap cellsR)[i]? = some u → cs[i]? = some u
  len : l.length = j
  evs : Feed.evs l = a.told who j
  rows : ∀ q ∈ l, Seq wr (w.heap.size + 2) wr.heap.size q.A (flatE q.xs)
  cap : ∀ q ∈ l, q.xs.length ≤ q.c
theorem PollI.next {wr w2 : World} {who j : Nat} {l : List (RowV Ev)} {cs : Array Value} (h : PollI w wr base S m t c arr p g Sk a who j l cs) (hj : j < a.n) (hS : ∀ x, S x → x < w.heap.size) (hF : Fed w2 base (Sk j) (g j) a.room (drained who (a.fd j))) (hW : Went wr (Sk j) w2 (Sk j)) {A : Option Addr} {cc : Nat} (hs : Seq w2 wr.heap.size w2.heap.size A (flatE ((a.fd j).que who))) (hc : ((a.fd j).que who).length ≤ cc) :
    PollI w (w2.setCell ⟨w.heap.size + 1, j, none⟩ (.slice A ((a.fd j).que who).length cc)) base S m t c arr p g Sk a who (j + 1) (l ++ [⟨A, cc, (a.fd j).que who⟩]) (cs.setIfInBounds j (.slice A ((a.fd j).que who).length cc)) := by
  have h1 := h.tab.keep hj hF hW
  rw [← upto_next] at h1
  have hg := h.gone.touch.size
  have hts := Law.Touch.store (T := fun n => n = w.heap.size + 1) w2 ⟨w.heap.size + 1, j, none⟩ (.slice A ((a.fd j).que who).length cc) rfl
  have hS1 : ¬ S (w.heap.size + 1) := fun hx => by have := hS _ hx; omega
  have hS0 : ¬ S w.heap.size := fun hx => by have := hS _ hx; omega
  have hT2 := h1.2.is h.told hS1
  have hst : Still w2 (w2.setCell ⟨w.heap.size + 1, j, none⟩ (.slice A ((a.fd j).que who).length cc)) := Still.store hT2 (by decide) (by decide) (by decide) _
  have far : ∀ {lo : Nat} {B : Option Addr} {xs : List Value}, w.heap.size + 2 ≤ lo → Seq w2 lo w2.heap.size B xs → Seq (w2.setCell ⟨w.heap.size + 1, j, none⟩ (.slice A ((a.fd j).que who).length cc)) (w.heap.size + 2) (w2.setCell ⟨w.heap.size + 1, j, none⟩ (.slice A ((a.fd j).que who).length cc)).heap.size B xs := by
    intro lo B xs hlo hq hn
    obtain ⟨g', off, hB, h2, h3, h4⟩ := hq hn
    exact ⟨g', off, hB, by omega, by simpa using h3, fun i u hu => (World.cell?_of_block (hts.block g' h3 (by omega))).trans (h4 i u hu)⟩
  refine ⟨h1.1.touch hts (fun x hx e => hS1 (e ▸ hx)) hst, ⟨(h.gone.touch.trans h1.2.touch (fun _ hk => .inl hk)).trans hts (fun k hk => .inr (by omega)), fun _ hx => .inl hx, h.gone.still.trans (h1.2.still.trans hst)⟩, hts.is (h1.2.is h.res hS0) (by omega), hT2.set j _ rfl, by simpa using h.size, fun i u hu => ?_, by simp [h.len], ?_, fun q hq => ?_, fun q hq => ?_⟩
  · have hl := h.len
    rw [List.flatMap_append] at hu
    have hrl := rows_len l
    by_cases hi : i < j
    · rw [List.getElem?_append_left (by omega)] at hu
      exact set_at _ _ _ (by omega) (h.at_ i u hu)
    · rw [List.getElem?_append_right (by omega)] at hu
      have h0 : i - (l.flatMap cellsR).length < 1 := by have := (List.getElem?_eq_some_iff.1 hu).1; simpa [cellsR] using this
      obtain rfl : i = j := by omega
      rw [show i - (l.flatMap cellsR).length = 0 by omega] at hu
      obtain rfl : Value.slice A ((a.fd i).que who).length cc = u := by simpa [cellsR] using hu
      rw [Array.getElem?_setIfInBounds_self_of_lt (by rw [h.size]; exact hj)]
  · have := h.evs
    unfold Feed.evs at *
    rw [told_next, List.map_append, this]
    rfl
  · rcases List.mem_append.1 hq with hq | hq
    · exact far (Nat.le_refl _) ((h1.2.seq (h.rows q hq) (Nat.le_refl _) (fun x hx => .inl (by have := hS x hx; omega))).more h1.2.touch.size)
    · obtain rfl := List.mem_singleton.1 hq
      exact far (by have := h.told.lt; omega) hs
  · rcases List.mem_append.1 hq with hq | hq
    · exact h.cap q hq
    · obtain rfl := List.mem_singleton.1 hq
      exact hc
theorem Gone.far {w3 : World} {g0 i : Nat} {t' : TypeId} {cs : Array Value} (h : Gone w S w3 S') (hg : w.heap.size ≤ g0) (hi : Is w3 g0 t' cs) (h1 : 168 ≠ t') (h2 : 138 ≠ t') (h3 : 200 ≠ t') (u : Value) (h4 : UT ≠ some t' := by decide) : Gone w S (w3.setCell ⟨g0, i, none⟩ u) S' :=
  ⟨h.touch.trans (Law.Touch.store (T := fun n => n = g0) w3 ⟨g0, i, none⟩ u rfl) (fun k hk => .inr (by omega)), h.new, h.still.trans (Still.store hi h1 h2 h3 u h4)⟩
theorem TabV.far {g0 i : Nat} {t' : TypeId} {cs : Array Value} (h : TabV w base S m t c arr p g Sk a) (hg : ¬ S g0) (hi : Is w g0 t' cs) (h1 : 168 ≠ t') (h2 : 138 ≠ t') (h3 : 200 ≠ t') (u : Value) (h4 : UT ≠ some t' := by decide) : TabV (w.setCell ⟨g0, i, none⟩ u) base S m t c arr p g Sk a :=
  h.touch (Law.Touch.store (T := fun n => n = g0) w ⟨g0, i, none⟩ u rfl) (fun _ hx e => hg (e ▸ hx)) (Still.store hi h1 h2 h3 u h4)
theorem Tab.far {g0 i : Nat} {t' : TypeId} {cs : Array Value} (h : Tab w base S m a) (hg : ¬ S g0) (hi : Is w g0 t' cs) (h1 : 168 ≠ t') (h2 : 138 ≠ t') (h3 : 200 ≠ t') (u : Value) (h4 : UT ≠ some t' := by decide) : Tab (w.setCell ⟨g0, i, none⟩ u) base S m a := by
  obtain ⟨t, c, arr, p, g, Sk, h⟩ := h
  exact ⟨t, c, arr, p, g, Sk, h.far hg hi h1 h2 h3 u h4⟩
/-- a reply's block is written whole: the table, what befell, and what lies elsewhere stay -/
structure Wrap (w w3 w4 : World) (base : Nat) (S S' : Nat → Prop) (m g0 : Nat) (a : Mo) (v0 v1 v2 v3 : Value) : Prop where
  box : Is w4 g0 43 #[v0, v1, v2, v3]
  tab : Tab w4 base S' m a
  gone : Gone w S w4 S'
  size : w4.heap.size = w3.heap.size
  seq : ∀ {lo : Nat} {A : Option Addr} {xs : List Value}, g0 < lo → Seq w3 lo w3.heap.size A xs → Seq w4 lo w4.heap.size A xs
theorem wrap {w3 : World} {g0 : Nat} {y0 y1 y2 y3 : Value} (hi : Is w3 g0 43 #[y0, y1, y2, y3]) (hT : Tab w3 base S' m a) (hG : Gone w S w3 S') (hg : w.heap.size ≤ g0) (hs : ¬ S' g0) (v0 v1 v2 v3 : Value) :
    Wrap w w3 ((((w3.setCell ⟨g0, 0, none⟩ v0).setCell ⟨g0, 1, none⟩ v1).setCell ⟨g0, 2, none⟩ v2).setCell ⟨g0, 3, none⟩ v3) base S S' m g0 a v0 v1 v2 v3 := by
  have i1 : Is (w3.setCell ⟨g0, 0, none⟩ v0) g0 43 #[v0, y1, y2, y3] := hi.set 0 v0 rfl
  have i2 : Is ((w3.setCell ⟨g0, 0, none⟩ v0).setCell ⟨g0, 1, none⟩ v1) g0 43 #[v0, v1, y2, y3] := i1.set 1 v1 rfl
  have i3 : Is (((w3.setCell ⟨g0, 0, none⟩ v0).setCell ⟨g0, 1, none⟩ v1).setCell ⟨g0, 2, none⟩ v2) g0 43 #[v0, v1, v2, y3] := i2.set 2 v2 rfl
  refine ⟨i3.set 3 v3 rfl, ?_, ?_, by simp, fun hlo hq => ?_⟩
  · exact (((hT.far hs hi (by decide) (by decide) (by decide) v0).far hs i1 (by decide) (by decide) (by decide) v1).far hs i2 (by decide) (by decide) (by decide) v2).far hs i3 (by decide) (by decide) (by decide) v3
  · exact (((hG.far hg hi (by decide) (by decide) (by decide) v0).far hg i1 (by decide) (by decide) (by decide) v1).far hg i2 (by decide) (by decide) (by decide) v2).far hg i3 (by decide) (by decide) (by decide) v3
  · exact ((((hq.store (p := ⟨g0, 0, none⟩) (.inl hlo) v0).store (p := ⟨g0, 1, none⟩) (.inl hlo) v1).store (p := ⟨g0, 2, none⟩) (.inl hlo) v2).store (p := ⟨g0, 3, none⟩) (.inl hlo) v3).more (by simp)
theorem upto_zero (a : Mo) (who : Nat) : a.upto who 0 = a := by unfold Mo.upto; simp
theorem told_total (ho : a.Ok b) {who : Nat} (hw : who < 8) : ∀ {j : Nat}, j ≤ a.n → total (a.told who j) ≤ j * 16
  | 0, _ => by simp [Mo.told, total]
  | j + 1, hj => by
    have h1 := told_total ho hw (j := j) (by omega)
    have h2 := ho.que j (by omega) who hw
    rw [told_next, total_app, total_cons]
    have : total ([] : List (List Ev)) = 0 := rfl
    omega
/-- behind a poll -/
def Polled (w : World) (base : Nat) (S : Nat → Prop) (m : Nat) (a' : Mo) (r : Rep) (e : Ending) (w' : World) : Prop :=
  ∃ A c A2 c2, e = .returned (.agg #[.int .i64 r.err, .slice A r.vals.length c, .slice A2 r.evs.length c2, .bool r.lost]) ∧ Seq w' w.heap.size w'.heap.size A (flatPr r.vals) ∧ Seq w' w.heap.size w'.heap.size A2 (flatE r.evs) ∧ ∃ S', Tab w' base S' m a' ∧ Gone w S w' S'
set_option maxRecDepth 100000 in
set_option maxHeartbeats 2000000 in
theorem poll (h : Tab w base S m a) (ho : a.Ok b) {who : Nat} (hw : who < 8) :
    Calls Tryz.prog 47 #[.pointer (some ⟨m, 0, none⟩), .int .i64 (who : Int)] w (Polled w base S m (a.poll who).1 (a.poll who).2) := by
  have HOK := Lib.hid h.ok
  have HO := Lib.hid ho
  have hn8 := ho.n8
  obtain ⟨t, c, arr, p, g, Sk, h⟩ := h
  have c5 : w.cell? ⟨m, 5, none⟩ = some (.slice (some ⟨t, 0, none⟩) a.n c) := h.box.cell' rfl
  have l1 := h.box.lt
  have hmk := fun W => Go.run_make_row' (P := Tryz.prog) 89 41 (.slice none 0 0) 24 Tryz.underlying89 (by kernel_rfl) rfl .i64 .i64 a.n (by omega) (by omega) W
  have bb := ((Below.refl w.heap.size w).alloc (Nat.le_refl _) (.cells #[.int .i64 0, .slice none 0 0, .slice none 0 0, .bool false] 43)).alloc (by simp) (.cells (madeCells #[.slice none 0 0] a.n) 41)
  have H0 : Hid (PollI w ((w.alloc (.cells #[.int .i64 0, .slice none 0 0, .slice none 0 0, .bool false] 43)).alloc (.cells (madeCells #[.slice none 0 0] a.n) 41)) base S m t c arr p g Sk a who 0 [] (madeCells #[.slice none 0 0] a.n)) := by
    refine ⟨by rw [upto_zero]; exact h.below bb, Gone.of_below bb, (Is.new w _ _ rfl).alloc _, Is.new _ _ _ (by simp), size_madeCells _ _, fun i u hu => (by simp at hu), rfl, rfl, fun _ h => (by cases h), fun _ h => (by cases h)⟩
  have hwS : Hid (∀ x, S x → x < w.heap.size) := fun x hx => (h.ok x hx).2
  clear h ho bb
  go_enter Tryz.func47, Tryz.ntmps47
  go_wp2_with fail
  generalize ((w.alloc (.cells #[.int .i64 0, .slice none 0 0, .slice none 0 0, .bool false] 43)).alloc (.cells (madeCells #[.slice none 0 0] a.n) 41)) = w1 at *
  go_loopw [6, 21] (fun vl vi wr => ∃ (j : Nat) (l : List (RowV Ev)) (cs : Array Value), j ≤ a.n ∧ vi = .int .i64 j ∧ vl = .bool (a.lost who j) ∧ PollI w wr base S m t c arr p g Sk a who j l cs) (fun _ vi _ => a.n - (intOf vi).toNat)
  case atStart => exact ⟨0, [], _, Nat.zero_le _, rfl, rfl, H0.out⟩
  case round =>
    clear H0
    obtain ⟨j, l, cs, hj, rfl, rfl, hP⟩ := hrel
    have HP := Lib.hid hP
    have sz := hP.gone.touch.size
    clear hP
    by_cases hlt : j < a.n
    · have d1 : decide ((j : Int) < (a.n : Int)) = true := by simp; omega
      have e5 : World.cell? _ ⟨m, 5, none⟩ = some (.slice (some ⟨t, 0, none⟩) a.n c) := HP.out.tab.box.cell' rfl
      have e1 : World.cell? _ ⟨t, j * 2 + 1, none⟩ = some (.pointer (some ⟨g j, 0, none⟩)) := (HP.out.tab.row.cell _).trans (HP.out.tab.fdc j hlt)
      have lm := HP.out.tab.box.lt
      have lt_ := HP.out.tab.row.lt
      have hql := HO.out.que j hlt who hw
      have HF : Hid (Fed wr base (Sk j) (g j) a.room (a.fd j)) := by have := HP.out.tab.feed j hlt; rw [upto_at] at this; exact this
      have HLN := Lib.hid (lost_next a who j)
      go_wp2_with fail
      refine (drainC HF.out hw (by omega)).mono ?_
      rintro e w2 ⟨A2, c2, rfl, hc2, hs2, hF2, hW2⟩
      have HN := Lib.hid (HP.out.next hlt hwS.out hF2 hW2 hs2 hc2)
      have HT2 := Lib.hid (hW2.is HP.out.told (fun hx => by have := hwS.out _ (HP.out.tab.sub j hlt _ hx); omega))
      have lt2 := HT2.out.lt
      have ft2 := HT2.out.frozen j
      have ct2 := (HT2.out.cell j).trans (Array.getElem?_eq_getElem (by rw [HP.out.size]; exact hlt))
      have hcs := HP.out.size
      clear hc2 hs2 hF2 hW2 HF e1 e5 lm lt_
      cases hlo : a.lost who j with
      | true =>
        go_wp2_with fail
        go_roundw
        case rel => exact ⟨j + 1, _, _, by omega, by go_num, by rw [HLN.out, hlo]; rfl, HN.out⟩
        case measure => simp [intOf]; omega
      | false =>
        go_wp2_with fail
        go_roundw
        case rel => exact ⟨j + 1, _, _, by omega, by go_num, by rw [HLN.out, hlo]; rfl, HN.out⟩
        case measure => simp [intOf]; omega
    · obtain rfl : j = a.n := by omega
      have d1 : decide ((a.n : Int) < (a.n : Int)) = false := by simp
      have HM := mergeAll l.length l (some ⟨w.heap.size + 1, 0, none⟩) a.n wr (Nat.le_refl _) ⟨fun _ => ⟨w.heap.size + 1, 0, rfl, Nat.zero_le _, HP.out.told.lt, fun i u hu => by rw [Nat.zero_add]; exact (HP.out.told.cell i).trans (HP.out.at_ i u hu)⟩, fun q hq => (HP.out.rows q hq).from_ (Nat.zero_le _), HP.out.cap⟩ (Nat.le_of_eq HP.out.len) (by rw [HP.out.evs]; have := told_total HO.out hw (j := a.n) (Nat.le_refl _); omega) (by rw [HP.out.len]; omega)
      rw [HP.out.len, HP.out.evs] at HM
      have HM2 := Lib.hid HM
      have HE : Hid ((a.poll who).2.evs = all (a.told who a.n)) := rfl
      clear HM
      generalize hz : all (a.told who a.n) = zs at *
      go_wp2_with fail
      refine HM2.out.mono ?_
      rintro e w3 ⟨A3, c3, rfl, hc3, hs3, b3⟩
      have HI3 := Lib.hid (HP.out.res.below b3 HP.out.res.lt)
      have HT3 := Lib.hid (HP.out.tab.below b3)
      have HG3 := Lib.hid (HP.out.gone.trans (Gone.of_below b3))
      have HS3 := Lib.hid hs3
      have sz3 := b3.size
      have l3 := HI3.out.lt
      have f0 := HI3.out.frozen 0
      have f1 := HI3.out.frozen 1
      have f2 := HI3.out.frozen 2
      have f3 := HI3.out.frozen 3
      have x0 := HI3.out.cell' (i := 0) rfl
      have x1 := HI3.out.cell' (i := 1) rfl
      have x2 := HI3.out.cell' (i := 2) rfl
      have x3 := HI3.out.cell' (i := 3) rfl
      have lw3 : w.heap.size + 2 ≤ wr.heap.size := by have := HP.out.told.lt; omega
      clear hs3 b3 hc3 HM2 HP
      go_wp2_with fail
      have HW := wrap HI3.out ⟨_, _, _, _, _, _, HT3.out⟩ HG3.out (Nat.le_refl _) (fun hx => by have := hwS.out _ hx; omega) (.int .i64 0) (.slice none 0 0) (.slice A3 zs.length c3) (.bool (a.lost who a.n))
      generalize (((w3.setCell ⟨w.heap.size, 0, none⟩ (.int .i64 0)).setCell ⟨w.heap.size, 1, none⟩ (.slice none 0 0)).setCell ⟨w.heap.size, 2, none⟩ (.slice A3 zs.length c3)).setCell ⟨w.heap.size, 3, none⟩ (.bool (a.lost who a.n)) = w4 at *
      have n0 := HW.box.cell' (i := 0) rfl
      have n1 := HW.box.cell' (i := 1) rfl
      have n2 := HW.box.cell' (i := 2) rfl
      have n3 := HW.box.cell' (i := 3) rfl
      have hq := HW.seq (by omega) HS3.out
      refine bodyPost_ret (v := .agg #[.int .i64 0, .slice none 0 0, .slice A3 zs.length c3, .bool (a.lost who a.n)]) (by simp [results, Tryz.results47, go_sem, n0, n1, n2, n3]) rfl ?_
      exact ⟨none, 0, A3, c3, by rw [HE.out]; rfl, fun h => absurd rfl h, by rw [HE.out]; exact hq.from_ (by omega), S, HW.tab, HW.gone⟩
end
end Mod
end Go.Proofs.YtohdlnefgieenaaGreat

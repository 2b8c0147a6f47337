/-
  What the table's small calls (layer 10) come to: of, take, become, Time, Tick.
-/
import Derived.Test.YtohdlnefgieenaaGreatJ18
import Derived.Test.YtohdlnefgieenaaGreatJ10
import Derived.Test.YtohdlnefgieenaaGreatJ13
import Derived.Test.YtohdlnefgieenaaGreatJ16
import Derived.Test.YtohdlnefgieenaaGreatJ12
namespace Go.Proofs.YtohdlnefgieenaaGreat
open Go.RowKit Go.Shelf
attribute [local go_sem] Oper.semAt_some
namespace Mod
open Go.Law Feed Bk
def cgOf (q : Ch) : Cg := ⟨q.1, q.2.1.1, q.2.1.2.1, q.2.1.2.2, q.2.2.1, q.2.2.2.1, q.2.2.2.2⟩
theorem flat_cg : ∀ l : List Ch, flatG (l.map cgOf) = flatC l
 | [] => rfl
 | q :: r => by
   have ih := flat_cg r
   unfold flatG flatC at *
   rw [List.map_cons, List.flatMap_cons, List.flatMap_cons, ih]
   rfl
def str (u : ByteArray) (n : Nat) : Nat := Hash.stripe u.data.toList (n : Int)
theorem str_lt (u : ByteArray) {n : Nat} (h : 1 ≤ n) : str u n < n := by
 have := Hash.stripe_lt u.data.toList (n := (n : Int)) (by omega)
 unfold str; omega
section
variable {w w' : World} {base m t c : Nat} {S S' : Nat → Prop} {arr : Array Value} {p : Nat → Option Addr} {g : Nat → Nat} {Sk : Nat → Nat → Prop} {a : Mo}
set_option maxRecDepth 100000 in
set_option maxHeartbeats 1000000 in
theorem of_ (h : TabV w base S m t c arr p g Sk a) (u : ByteArray) (hu : u.size ≤ maxLen) (hn : 1 ≤ a.n) (hn2 : a.n ≤ 8) {k : Nat} (hk : str u a.n = k) :
  Calls Tryz.prog 42 #[.pointer (some ⟨m, 0, none⟩), .string u] w fun e w' => e = .returned (.pointer (some ⟨t, k * 2, none⟩)) ∧ Below w.heap.size w w' := by
 have hlt : k < a.n := hk ▸ str_lt u hn
 have c5 : w.cell? ⟨m, 5, none⟩ = some (.slice (some ⟨t, 0, none⟩) a.n c) := h.box.cell' rfl
 have l1 := h.box.lt
 have l2 := h.row.lt
 have d2 : k * 2 < arr.size := (Array.getElem?_eq_some_iff.1 (h.bkc k hlt)).1
 have HS : Hid (∀ W, Calls Tryz.prog 69 #[.string u, .int .i64 (a.n : Int)] W fun e w' => e = .returned (.int .i64 (k : Int)) ∧ W = w') := fun W => by rw [← hk]; exact Hash.hstripe u (a.n : Int) W hu (by omega)
 clear h hk
 generalize a.n = n at *
 go_enter Tryz.func42, Tryz.ntmps42
 go_wp2_with fail
 go_quiet ((go_at_call 69; exact Law.quiet (HS.out _)))
 go_wp2_with fail
 go_ret
 exact ⟨rfl, Law.below_drewN (Below.refl _ _) nq⟩
set_option maxRecDepth 100000 in
set_option maxHeartbeats 1000000 in
theorem take_ (h : TabV w base S m t c arr p g Sk a) (hs : Door.U a.seq) :
  Calls Tryz.prog 55 #[.pointer (some ⟨m, 0, none⟩)] w fun e w' => e = .returned (.int .u64 (Door.sat a.seq 1)) ∧ TabV w' base S m t c arr p g Sk { a with seq := Door.sat a.seq 1 } ∧ Gone w S w' S := by
 have c2 : w.cell? ⟨m, 2, none⟩ = some (.int .u64 a.now) := h.box.cell' rfl
 have c3 : w.cell? ⟨m, 3, none⟩ = some (.int .u64 a.seq) := h.box.cell' rfl
 have c4 : w.cell? ⟨m, 4, none⟩ = some (.bool a.closed) := h.box.cell' rfl
 have l1 := h.box.lt
 have H := Lib.hid h
 clear h
 go_enter Tryz.func55, Tryz.ntmps55
 go_wp2_with fail
 refine (Tick.take _ _ _ hs _).mono ?_
 rintro e w1 ⟨rfl, hw⟩
 have hb : Below w.heap.size w w1 := by subst hw; exact Law.below_drewN (((Below.refl _ w).alloc (Nat.le_refl _) _).alloc (by simp) _) 1
 clear hw
 have H1 := Lib.hid (H.out.below hb)
 have HB := Lib.hid hb
 have b2 : w1.cell? ⟨m, 2, none⟩ = some (.int .u64 a.now) := H1.out.box.cell' rfl
 have b3 : w1.cell? ⟨m, 3, none⟩ = some (.int .u64 a.seq) := H1.out.box.cell' rfl
 have b4 : w1.cell? ⟨m, 4, none⟩ = some (.bool a.closed) := H1.out.box.cell' rfl
 have f2 := H1.out.box.frozen 2
 have f3 := H1.out.box.frozen 3
 have f4 := H1.out.box.frozen 4
 have l2 := H1.out.box.lt
 clear hb c2 c3 c4 l1
 go_wp2_with fail
 have t1 := H1.out.time 2 (.int .u64 a.now) (a' := a) rfl rfl rfl rfl rfl
 have t2 := t1.1.time 3 (.int .u64 (Door.sat a.seq 1)) (a' := { a with seq := Door.sat a.seq 1 }) rfl rfl rfl rfl rfl
 have t3 := t2.1.time 4 (.bool a.closed) (a' := { a with seq := Door.sat a.seq 1 }) rfl rfl rfl rfl rfl
 go_ret
 exact ⟨rfl, t3.1, (Gone.of_below HB.out).trans (t1.2.trans (t2.2.trans t3.2))⟩
set_option maxRecDepth 100000 in
set_option maxHeartbeats 1000000 in
theorem become_ (h : TabV w base S m t c arr p g Sk a) (hbw : base ≤ w.heap.size) {k : Nat} (hk : k < a.n) {q : Option Addr} {nb : List (ByteArray × En)} (hq : Booked w q nb) {A : Option Addr} {cs : List Ch} {cc : Nat} (hc : Lain 185 w A (flatC cs)) (seq : Int) (hl : ∀ i, i < 8 → ((a.fd k).que i).length + cs.length ≤ 1000) :
  Calls Tryz.prog 57 #[.pointer (some ⟨t, k * 2, none⟩), .agg #[.pointer q], .slice A cs.length cc, .int .u64 seq] w fun e w' => e = .returned (.tuple #[]) ∧ ∃ S' arr' p' Sk', TabV w' base S' m t c arr' p' g Sk' { a with bk := upd a.bk k nb, fd := upd a.fd k ((a.fd k).tell a.room (cs.map cgOf) seq) } ∧ Gone w S w' S' := by
 have hp := h.put hk hq
 have hK1 : Lain 185 (w.setCell ⟨t, k * 2, none⟩ (.pointer q)) A (flatC cs) := hc.keeps (Keeps.store h.row (by decide) _)
 have hb := (Below.refl (w.setCell ⟨t, k * 2, none⟩ (.pointer q)).heap.size (w.setCell ⟨t, k * 2, none⟩ (.pointer q))).alloc (Nat.le_refl _) (.cells #[.pointer q] 72)
 have H := Lib.hid (hp.1.below hb)
 have HC := Lib.hid (hK1.now hb)
 have HG : Hid (Gone w S ((w.setCell ⟨t, k * 2, none⟩ (.pointer q)).alloc (.cells #[.pointer q] 72)) S) := hp.2.trans (Gone.of_below hb)
 have hbw2 : base ≤ ((w.setCell ⟨t, k * 2, none⟩ (.pointer q)).alloc (.cells #[.pointer q] 72)).heap.size := by simp; omega
 have l3 := h.row.lt
 have b2 := (Below.refl w.heap.size w).alloc (Nat.le_refl _) (.cells #[.pointer q] 72)
 have R2 := h.row.below b2 l3
 have c0 := (R2.cell (k * 2)).trans (h.bkc k hk)
 have f0 := R2.frozen (k * 2)
 have l0 := R2.lt
 have c1 : World.cell? _ ⟨t, k * 2 + 1, none⟩ = some (.pointer (some ⟨g k, 0, none⟩)) := (H.out.row.cell (k * 2 + 1)).trans (H.out.fdc k hk)
 have l1 := H.out.row.lt
 have HL := Lib.hid hl
 have HF := Lib.hid (H.out.feed k hk)
 clear h hq hc hb hl hp hK1 R2 b2
 go_enter Tryz.func57, Tryz.ntmps57
 go_wp2_with fail
 generalize ((w.setCell ⟨t, k * 2, none⟩ (.pointer q)).alloc (.cells #[.pointer q] 72)) = w1 at *
 have HT := tell HF.out hbw2 (cs.map cgOf) seq (c := cc) (by rw [flat_cg]; exact HC.out) (fun i hi => by have := HL.out i hi; simpa using this)
 rw [List.length_map] at HT
 refine HT.mono ?_
 rintro e w2 ⟨rfl, S2, hF, hW, _⟩
 have HT2 := Lib.hid (H.out.tell hk hF hW)
 clear hF hW HT
 go_wp2_with fail
 go_end0
 exact ⟨rfl, _, _, _, _, HT2.out.1, HG.out.trans HT2.out.2⟩
end
end Mod
end Go.Proofs.YtohdlnefgieenaaGreat
namespace Go.Law
def mrg : List Ev → List Ev → List Ev
 | [], b => b
 | x :: a, [] => x :: a
 | x :: a, y :: b => if y.sq < x.sq then y :: mrg (x :: a) b else x :: mrg a (y :: b)
termination_by a b => a.length + b.length
theorem mrg_nil (b : List Ev) : mrg [] b = b := by unfold mrg; rfl
theorem mrg_nil' (a : List Ev) : mrg a [] = a := by cases a <;> (unfold mrg; rfl)
theorem mrg_cons (x y : Ev) (a b : List Ev) : mrg (x :: a) (y :: b) = if y.sq < x.sq then y :: mrg (x :: a) b else x :: mrg a (y :: b) := by rw [mrg]
def pick : List (List Ev) → Option (Ev × List (List Ev))
 | [] => none
 | r :: rs => match r, pick rs with
   | [], none => none
   | [], some (e, rs') => some (e, [] :: rs')
   | x :: r', none => some (x, r' :: rs)
   | x :: r', some (e, rs') => if x.sq ≤ e.sq then some (x, r' :: rs) else some (e, (x :: r') :: rs')
def total (l : List (List Ev)) : Nat := (l.map List.length).sum
theorem total_app (xs ys : List (List Ev)) : total (xs ++ ys) = total xs + total ys := by unfold total; rw [List.map_append, List.sum_append]
theorem total_cons (r : List Ev) (rs : List (List Ev)) : total (r :: rs) = r.length + total rs := by unfold total; simp
theorem pick_total : ∀ {l : List (List Ev)} {e : Ev} {l' : List (List Ev)}, pick l = some (e, l') → total l = total l' + 1
 | [], _, _, h => by simp [pick] at h
 | r :: rs, e, l', h => by
   cases hp : pick rs with
   | none =>
     cases r with
     | nil => simp [pick, hp] at h
     | cons x r' =>
       simp [pick, hp] at h
       obtain ⟨rfl, rfl⟩ := h
       simp [total_cons]; omega
   | some p =>
     obtain ⟨e1, rs'⟩ := p
     have ih := pick_total hp
     cases r with
     | nil =>
       simp [pick, hp] at h
       obtain ⟨rfl, rfl⟩ := h
       simp [total_cons, ih]
     | cons x r' =>
       by_cases hx : x.sq ≤ e1.sq
       ·simp [pick, hp, hx] at h
        obtain ⟨rfl, rfl⟩ := h
        simp [total_cons]; omega
       ·simp [pick, hp, hx] at h
        obtain ⟨rfl, rfl⟩ := h
        simp [total_cons, ih]; omega
theorem pick_none : ∀ {l : List (List Ev)}, pick l = none → total l = 0
 | [], _ => rfl
 | r :: rs, h => by
   cases hp : pick rs with
   | none =>
     cases r with
     | nil => rw [total_cons, pick_none hp]; rfl
     | cons x r' => simp [pick, hp] at h
   | some p =>
     obtain ⟨e1, rs'⟩ := p
     cases r with
     | nil => simp [pick, hp] at h
     | cons x r' =>
       by_cases hx : x.sq ≤ e1.sq
       ·simp [pick, hp, hx] at h
       ·simp [pick, hp, hx] at h
def pick2 (xs ys : List (List Ev)) : Option (Ev × List (List Ev)) := match pick xs, pick ys with
 | none, none => none
 | none, some (e, ys') => some (e, xs ++ ys')
 | some (e, xs'), none => some (e, xs' ++ ys)
 | some (x, xs'), some (y, ys') => if y.sq < x.sq then some (y, xs ++ ys') else some (x, xs' ++ ys)
theorem pick_app : ∀ (xs ys : List (List Ev)), pick (xs ++ ys) = pick2 xs ys
 | [], ys => by
   unfold pick2
   rw [List.nil_append, show pick [] = none from rfl]
   cases pick ys <;> rfl
 | r :: rs, ys => by
   have ih := pick_app rs ys
   rw [List.cons_append]
   show (match r, pick (rs ++ ys) with | [], none => none | [], some (e, rs') => some (e, [] :: rs') | x :: r', none => some (x, r' :: (rs ++ ys)) | x :: r', some (e, rs') => if x.sq ≤ e.sq then some (x, r' :: (rs ++ ys)) else some (e, (x :: r') :: rs')) = _
   rw [ih]
   unfold pick2
   cases hr : pick rs with
   | none =>
     cases hy : pick ys with
     | none => cases r <;> simp [pick, hr]
     | some q =>
       obtain ⟨y, ys'⟩ := q
       cases r with
       | nil => simp [pick, hr]
       | cons x r' =>
         simp only [pick, hr]
         by_cases h : x.sq ≤ y.sq
         ·rw [if_pos h, if_neg (by omega)]; rfl
         ·rw [if_neg h, if_pos (by omega)]; rfl
   | some p =>
     obtain ⟨e, rs'⟩ := p
     cases hy : pick ys with
     | none =>
       cases r with
       | nil => simp [pick, hr]
       | cons x r' =>
         simp only [pick, hr]
         by_cases h : x.sq ≤ e.sq
         ·rw [if_pos h, if_pos h]; rfl
         ·rw [if_neg h, if_neg h]; rfl
     | some q =>
       obtain ⟨y, ys'⟩ := q
       cases r with
       | nil =>
         simp only [pick, hr]
         by_cases h : y.sq < e.sq
         ·rw [if_pos h, if_pos h]; rfl
         ·rw [if_neg h, if_neg h]; rfl
       | cons x r' =>
         simp only [pick, hr]
         by_cases h : y.sq < e.sq
         ·rw [if_pos h]
          simp only
          by_cases hx : x.sq ≤ e.sq
          ·simp only [if_pos hx]
           by_cases h2 : x.sq ≤ y.sq
           ·rw [if_pos h2, if_neg (by omega)]; rfl
           ·rw [if_neg h2, if_pos (by omega)]; rfl
          ·simp only [if_neg hx]
           rw [if_neg (by omega), if_pos h]; rfl
         ·rw [if_neg h]
          simp only
          by_cases hx : x.sq ≤ e.sq
          ·simp only [if_pos hx]
           rw [if_neg (by omega)]; rfl
          ·simp only [if_neg hx]
           rw [if_neg h]; rfl
def kway : Nat → List (List Ev) → List Ev
 | 0, _ => []
 | n + 1, l => match pick l with
   | none => []
   | some (e, l') => e :: kway n l'
theorem kway_none {l : List (List Ev)} (h : pick l = none) : ∀ n, kway n l = []
 | 0 => rfl
 | n + 1 => by rw [kway, h]
theorem kway_two : ∀ (n : Nat) (xs ys : List (List Ev)), total xs + total ys ≤ n → ∀ a b, total xs ≤ a → total ys ≤ b → kway n (xs ++ ys) = mrg (kway a xs) (kway b ys)
 | n, xs, ys, hn, a, b, ha, hb => by
   cases hx : pick xs with
   | none =>
     rw [kway_none hx a, mrg_nil]
     cases hy : pick ys with
     | none =>
       rw [kway_none hy b]
       exact kway_none (by rw [pick_app]; unfold pick2; rw [hx, hy]) n
     | some q =>
       obtain ⟨y, ys'⟩ := q
       have ty := pick_total hy
       obtain ⟨n, rfl⟩ : ∃ m, n = m + 1 := ⟨n - 1, by omega⟩
       obtain ⟨b, rfl⟩ : ∃ m, b = m + 1 := ⟨b - 1, by omega⟩
       have ih := kway_two n xs ys' (by omega) 0 b (by rw [pick_none hx]; omega) (by omega)
       rw [kway, pick_app, kway, hy]
       unfold pick2
       rw [hx, hy]
       simp only
       rw [ih, kway, mrg_nil]
   | some p =>
     obtain ⟨x, xs'⟩ := p
     have tx := pick_total hx
     obtain ⟨n, rfl⟩ : ∃ m, n = m + 1 := ⟨n - 1, by omega⟩
     obtain ⟨a, rfl⟩ : ∃ m, a = m + 1 := ⟨a - 1, by omega⟩
     cases hy : pick ys with
     | none =>
       have ih := kway_two n xs' ys (by omega) a 0 (by omega) (by rw [pick_none hy]; omega)
       rw [kway_none hy b, mrg_nil', kway, pick_app, kway, hx]
       unfold pick2
       rw [hx, hy]
       simp only
       rw [ih, kway, mrg_nil']
     | some q =>
       obtain ⟨y, ys'⟩ := q
       have ty := pick_total hy
       obtain ⟨b, rfl⟩ : ∃ m, b = m + 1 := ⟨b - 1, by omega⟩
       have e1 : kway (a + 1) xs = x :: kway a xs' := by rw [kway, hx]
       have e2 : kway (b + 1) ys = y :: kway b ys' := by rw [kway, hy]
       rw [e1, e2, mrg_cons, kway, pick_app]
       unfold pick2
       rw [hx, hy]
       simp only
       by_cases h : y.sq < x.sq
       ·rw [if_pos h, if_pos h]
        simp only
        rw [kway_two n xs ys' (by omega) (a + 1) b (by omega) (by omega), e1]
       ·rw [if_neg h, if_neg h]
        simp only
        rw [kway_two n xs' ys (by omega) a (b + 1) (by omega) (by omega), e2]
theorem kway_one : ∀ (n : Nat) (r : List Ev), r.length ≤ n → kway n [r] = r
 | 0, r, h => by rw [List.eq_nil_of_length_eq_zero (by omega : r.length = 0)]; rfl
 | n + 1, [], _ => by simp [kway, pick]
 | n + 1, x :: r, h => by
   have ih := kway_one n r (by simpa using h)
   simp [kway, pick, ih]
def all (l : List (List Ev)) : List Ev := kway (total l) l
theorem all_one (r : List Ev) : all [r] = r := kway_one _ r (by simp [total])
theorem all_half (l : List (List Ev)) (h : Nat) : all l = mrg (all (l.take h)) (all (l.drop h)) := by
 have e := kway_two (total l) (l.take h) (l.drop h) (by rw [← total_app, List.take_append_drop]; omega) _ _ (Nat.le_refl _) (Nat.le_refl _)
 rw [List.take_append_drop] at e
 exact e
theorem all_length : ∀ (n : Nat) (l : List (List Ev)), total l ≤ n → (kway n l).length = total l
 | 0, l, h => by simp [kway]; omega
 | n + 1, l, h => by
   cases hp : pick l with
   | none => rw [kway_none hp, pick_none hp]; rfl
   | some p =>
     obtain ⟨e, l'⟩ := p
     have t := pick_total hp
     rw [kway, hp]
     simp only [List.length_cons]
     rw [all_length n l' (by omega)]
     omega
end Go.Law
namespace Go.Proofs.YtohdlnefgieenaaGreat
open Go.RowKit
namespace Mod
open Go.Law Feed Bk
def Mo.take (a : Mo) : Mo := { a with seq := Door.sat a.seq 1 }
def Mo.become (a : Mo) (k : Nat) (nb : List (ByteArray × En)) (cs : List Ch) (seq : Int) : Mo := { a with bk := upd a.bk k nb, fd := upd a.fd k ((a.fd k).tell a.room (cs.map cgOf) seq) }
def Mo.sweep (a : Mo) (s : Int) : Mo := if 0 ≤ s ∧ s < (a.n : Int) then a.take.become s.toNat (sweepB a.now (a.bk s.toNat)) (sweepC a.now (a.bk s.toNat)) (Door.sat a.seq 1) else a
def Mo.tick (a : Mo) (b : Int) : Mo := { a with now := Door.sat a.now b }
def Mo.pres (a : Mo) (u : ByteArray) : Pr := presS a.now (sesK u (a.bk (str u a.n)))
def Mo.stored (a : Mo) : Nat := ((List.range a.n).map fun k => storedB (a.bk k)).sum
structure Rep where
 err : Int
 vals : List Pr
 evs : List Ev
 lost : Bool
def Rep.of (e : Int) : Rep := ⟨e, [], [], false⟩
def Mo.write (a : Mo) (x : OpV) : Mo × Int :=
 if a.closed then (a.take, 5) else
 (a.take.become (str x.user a.n) (wrB x a.now a.most (a.bk (str x.user a.n))) (wrC x a.now a.most (a.bk (str x.user a.n))) (Door.sat a.seq 1), wrE x a.now a.most (a.bk (str x.user a.n)))
def Mo.watched (a : Mo) (who : Nat) : Nat := ((List.range a.n).map fun k => ((a.fd k).wat who).length).sum
def Mo.feed1 (a : Mo) (k : Nat) (s : St) : Mo := { a with fd := upd a.fd k s }
def Mo.watch (a : Mo) (who : Nat) (u : ByteArray) : Mo × Int :=
 if (a.fd (str u a.n)).has who u = false ∧ a.lim ≤ (a.watched who : Int) then (a, 4) else
 (a.feed1 (str u a.n) { a.fd (str u a.n) with wat := upd (a.fd (str u a.n)).wat who (putK OmapU.lt u 0 ((a.fd (str u a.n)).wat who)) }, 0)
def Mo.unwatch (a : Mo) (who : Nat) (u : ByteArray) : Mo :=
 a.feed1 (str u a.n) { a.fd (str u a.n) with wat := upd (a.fd (str u a.n)).wat who (outK u ((a.fd (str u a.n)).wat who)) }
def drained (who : Nat) (s : St) : St := { s with que := upd s.que who [], los := upd s.los who false }
def Mo.upto (a : Mo) (who j : Nat) : Mo := { a with fd := fun k => if k < j then drained who (a.fd k) else a.fd k }
def Mo.told (a : Mo) (who j : Nat) : List (List Ev) := (List.range j).map fun k => (a.fd k).que who
def Mo.lost (a : Mo) (who j : Nat) : Bool := (List.range j).any fun k => (a.fd k).los who
def Mo.poll (a : Mo) (who : Nat) : Mo × Rep := (a.upto who a.n, ⟨0, [], all (a.told who a.n), a.lost who a.n⟩)
def Mo.ask (a : Mo) (who : Nat) (x : OpW) : Mo × Rep :=
 if x.kind = 1 ∨ x.kind = 2 ∨ x.kind = 3 then ((a.write x.v).1, Rep.of (a.write x.v).2)
 else if x.kind = 8 then a.poll who
 else if a.closed then (a, Rep.of 5)
 else if x.kind = 4 then (a, ⟨0, [a.pres x.user], [], false⟩)
 else if x.kind = 5 then (a, ⟨0, x.us.map a.pres, [], false⟩)
 else if x.kind = 6 then ((a.watch who x.user).1, Rep.of (a.watch who x.user).2)
 else if x.kind = 7 then (a.unwatch who x.user, Rep.of 0)
 else ({ a with closed := true }, Rep.of 0)
def Mo.do_ (a : Mo) (who : Int) (x : OpW) : Mo × Rep := if goodB x = true ∧ (0 ≤ who ∧ who < 8) then a.ask who.toNat x else (a, Rep.of 1)
end Mod
end Go.Proofs.YtohdlnefgieenaaGreat

/-
  Events of several lists put together, as plain lists: two at a time by halves, or by a look at all first ones; both come to the same. General over programs.
-/
import Derived.Test.YtohdlnefgieenaaGreatJ15
import Derived.Test.YtohdlnefgieenaaGreatJ18
import Derived.Test.YtohdlnefgieenaaGreatJ12
import Derived.StillTailTactics
namespace Go.Law
/-- two lists put together -/
def mrg : List Ev → List Ev → List Ev
  | [], b => b
  | x :: a, [] => x :: a
  | x :: a, y :: b => if y.sq < x.sq then y :: mrg (x :: a) b else x :: mrg a (y :: b)
termination_by a b => a.length + b.length
theorem mrg_nil (b : List Ev) : mrg [] b = b := by unfold mrg; rfl
theorem mrg_nil' (a : List Ev) : mrg a [] = a := by cases a <;> (unfold mrg; rfl)
theorem mrg_cons (x y : Ev) (a b : List Ev) : mrg (x :: a) (y :: b) = if y.sq < x.sq then y :: mrg (x :: a) b else x :: mrg a (y :: b) := by rw [mrg]
theorem mrg_length : ∀ (n : Nat) (a b : List Ev), a.length + b.length ≤ n → (mrg a b).length = a.length + b.length
  | _, [], b, _ => by rw [mrg_nil]; simp
  | _, x :: a, [], _ => by rw [mrg_nil']; simp
  | 0, x :: a, y :: b, h => by simp at h
  | n + 1, x :: a, y :: b, h => by
    rw [mrg_cons]
    simp at h
    split
    · have := mrg_length n (x :: a) b (by simp; omega); simp at this ⊢; omega
    · have := mrg_length n a (y :: b) (by simp; omega); simp at this ⊢; omega
/-- numbers that don't fall -/
def Up2 (l : List Ev) : Prop := l.Pairwise fun a b => a.sq ≤ b.sq
theorem mrg_mem : ∀ (n : Nat) (a b : List Ev), a.length + b.length ≤ n → ∀ q ∈ mrg a b, q ∈ a ∨ q ∈ b
  | _, [], b, _, q, hq => by rw [mrg_nil] at hq; exact .inr hq
  | _, x :: a, [], _, q, hq => by rw [mrg_nil'] at hq; exact .inl hq
  | 0, x :: a, y :: b, h, _, _ => by simp at h
  | n + 1, x :: a, y :: b, h, q, hq => by
    rw [mrg_cons] at hq
    simp at h
    split at hq
    · rcases List.mem_cons.1 hq with rfl | hq
      · exact .inr (by simp)
      · exact (mrg_mem n (x :: a) b (by simp; omega) q hq).imp id (fun h => by simp [h])
    · rcases List.mem_cons.1 hq with rfl | hq
      · exact .inl (by simp)
      · exact (mrg_mem n a (y :: b) (by simp; omega) q hq).imp (fun h => by simp [h]) id
theorem mrg_up : ∀ (n : Nat) (a b : List Ev), a.length + b.length ≤ n → Up2 a → Up2 b → Up2 (mrg a b)
  | _, [], b, _, _, hb => by rw [mrg_nil]; exact hb
  | _, x :: a, [], _, ha, _ => by rw [mrg_nil']; exact ha
  | 0, x :: a, y :: b, h, _, _ => by simp at h
  | n + 1, x :: a, y :: b, h, ha, hb => by
    rw [mrg_cons]
    simp at h
    obtain ⟨ha1, ha2⟩ := List.pairwise_cons.1 ha
    obtain ⟨hb1, hb2⟩ := List.pairwise_cons.1 hb
    split
    · rename_i hlt
      refine List.pairwise_cons.2 ⟨fun q hq => ?_, mrg_up n (x :: a) b (by simp; omega) ha hb2⟩
      rcases mrg_mem n (x :: a) b (by simp; omega) q hq with hq | hq
      · rcases List.mem_cons.1 hq with rfl | hq
        · omega
        · have := ha1 q hq; omega
      · exact hb1 q hq
    · rename_i hlt
      refine List.pairwise_cons.2 ⟨fun q hq => ?_, mrg_up n a (y :: b) (by simp; omega) ha2 hb⟩
      rcases mrg_mem n a (y :: b) (by simp; omega) q hq with hq | hq
      · exact ha1 q hq
      · rcases List.mem_cons.1 hq with rfl | hq
        · omega
        · have := hb1 q hq; omega
/-- the first ones looked at: the one that comes, and what is left -/
def pick : List (List Ev) → Option (Ev × List (List Ev))
  | [] => none
  | r :: rs => match r, pick rs with
    | [], none => none
    | [], some (e, rs') => some (e, [] :: rs')
    | x :: r', none => some (x, r' :: rs)
    | x :: r', some (e, rs') => if x.sq ≤ e.sq then some (x, r' :: rs) else some (e, (x :: r') :: rs')
def total (l : List (List Ev)) : Nat := (l.map List.length).sum
theorem total_app (xs ys : List (List Ev)) : total (xs ++ ys) = total xs + total ys := by unfold total; rw [List.map_append, List.sum_append]
theorem total_cons (r : List Ev) (rs : List (List Ev)) : total (r :: rs) = r.length + total rs := by unfold total; simp
theorem pick_total : ∀ {l : List (List Ev)} {e : Ev} {l' : List (List Ev)}, pick l = some (e, l') → total l = total l' + 1
  | [], _, _, h => by simp [pick] at h
  | r :: rs, e, l', h => by
    cases hp : pick rs with
    | none =>
      cases r with
      | nil => simp [pick, hp] at h
      | cons x r' =>
        simp [pick, hp] at h
        obtain ⟨rfl, rfl⟩ := h
        simp [total_cons]; omega
    | some p =>
      obtain ⟨e1, rs'⟩ := p
      have ih := pick_total hp
      cases r with
      | nil =>
        simp [pick, hp] at h
        obtain ⟨rfl, rfl⟩ := h
        simp [total_cons, ih]
      | cons x r' =>
        by_cases hx : x.sq ≤ e1.sq
        · simp [pick, hp, hx] at h
          obtain ⟨rfl, rfl⟩ := h
          simp [total_cons]; omega
        · simp [pick, hp, hx] at h
          obtain ⟨rfl, rfl⟩ := h
          simp [total_cons, ih]; omega
theorem pick_none : ∀ {l : List (List Ev)}, pick l = none → total l = 0
  | [], _ => rfl
  | r :: rs, h => by
    cases hp : pick rs with
    | none =>
      cases r with
      | nil => rw [total_cons, pick_none hp]; rfl
      | cons x r' => simp [pick, hp] at h
    | some p =>
      obtain ⟨e1, rs'⟩ := p
      cases r with
      | nil => simp [pick, hp] at h
      | cons x r' =>
        by_cases hx : x.sq ≤ e1.sq
        · simp [pick, hp, hx] at h
        · simp [pick, hp, hx] at h
/-- of two rows of lists -/
def pick2 (xs ys : List (List Ev)) : Option (Ev × List (List Ev)) := match pick xs, pick ys with
  | none, none => none
  | none, some (e, ys') => some (e, xs ++ ys')
  | some (e, xs'), none => some (e, xs' ++ ys)
  | some (x, xs'), some (y, ys') => if y.sq < x.sq then some (y, xs ++ ys') else some (x, xs' ++ ys)
theorem pick_app : ∀ (xs ys : List (List Ev)), pick (xs ++ ys) = pick2 xs ys
  | [], ys => by
    unfold pick2
    rw [List.nil_append, show pick [] = none from rfl]
    cases pick ys <;> rfl
  | r :: rs, ys => by
    have ih := pick_app rs ys
    rw [List.cons_append]
    show (match r, pick (rs ++ ys) with | [], none => none | [], some (e, rs') => some (e, [] :: rs') | x :: r', none => some (x, r' :: (rs ++ ys)) | x :: r', some (e, rs') => if x.sq ≤ e.sq then some (x, r' :: (rs ++ ys)) else some (e, (x :: r') :: rs')) = _
    rw [ih]
    unfold pick2
    cases hr : pick rs with
    | none =>
      cases hy : pick ys with
      | none => cases r <;> simp [pick, hr]
      | some q =>
        obtain ⟨y, ys'⟩ := q
        cases r with
        | nil => simp [pick, hr]
        | cons x r' =>
          simp only [pick, hr]
          by_cases h : x.sq ≤ y.sq
          · rw [if_pos h, if_neg (by omega)]; rfl
          · rw [if_neg h, if_pos (by omega)]; rfl
    | some p =>
      obtain ⟨e, rs'⟩ := p
      cases hy : pick ys with
      | none =>
        cases r with
        | nil => simp [pick, hr]
        | cons x r' =>
          simp only [pick, hr]
          by_cases h : x.sq ≤ e.sq
          · rw [if_pos h, if_pos h]; rfl
          · rw [if_neg h, if_neg h]; rfl
      | some q =>
        obtain ⟨y, ys'⟩ := q
        cases r with
        | nil =>
          simp only [pick, hr]
          by_cases h : y.sq < e.sq
          · rw [if_pos h, if_pos h]; rfl
          · rw [if_neg h, if_neg h]; rfl
        | cons x r' =>
          simp only [pick, hr]
          by_cases h : y.sq < e.sq
          · rw [if_pos h]
            simp only
            by_cases hx : x.sq ≤ e.sq
            · simp only [if_pos hx]
              by_cases h2 : x.sq ≤ y.sq
              · rw [if_pos h2, if_neg (by omega)]; rfl
              · rw [if_neg h2, if_pos (by omega)]; rfl
            · simp only [if_neg hx]
              rw [if_neg (by omega), if_pos h]; rfl
          · rw [if_neg h]
            simp only
            by_cases hx : x.sq ≤ e.sq
            · simp only [if_pos hx]
              rw [if_neg (by omega)]; rfl
            · simp only [if_neg hx]
              rw [if_neg h]; rfl
/-- by a look at all first ones -/
def kway : Nat → List (List Ev) → List Ev
  | 0, _ => []
  | n + 1, l => match pick l with
    | none => []
    | some (e, l') => e :: kway n l'
theorem kway_none {l : List (List Ev)} (h : pick l = none) : ∀ n, kway n l = []
  | 0 => rfl
  | n + 1 => by rw [kway, h]
theorem kway_two : ∀ (n : Nat) (xs ys : List (List Ev)), total xs + total ys ≤ n → ∀ a b, total xs ≤ a → total ys ≤ b → kway n (xs ++ ys) = mrg (kway a xs) (kway b ys)
  | n, xs, ys, hn, a, b, ha, hb => by
    cases hx : pick xs with
    | none =>
      rw [kway_none hx a, mrg_nil]
      cases hy : pick ys with
      | none =>
        rw [kway_none hy b]
        exact kway_none (by rw [pick_app]; unfold pick2; rw [hx, hy]) n
      | some q =>
        obtain ⟨y, ys'⟩ := q
        have ty := pick_total hy
        obtain ⟨n, rfl⟩ : ∃ m, n = m + 1 := ⟨n - 1, by omega⟩
        obtain ⟨b, rfl⟩ : ∃ m, b = m + 1 := ⟨b - 1, by omega⟩
        have ih := kway_two n xs ys' (by omega) 0 b (by rw [pick_none hx]; omega) (by omega)
        rw [kway, pick_app, kway, hy]
        unfold pick2
        rw [hx, hy]
        simp only
        rw [ih, kway, mrg_nil]
    | some p =>
      obtain ⟨x, xs'⟩ := p
      have tx := pick_total hx
      obtain ⟨n, rfl⟩ : ∃ m, n = m + 1 := ⟨n - 1, by omega⟩
      obtain ⟨a, rfl⟩ : ∃ m, a = m + 1 := ⟨a - 1, by omega⟩
      cases hy : pick ys with
      | none =>
        have ih := kway_two n xs' ys (by omega) a 0 (by omega) (by rw [pick_none hy]; omega)
        rw [kway_none hy b, mrg_nil', kway, pick_app, kway, hx]
        unfold pick2
        rw [hx, hy]
        simp only
        rw [ih, kway, mrg_nil']
      | some q =>
        obtain ⟨y, ys'⟩ := q
        have ty := pick_total hy
        obtain ⟨b, rfl⟩ : ∃ m, b = m + 1 := ⟨b - 1, by omega⟩
        have e1 : kway (a + 1) xs = x :: kway a xs' := by rw [kway, hx]
        have e2 : kway (b + 1) ys = y :: kway b ys' := by rw [kway, hy]
        rw [e1, e2, mrg_cons, kway, pick_app]
        unfold pick2
        rw [hx, hy]
        simp only
        by_cases h : y.sq < x.sq
        · rw [if_pos h, if_pos h]
          simp only
          rw [kway_two n xs ys' (by omega) (a + 1) b (by omega) (by omega), e1]
        · rw [if_neg h, if_neg h]
          simp only
          rw [kway_two n xs' ys (by omega) a (b + 1) (by omega) (by omega), e2]
theorem kway_one : ∀ (n : Nat) (r : List Ev), r.length ≤ n → kway n [r] = r
  | 0, r, h => by rw [List.eq_nil_of_length_eq_zero (by omega : r.length = 0)]; rfl
  | n + 1, [], _ => by simp [kway, pick]
  | n + 1, x :: r, h => by
    have ih := kway_one n r (by simpa using h)
    simp [kway, pick, ih]
/-- all lists put together -/
def all (l : List (List Ev)) : List Ev := kway (total l) l
theorem all_nil : all [] = [] := rfl
theorem all_one (r : List Ev) : all [r] = r := kway_one _ r (by simp [total])
theorem all_half (l : List (List Ev)) (h : Nat) : all l = mrg (all (l.take h)) (all (l.drop h)) := by
  have e := kway_two (total l) (l.take h) (l.drop h) (by rw [← total_app, List.take_append_drop]; omega) _ _ (Nat.le_refl _) (Nat.le_refl _)
  rw [List.take_append_drop] at e
  exact e
theorem all_length : ∀ (n : Nat) (l : List (List Ev)), total l ≤ n → (kway n l).length = total l
  | 0, l, h => by simp [kway]; omega
  | n + 1, l, h => by
    cases hp : pick l with
    | none => rw [kway_none hp, pick_none hp]; rfl
    | some p =>
      obtain ⟨e, l'⟩ := p
      have t := pick_total hp
      rw [kway, hp]
      simp only [List.length_cons]
      rw [all_length n l' (by omega)]
      omega
theorem all_up : ∀ (n : Nat) (l : List (List Ev)), l.length ≤ n → (∀ r ∈ l, Up2 r) → Up2 (all l)
  | _, [], _, _ => by rw [all_nil]; exact List.Pairwise.nil
  | _, [r], _, h => by rw [all_one]; exact h r (by simp)
  | 0, _ :: _ :: _, h, _ => by simp at h
  | n + 1, r :: r' :: rs, h, hu => by
    rw [all_half _ 1]
    refine mrg_up _ _ _ (Nat.le_refl _) (all_up n _ (by simp at h ⊢; omega) ?_) (all_up n _ (by simp at h ⊢; omega) ?_)
    · intro q hq
      exact hu q (List.mem_of_mem_take hq)
    · intro q hq
      exact hu q (List.mem_of_mem_drop hq)
end Go.Law
/-
  A table of layer 10 as plain data: what each call makes of it, and what it answers.
-/
namespace Go.Proofs.YtohdlnefgieenaaGreat
open Go.RowKit
namespace Mod
open Go.Law Feed Bk
def Mo.take (a : Mo) : Mo := { a with seq := Door.sat a.seq 1 }
def Mo.become (a : Mo) (k : Nat) (nb : List (ByteArray × En)) (cs : List Ch) (seq : Int) : Mo := { a with bk := upd a.bk k nb, fd := upd a.fd k ((a.fd k).tell a.room (cs.map cgOf) seq) }
def Mo.sweep (a : Mo) (s : Int) : Mo := if 0 ≤ s ∧ s < (a.n : Int) then a.take.become s.toNat (sweepB a.now (a.bk s.toNat)) (sweepC a.now (a.bk s.toNat)) (Door.sat a.seq 1) else a
def Mo.tick (a : Mo) (b : Int) : Mo := { a with now := Door.sat a.now b }
def Mo.pres (a : Mo) (u : ByteArray) : Pr := presS a.now (sesK u (a.bk (str u a.n)))
def Mo.stored (a : Mo) : Nat := ((List.range a.n).map fun k => storedB (a.bk k)).sum
structure Rep where
  err : Int
  vals : List Pr
  evs : List Ev
  lost : Bool
def Rep.of (e : Int) : Rep := ⟨e, [], [], false⟩
def Mo.write (a : Mo) (x : OpV) : Mo × Int :=
  if a.closed then (a.take, 5) else
  (a.take.become (str x.user a.n) (wrB x a.now a.most (a.bk (str x.user a.n))) (wrC x a.now a.most (a.bk (str x.user a.n))) (Door.sat a.seq 1), wrE x a.now a.most (a.bk (str x.user a.n)))
def Mo.watched (a : Mo) (who : Nat) : Nat := ((List.range a.n).map fun k => ((a.fd k).wat who).length).sum
def Mo.feed1 (a : Mo) (k : Nat) (s : St) : Mo := { a with fd := upd a.fd k s }
def Mo.watch (a : Mo) (who : Nat) (u : ByteArray) : Mo × Int :=
  if (a.fd (str u a.n)).has who u = false ∧ a.lim ≤ (a.watched who : Int) then (a, 4) else
  (a.feed1 (str u a.n) { a.fd (str u a.n) with wat := upd (a.fd (str u a.n)).wat who (putK OmapU.lt u 0 ((a.fd (str u a.n)).wat who)) }, 0)
def Mo.unwatch (a : Mo) (who : Nat) (u : ByteArray) : Mo :=
  a.feed1 (str u a.n) { a.fd (str u a.n) with wat := upd (a.fd (str u a.n)).wat who (outK u ((a.fd (str u a.n)).wat who)) }
def drained (who : Nat) (s : St) : St := { s with que := upd s.que who [], los := upd s.los who false }
def Mo.upto (a : Mo) (who j : Nat) : Mo := { a with fd := fun k => if k < j then drained who (a.fd k) else a.fd k }
def Mo.told (a : Mo) (who j : Nat) : List (List Ev) := (List.range j).map fun k => (a.fd k).que who
def Mo.lost (a : Mo) (who j : Nat) : Bool := (List.range j).any fun k => (a.fd k).los who
def Mo.poll (a : Mo) (who : Nat) : Mo × Rep := (a.upto who a.n, ⟨0, [], all (a.told who a.n), a.lost who a.n⟩)
def Mo.ask (a : Mo) (who : Nat) (x : OpW) : Mo × Rep :=
  if x.kind = 1 ∨ x.kind = 2 ∨ x.kind = 3 then ((a.write x.v).1, Rep.of (a.write x.v).2)
  else if x.kind = 8 then a.poll who
  else if a.closed then (a, Rep.of 5)
  else if x.kind = 4 then (a, ⟨0, [a.pres x.user], [], false⟩)
  else if x.kind = 5 then (a, ⟨0, x.us.map a.pres, [], false⟩)
  else if x.kind = 6 then ((a.watch who x.user).1, Rep.of (a.watch who x.user).2)
  else if x.kind = 7 then (a.unwatch who x.user, Rep.of 0)
  else ({ a with closed := true }, Rep.of 0)
def Mo.do_ (a : Mo) (who : Int) (x : OpW) : Mo × Rep := if goodB x = true ∧ (0 ≤ who ∧ who < 8) then a.ask who.toNat x else (a, Rep.of 1)
end Mod
end Go.Proofs.YtohdlnefgieenaaGreat
/-
  What the table's (layer 10) Presence, Time, Tick, Stored, Sweep and write come to.
-/
namespace Go.Proofs.YtohdlnefgieenaaGreat
open Go.RowKit Go.Shelf
attribute [local go_sem] Oper.semAt_some
namespace Mod
open Go.Law Feed Bk
/-- a table that is small enough: behind so many acts -/
structure Mo.Ok (a : Mo) (b : Nat) : Prop where
  n1 : 1 ≤ a.n
  n8 : a.n ≤ 8
  room : a.room ≤ 16
  now : Door.U a.now
  seq : Door.U a.seq
  fit : ∀ k, k < a.n → Fit b (a.bk k)
  wat : ∀ k, k < a.n → ∀ i, i < 8 → ((a.fd k).wat i).length ≤ b
  que : ∀ k, k < a.n → ∀ i, i < 8 → ((a.fd k).que i).length ≤ 16
section
variable {w w' : World} {base m t c b : Nat} {S S' : Nat → Prop} {arr : Array Value} {p : Nat → Option Addr} {g : Nat → Nat} {Sk : Nat → Nat → Prop} {a : Mo}
set_option maxRecDepth 100000 in
set_option maxHeartbeats 1000000 in
theorem presence (h : Tab w base S m a) (ho : a.Ok b) (hb : b ≤ 380) (u : ByteArray) (hu : u.size ≤ maxLen) {s0 s1 s2 : Int} (hp : a.pres u = (s0, s1, s2)) :
    Calls Tryz.prog 16 #[.pointer (some ⟨m, 0, none⟩), .string u] w fun e w' => e = .returned (.agg #[.int .i64 s0, .int .i64 s1, .int .i64 s2]) ∧ Below w.heap.size w w' := by
  obtain ⟨t, c, arr, p, g, Sk, h⟩ := h
  have hlt : str u a.n < a.n := str_lt u ho.n1
  obtain ⟨k, hk⟩ : ∃ k, str u a.n = k := ⟨_, rfl⟩
  rw [hk] at hlt
  have H := Lib.hid h
  have HO := Lib.hid ho
  have HP : Hid (presS a.now (sesK u (a.bk k)) = (s0, s1, s2)) := by show _ = _; rw [← hk]; exact hp
  have HK := Lib.hid hk
  clear h ho hp hk
  have b0 : Below w.heap.size w (w.alloc (.cells #[.int .i64 0, .int .i64 0, .int .i64 0] 57)).drew := Law.below_drewN ((Below.refl w.heap.size w).alloc (Nat.le_refl _) (.cells #[.int .i64 0, .int .i64 0, .int .i64 0] 57)) 1
  have HX : Hid (Is (w.alloc (.cells #[.int .i64 0, .int .i64 0, .int .i64 0] 57)).drew w.heap.size 57 #[.int .i64 0, .int .i64 0, .int .i64 0]) := (Is.drewN (Is.new w 57 #[.int .i64 0, .int .i64 0, .int .i64 0] rfl) 1)
  have H0 := Lib.hid (H.out.below b0)
  have HB0 := Lib.hid b0
  have c2 : World.cell? _ ⟨m, 2, none⟩ = some (.int .u64 a.now) := H0.out.box.cell' rfl
  have l2 := H0.out.box.lt
  have cm : w.cell? ⟨m, 2, none⟩ = some (.int .u64 a.now) := H.out.box.cell' rfl
  have lm := H.out.box.lt
  clear b0 H
  go_enter Tryz.func16, Tryz.ntmps16
  go_wp2_with fail
  refine wp_region_held_drew (S := fun w' => w'.cell? ⟨m, 2, none⟩ = some (.int .u64 a.now) ∧ m < w'.heap.size) (by kernel_rfl) ⟨c2, l2⟩ (fun hS0 => ?_)
  refine wpAnyH_take (i := 0) (oi := { dst := some 5, op := .move (.tmp 0), type := _, pos := _, after := _, guard := _ }) (v := .pointer (some ⟨m, 0, none⟩)) rfl (by kernel_rfl) (by kernel_rfl) (by kernel_rfl) (fun _ _ _ h => h) (Or.inl ⟨by rfl, ?_⟩) hS0 ?_
  · intro w' hSw
    go_simp
  try simp only [Act.put, List.setIfInBounds_toArray, List.set_cons_zero, List.set_cons_succ]
  refine wpAnyH_take (i := 1) (oi := { dst := some 6, op := .move (.tmp 1), type := _, pos := _, after := _, guard := _ }) (v := .string u) rfl (by kernel_rfl) (by kernel_rfl) (by kernel_rfl) (fun _ _ _ h => h) (Or.inl ⟨by rfl, ?_⟩) hS0 ?_
  · intro w' hSw
    go_simp
  try simp only [Act.put, List.setIfInBounds_toArray, List.set_cons_zero, List.set_cons_succ]
  refine wpAnyH_take (i := 6) (oi := { dst := some 11, op := .move (.tmp 1), type := _, pos := _, after := _, guard := _ }) (v := .string u) rfl (by kernel_rfl) (by kernel_rfl) (by kernel_rfl) (fun _ _ _ h => h) (Or.inl ⟨by rfl, ?_⟩) hS0 ?_
  · intro w' hSw
    go_simp
  try simp only [Act.put, List.setIfInBounds_toArray, List.set_cons_zero, List.set_cons_succ]
  refine wpAnyH_take (i := 7) (oi := { dst := some 12, op := .move (.tmp 0), type := _, pos := _, after := _, guard := _ }) (v := .pointer (some ⟨m, 0, none⟩)) rfl (by kernel_rfl) (by kernel_rfl) (by kernel_rfl) (fun _ _ _ h => h) (Or.inl ⟨by rfl, ?_⟩) hS0 ?_
  · intro w' hSw
    go_simp
  try simp only [Act.put, List.setIfInBounds_toArray, List.set_cons_zero, List.set_cons_succ]
  refine wpAnyH_take (i := 8) (oi := { dst := some 13, op := .nilCheck (.tmp 12), type := _, pos := _, after := _, guard := _ }) (v := .pointer (some ⟨m, 0, none⟩)) rfl (by kernel_rfl) (by kernel_rfl) (by kernel_rfl) (fun _ _ _ h => h) (Or.inl ⟨by rfl, ?_⟩) hS0 ?_
  · intro w' hSw
    go_simp
  try simp only [Act.put, List.setIfInBounds_toArray, List.set_cons_zero, List.set_cons_succ]
  refine wpAnyH_take (i := 9) (oi := { dst := some 14, op := .fieldAddr 67 (.tmp 13) 2, type := _, pos := _, after := _, guard := _ }) (v := .pointer (some ⟨m, 2, none⟩)) rfl (by kernel_rfl) (by kernel_rfl) (by kernel_rfl) (fun _ _ _ h => h) (Or.inl ⟨by rfl, ?_⟩) hS0 ?_
  · intro w' hSw
    go_simp
  try simp only [Act.put, List.setIfInBounds_toArray, List.set_cons_zero, List.set_cons_succ]
  refine wpAnyH_take (i := 10) (oi := { dst := some 15, op := .fieldAddr 50 (.tmp 14) 0, type := _, pos := _, after := _, guard := _ }) (v := .pointer (some ⟨m, 2, none⟩)) rfl (by kernel_rfl) (by kernel_rfl) (by kernel_rfl) (fun _ _ _ h => h) (Or.inl ⟨by rfl, ?_⟩) hS0 ?_
  · intro w' hSw
    go_simp
  try simp only [Act.put, List.setIfInBounds_toArray, List.set_cons_zero, List.set_cons_succ]
  refine wpAnyH_take (i := 11) (oi := { dst := some 16, op := .load 22 (.tmp 15), type := _, pos := _, after := _, guard := _ }) (v := .int .u64 a.now) rfl (by kernel_rfl) (by kernel_rfl) (by kernel_rfl) (fun _ _ _ h => h) (Or.inl ⟨by rfl, ?_⟩) hS0 ?_
  · intro w' hSw
    obtain ⟨s1, s2⟩ := hSw
    go_simp
  try simp only [Act.put, List.setIfInBounds_toArray, List.set_cons_zero, List.set_cons_succ]
  generalize (w.alloc (.cells #[.int .i64 0, .int .i64 0, .int .i64 0] 57)).drew = W at *
  refine wpAnyH_ready (rs := [2]) (by kernel_rfl) (by simp) ?_
  refine AllReadyH.cons (o := { dst := some 7, op := .call { callee := .value (.func 42), args := #[.tmp 5, .tmp 6], argTypes := _ }, type := _, pos := _, after := _, guard := _ }) rfl (fun K hK => ?_) AllReadyH.nil
  go_simp
  refine Calls.mono (of_ H0.out u hu HO.out.n1 HO.out.n8 HK.out) ?_
  rintro e w1 ⟨rfl, b1⟩
  have H1 := Lib.hid (H0.out.below b1)
  have HX1 := Lib.hid (HX.out.below b1 HX.out.lt)
  have HB1 := Lib.hid (HB0.out.trans (b1.mono HB0.out.size))
  go_wp2_with fail
  refine hK.out _ _ ⟨(b1.cell (p := ⟨m, 2, none⟩) l2).trans c2, Nat.lt_of_lt_of_le l2 b1.size⟩ (fun hS1 => ?_)
  clear hK K
  try simp only [Act.put, List.setIfInBounds_toArray, List.set_cons_zero, List.set_cons_succ]
  clear b1 H0 HX HB0
  have d0 : w1.cell? ⟨t, k * 2, none⟩ = some (.pointer (p k)) := (H1.out.row.cell _).trans (H1.out.bkc k hlt)
  have l3 := H1.out.row.lt
  refine wpAnyH_take (i := 3) (oi := { dst := some 8, op := .nilCheck (.tmp 7), type := _, pos := _, after := _, guard := _ }) (v := .pointer (some ⟨t, k * 2, none⟩)) rfl (by kernel_rfl) (by kernel_rfl) (by kernel_rfl) (fun _ _ _ h => h) (Or.inl ⟨by rfl, ?_⟩) hS1 ?_
  · intro w' hSw
    go_simp
  try simp only [Act.put, List.setIfInBounds_toArray, List.set_cons_zero, List.set_cons_succ]
  refine wpAnyH_take (i := 4) (oi := { dst := some 9, op := .fieldAddr 74 (.tmp 8) 0, type := _, pos := _, after := _, guard := _ }) (v := .pointer (some ⟨t, k * 2, none⟩)) rfl (by kernel_rfl) (by kernel_rfl) (by kernel_rfl) (fun _ _ _ h => h) (Or.inl ⟨by rfl, ?_⟩) hS1 ?_
  · intro w' hSw
    go_simp
  try simp only [Act.put, List.setIfInBounds_toArray, List.set_cons_zero, List.set_cons_succ]
  refine wpAnyH_ready (rs := [5]) (by kernel_rfl) (by simp) ?_
  refine AllReadyH.cons (o := { dst := some 10, op := .load 72 (.tmp 9), type := _, pos := _, after := _, guard := _ }) rfl (fun K hK => ?_) AllReadyH.nil
  go_simp
  refine hK.out _ _ hS1 (fun hS2 => ?_)
  clear hK K
  try simp only [Act.put, List.setIfInBounds_toArray, List.set_cons_zero, List.set_cons_succ]
  refine wpAnyH_ready (rs := [12]) (by kernel_rfl) (by simp) ?_
  refine AllReadyH.cons (o := { dst := some 17, op := .call { callee := .value (.func 41), args := #[.tmp 10, .tmp 11, .tmp 16], argTypes := _ }, type := _, pos := _, after := _, guard := _ }) rfl (fun K hK => ?_) AllReadyH.nil
  go_simp
  refine Calls.mono (Bk.presence u a.now HP.out (H1.out.book k hlt) (HO.out.fit k hlt).book.1 (Nat.le_trans ((HO.out.fit k hlt).of u) (by omega))) ?_
  rintro e w2 ⟨rfl, b2⟩
  have HX2 := Lib.hid (HX1.out.below b2 HX1.out.lt)
  have HB2 := Lib.hid (HB1.out.trans (b2.mono HB1.out.size))
  go_wp2_with fail
  refine hK.out _ _ ⟨(b2.cell (p := ⟨m, 2, none⟩) hS2.2).trans hS2.1, Nat.lt_of_lt_of_le hS2.2 b2.size⟩ (fun hS3 => ?_)
  clear hK K
  try simp only [Act.put, List.setIfInBounds_toArray, List.set_cons_zero, List.set_cons_succ]
  have lx := HX2.out.lt
  have x0 := HX2.out.cell' (i := 0) rfl
  have x1 := HX2.out.cell' (i := 1) rfl
  have x2 := HX2.out.cell' (i := 2) rfl
  have fx0 := HX2.out.frozen 0
  have fx1 := HX2.out.frozen 1
  have fx2 := HX2.out.frozen 2
  have HI3 := Lib.hid (((HX2.out.set 0 (.int .i64 s0) rfl).set 1 (.int .i64 s1) rfl).set 2 (.int .i64 s2) rfl)
  have HB3 := Lib.hid (((HB2.out.setCell (p := ⟨w.heap.size, 0, none⟩) (Nat.le_refl _) (.int .i64 s0)).setCell (p := ⟨w.heap.size, 1, none⟩) (Nat.le_refl _) (.int .i64 s1)).setCell (p := ⟨w.heap.size, 2, none⟩) (Nat.le_refl _) (.int .i64 s2))
  refine wpAnyH_ready (rs := [13]) (by kernel_rfl) (by simp) ?_
  refine AllReadyH.cons (o := { dst := none, op := .store 57 (.tmp 4) (.tmp 17), type := _, pos := _, after := _, guard := _ }) rfl (fun K hK => ?_) AllReadyH.nil
  go_simp
  refine hK.out _ _ ⟨(HB3.out.cell (p := ⟨m, 2, none⟩) lm).trans cm, Nat.lt_of_lt_of_le lm HB3.out.size⟩ (fun hS4 => ?_)
  clear hK K
  try simp only [Act.put, List.setIfInBounds_toArray, List.set_cons_zero, List.set_cons_succ]
  refine wpAnyH_done (by kernel_rfl) ?_ _
  generalize ((w2.setCell ⟨w.heap.size, 0, none⟩ (.int .i64 s0)).setCell ⟨w.heap.size, 1, none⟩ (.int .i64 s1)).setCell ⟨w.heap.size, 2, none⟩ (.int .i64 s2) = w4 at *
  have n0 := HI3.out.cell' (i := 0) rfl
  have n1 := HI3.out.cell' (i := 1) rfl
  have n2 := HI3.out.cell' (i := 2) rfl
  go_wp2_with fail
  exact bodyPost_ret (v := .agg #[.int .i64 s0, .int .i64 s1, .int .i64 s2]) (by simp [results, Tryz.results16, go_sem, n0, n1, n2]) rfl ⟨rfl, HB3.out⟩
set_option maxRecDepth 100000 in
set_option maxHeartbeats 1000000 in
theorem time (h : Tab w base S m a) :
    Calls Tryz.prog 15 #[.pointer (some ⟨m, 0, none⟩)] w fun e w' => e = .returned (.agg #[.int .u64 a.now, .int .u64 a.seq, .bool a.closed]) ∧ Below w.heap.size w w' := by
  obtain ⟨t, c, arr, p, g, Sk, h⟩ := h
  have c2 : w.cell? ⟨m, 2, none⟩ = some (.int .u64 a.now) := h.box.cell' rfl
  have c3 : w.cell? ⟨m, 3, none⟩ = some (.int .u64 a.seq) := h.box.cell' rfl
  have c4 : w.cell? ⟨m, 4, none⟩ = some (.bool a.closed) := h.box.cell' rfl
  have l1 := h.box.lt
  clear h
  go_enter Tryz.func15, Tryz.ntmps15
  go_wp2_with fail
  exact bodyPost_ret (v := .agg #[.int .u64 a.now, .int .u64 a.seq, .bool a.closed]) (by simp [results, Tryz.results15, go_sem]) rfl ⟨rfl, ((Below.refl _ w).alloc (Nat.le_refl _) _)⟩
set_option maxRecDepth 100000 in
set_option maxHeartbeats 1000000 in
theorem tick (h : TabV w base S m t c arr p g Sk a) (hn : Door.U a.now) (by_ : Int) (hb : Door.U by_) :
    Calls Tryz.prog 25 #[.pointer (some ⟨m, 0, none⟩), .int .u64 by_] w fun e w' => e = .returned (.tuple #[]) ∧ TabV w' base S m t c arr p g Sk (a.tick by_) ∧ Gone w S w' S := by
  have c2 : w.cell? ⟨m, 2, none⟩ = some (.int .u64 a.now) := h.box.cell' rfl
  have c3 : w.cell? ⟨m, 3, none⟩ = some (.int .u64 a.seq) := h.box.cell' rfl
  have c4 : w.cell? ⟨m, 4, none⟩ = some (.bool a.closed) := h.box.cell' rfl
  have l1 := h.box.lt
  have H := Lib.hid h
  clear h
  go_enter Tryz.func25, Tryz.ntmps25
  go_wp2_with fail
  refine (Tick.pass _ _ _ _ hn hb _).mono ?_
  rintro e w1 ⟨rfl, hw⟩
  have hb : Below w.heap.size w w1 := by subst hw; exact ((Below.refl _ w).alloc (Nat.le_refl _) _).alloc (by simp) _
  clear hw
  have H1 := Lib.hid (H.out.below hb)
  have HB := Lib.hid hb
  have b2 : w1.cell? ⟨m, 2, none⟩ = some (.int .u64 a.now) := H1.out.box.cell' rfl
  have b3 : w1.cell? ⟨m, 3, none⟩ = some (.int .u64 a.seq) := H1.out.box.cell' rfl
  have b4 : w1.cell? ⟨m, 4, none⟩ = some (.bool a.closed) := H1.out.box.cell' rfl
  have f2 := H1.out.box.frozen 2
  have f3 := H1.out.box.frozen 3
  have f4 := H1.out.box.frozen 4
  have l2 := H1.out.box.lt
  clear hb c2 c3 c4 l1
  go_wp2_with fail
  have t1 := H1.out.time 2 (.int .u64 (Door.sat a.now by_)) (a' := a.tick by_) rfl rfl rfl rfl rfl
  have t2 := t1.1.time 3 (.int .u64 a.seq) (a' := a.tick by_) rfl rfl rfl rfl rfl
  have t3 := t2.1.time 4 (.bool a.closed) (a' := a.tick by_) rfl rfl rfl rfl rfl
  go_end0
  exact ⟨rfl, t3.1, (Gone.of_below HB.out).trans (t1.2.trans (t2.2.trans t3.2))⟩
/-- the sessions of all stripes below j -/
def storedUpto (a : Mo) (j : Nat) : Nat := ((List.range j).map fun k => storedB (a.bk k)).sum
theorem storedUpto_next (a : Mo) (j : Nat) : storedUpto a (j + 1) = storedUpto a j + storedB (a.bk j) := by unfold storedUpto; rw [List.range_succ, List.map_append, List.sum_append]; simp
theorem stored_fit {b : Nat} {l : List (ByteArray × En)} (h : Fit b l) : storedB l ≤ b * b := by
  have h1 : ∀ l : List (ByteArray × En), (∀ q ∈ l, q.2.1.length ≤ b) → storedB l ≤ l.length * b := fun l => by
    induction l with
    | nil => intro _; simp [storedB]
    | cons q r ih =>
      intro hq
      have h1 := ih fun x hx => hq x (List.mem_cons_of_mem _ hx)
      have h2 := hq q (List.mem_cons_self ..)
      unfold storedB at *
      simp only [List.map_cons, List.sum_cons, List.length_cons, Nat.add_mul, Nat.one_mul]
      omega
  exact Nat.le_trans (h1 l h.ses) (Nat.mul_le_mul_right b h.len)
theorem storedUpto_le (ho : a.Ok b) : ∀ {j : Nat}, j ≤ a.n → storedUpto a j ≤ j * (b * b)
  | 0, _ => by simp [storedUpto]
  | j + 1, hj => by
    have h1 := storedUpto_le ho (j := j) (by omega)
    have h2 := stored_fit (ho.fit j (by omega))
    rw [storedUpto_next, Nat.add_mul, Nat.one_mul]
    omega
theorem storedUpto_small (ho : a.Ok b) (hb : b ≤ 380) {j : Nat} (hj : j ≤ a.n) : storedUpto a j ≤ 1155200 :=
  Nat.le_trans (storedUpto_le ho hj) (Nat.mul_le_mul (Nat.le_trans hj ho.n8) (Nat.mul_le_mul hb hb))
set_option maxRecDepth 100000 in
set_option maxHeartbeats 1000000 in
theorem stored (h : Tab w base S m a) (ho : a.Ok b) (hb : b ≤ 380) {n : Int} (hn : (a.stored : Int) = n) :
    Calls Tryz.prog 18 #[.pointer (some ⟨m, 0, none⟩)] w fun e w' => e = .returned (.int .i64 n) ∧ Below w.heap.size w w' := by
  obtain ⟨t, c, arr, p, g, Sk, h⟩ := h
  have c5 : w.cell? ⟨m, 5, none⟩ = some (.slice (some ⟨t, 0, none⟩) a.n c) := h.box.cell' rfl
  have l1 := h.box.lt
  have H := Lib.hid h
  have HO := Lib.hid ho
  have HN : Hid ((storedUpto a a.n : Int) = n) := hn
  have hn8 := ho.n8
  clear h ho hn
  go_enter Tryz.func18, Tryz.ntmps18
  go_wp2_with fail
  go_loopw [3, 11] (fun vn vi wr => ∃ j : Nat, j ≤ a.n ∧ vi = .int .i64 j ∧ vn = .int .i64 (storedUpto a j : Int) ∧ Below w.heap.size w wr) (fun _ vi _ => a.n - (intOf vi).toNat)
  case atStart => exact ⟨0, Nat.zero_le _, rfl, rfl, Below.refl _ _⟩
  case round =>
    obtain ⟨j, hj, rfl, rfl, hB⟩ := hrel
    have HB := Lib.hid hB
    have H1 := Lib.hid (H.out.below hB)
    have sz := hB.size
    clear hB
    by_cases hlt : j < a.n
    · have d1 : decide ((j : Int) < (a.n : Int)) = true := by simp; omega
      have e0 : World.cell? _ ⟨t, j * 2, none⟩ = some (.pointer (p j)) := (H1.out.row.cell _).trans (H1.out.bkc j hlt)
      have e1 : World.cell? _ ⟨t, j * 2 + 1, none⟩ = some (.pointer (some ⟨g j, 0, none⟩)) := (H1.out.row.cell _).trans (H1.out.fdc j hlt)
      have l2 := H1.out.row.lt
      have HNX := Lib.hid (storedUpto_next a j)
      have bb := (Below.refl wr.heap.size wr).alloc (Nat.le_refl _) (.cells #[.pointer (p j), .pointer (some ⟨g j, 0, none⟩)] 74)
      have HK := Lib.hid ((H1.out.book j hlt).now bb)
      have HB2 := Lib.hid (HB.out.trans (bb.mono sz))
      have hfb := storedUpto_small HO.out hb (j := j) (by omega)
      have hfb2 := storedUpto_small HO.out hb (j := j + 1) (by omega)
      rw [HNX.out] at hfb2
      clear bb
      go_wp2_with fail
      refine (Bk.stored HK.out (by have := (HO.out.fit j hlt).len; omega) (fun q hq => by have := (HO.out.fit j hlt).ses q hq; omega)).mono ?_
      rintro e w2 ⟨rfl, b2⟩
      have HB3 := Lib.hid (HB2.out.trans (b2.mono HB2.out.size))
      clear b2
      go_wp2_with fail
      go_roundw
      case rel => exact ⟨j + 1, by omega, by go_num, by rw [HNX.out]; go_num, HB3.out⟩
      case measure => simp [intOf]; omega
    · obtain rfl : j = a.n := by omega
      have d1 : decide ((a.n : Int) < (a.n : Int)) = false := by simp
      have HN2 := HN.out
      go_wp2_with fail
      go_ret
      exact ⟨by rw [HN2]; rfl, HB.out⟩
set_option maxRecDepth 100000 in
set_option maxHeartbeats 1000000 in
theorem sweep (h : Tab w base S m a) (ho : a.Ok b) (hb : b ≤ 380) (hbw : base ≤ w.heap.size) (s : Int) :
    Calls Tryz.prog 26 #[.pointer (some ⟨m, 0, none⟩), .int .i64 s] w fun e w' => e = .returned (.tuple #[]) ∧ ∃ S', Tab w' base S' m (a.sweep s) ∧ Gone w S w' S' := by
  obtain ⟨t, c, arr, p, g, Sk, h⟩ := h
  have c5 : w.cell? ⟨m, 5, none⟩ = some (.slice (some ⟨t, 0, none⟩) a.n c) := h.box.cell' rfl
  have l1 := h.box.lt
  have hn1 := ho.n1
  have hn8 := ho.n8
  have H := Lib.hid h
  have HO := Lib.hid ho
  by_cases hs : 0 ≤ s ∧ s < (a.n : Int)
  · obtain ⟨k, rfl⟩ := Int.eq_ofNat_of_zero_le hs.1
    have hk : k < a.n := by omega
    have HE : Hid (a.sweep (k : Int) = a.take.become k (sweepB a.now (a.bk k)) (sweepC a.now (a.bk k)) (Door.sat a.seq 1)) := by show _ = _; unfold Mo.sweep; rw [if_pos hs]; rfl
    have hw1 : (decide ((0 : Int) ≤ (k : Int)) && decide ((k : Int) ≤ (a.n : Int) - 1)) = true := by simp; omega
    rw [HE.out]
    clear h ho hs
    go_enter Tryz.func26, Tryz.ntmps26
    go_wp2_with fail
    refine (within _ _ _ true hw1 _).mono ?_
    rintro e w1 ⟨rfl, rfl⟩
    go_wp2_with fail
    refine (take_ H.out HO.out.seq).mono ?_
    rintro e w2 ⟨rfl, hT, hG⟩
    have HT := Lib.hid hT
    have HG := Lib.hid hG
    have HO2 := HO
    have d2 : w2.cell? ⟨m, 2, none⟩ = some (.int .u64 a.now) := hT.box.cell' rfl
    have d5 : w2.cell? ⟨m, 5, none⟩ = some (.slice (some ⟨t, 0, none⟩) a.n c) := hT.box.cell' rfl
    have l2 := hT.box.lt
    have l3 := hT.row.lt
    have d0 : w2.cell? ⟨t, k * 2, none⟩ = some (.pointer (p k)) := (hT.row.cell _).trans (hT.bkc k hk)
    have HKS : Hid (∀ W, Below w2.heap.size w2 W → (W.cell? ⟨m, 5, none⟩ = some (.slice (some ⟨t, 0, none⟩) a.n c) ∧ W.cell? ⟨t, k * 2, none⟩ = some (.pointer (p k)) ∧ W.cell? ⟨m, 2, none⟩ = some (.int .u64 a.now) ∧ m < W.heap.size ∧ t < W.heap.size)) :=
      fun W K => ⟨(K.cell (p := ⟨m, 5, none⟩) l2).trans d5, (K.cell (p := ⟨t, k * 2, none⟩) l3).trans d0, (K.cell (p := ⟨m, 2, none⟩) l2).trans d2, Nat.lt_of_lt_of_le l2 K.size, Nat.lt_of_lt_of_le l3 K.size⟩
    have HWR : Hid (∀ W, Below w2.heap.size w2 W → Calls Tryz.prog 56 #[.agg #[.pointer (p k)], .int .u64 a.now] W (Bk.Told W (sweepB a.now (a.bk k)) (sweepC a.now (a.bk k)))) :=
      fun W K => Bk.sweep a.now ((HT.out.book k hk).now K) (HO.out.fit k hk).book.1 (by have := (HO.out.fit k hk).len; omega) (fun q hq => by have := (HO.out.fit k hk).ses q hq; omega)
    have hcl : (sweepC a.now (a.bk k)).length ≤ b := Nat.le_trans (List.length_filterMap_le _ _) (HO.out.fit k hk).len
    have hbw2 : base ≤ w2.heap.size := Nat.le_trans hbw hG.touch.size
    clear hT hG
    go_upto_region 2 with (fail)
    go_cut [5, 6] (fun v5 v6 wx => ∃ (gn : Nat) (p5 A5 : Option Addr) (c5 : Nat), v5 = .pointer (some ⟨gn, 0, none⟩) ∧ v6 = .slice A5 (sweepC a.now (a.bk k)).length c5 ∧ w2.heap.size ≤ gn ∧ Is wx gn 72 #[.pointer p5] ∧ Booked wx p5 (sweepB a.now (a.bk k)) ∧ Lain 185 wx A5 (flatC (sweepC a.now (a.bk k))) ∧ Below w2.heap.size w2 wx)
    case first =>
      generalize sweepB a.now (a.bk k) = nb at *
      generalize sweepC a.now (a.bk k) = nc at *
      refine wp_region_held_drew (S := fun W => W.cell? ⟨m, 5, none⟩ = some (.slice (some ⟨t, 0, none⟩) a.n c) ∧ W.cell? ⟨t, k * 2, none⟩ = some (.pointer (p k)) ∧ W.cell? ⟨m, 2, none⟩ = some (.int .u64 a.now) ∧ m < W.heap.size ∧ t < W.heap.size) (by kernel_rfl) (HKS.out _ (Law.below_drewN (Below.refl _ w2) 1)) (fun hS0 => ?_)
      refine wpAnyH_take (i := 0) (oi := { dst := some 19, op := .move (.tmp 0), type := _, pos := _, after := _, guard := _ }) (v := .pointer (some ⟨m, 0, none⟩)) rfl (by kernel_rfl) (by kernel_rfl) (by kernel_rfl) (fun _ _ _ h => h) (Or.inl ⟨by rfl, ?_⟩) hS0 ?_
      · intro w' hSw
        go_simp
      try simp only [Act.put, List.setIfInBounds_toArray, List.set_cons_zero, List.set_cons_succ]
      refine wpAnyH_take (i := 1) (oi := { dst := some 20, op := .nilCheck (.tmp 19), type := _, pos := _, after := _, guard := _ }) (v := .pointer (some ⟨m, 0, none⟩)) rfl (by kernel_rfl) (by kernel_rfl) (by kernel_rfl) (fun _ _ _ h => h) (Or.inl ⟨by rfl, ?_⟩) hS0 ?_
      · intro w' hSw
        go_simp
      try simp only [Act.put, List.setIfInBounds_toArray, List.set_cons_zero, List.set_cons_succ]
      refine wpAnyH_take (i := 2) (oi := { dst := some 21, op := .fieldAddr 67 (.tmp 20) 3, type := _, pos := _, after := _, guard := _ }) (v := .pointer (some ⟨m, 5, none⟩)) rfl (by kernel_rfl) (by kernel_rfl) (by kernel_rfl) (fun _ _ _ h => h) (Or.inl ⟨by rfl, ?_⟩) hS0 ?_
      · intro w' hSw
        go_simp
      try simp only [Act.put, List.setIfInBounds_toArray, List.set_cons_zero, List.set_cons_succ]
      refine wpAnyH_take (i := 3) (oi := { dst := some 22, op := .load 65 (.tmp 21), type := _, pos := _, after := _, guard := _ }) (v := .slice (some ⟨t, 0, none⟩) a.n c) rfl (by kernel_rfl) (by kernel_rfl) (by kernel_rfl) (fun _ _ _ h => h) (Or.inl ⟨by rfl, ?_⟩) hS0 ?_
      · intro w' hSw
        obtain ⟨s0, s1, s2, s3, s4⟩ := hSw
        go_simp
      try simp only [Act.put, List.setIfInBounds_toArray, List.set_cons_zero, List.set_cons_succ]
      refine wpAnyH_take (i := 4) (oi := { dst := some 23, op := .move (.tmp 1), type := _, pos := _, after := _, guard := _ }) (v := .int .i64 (k : Int)) rfl (by kernel_rfl) (by kernel_rfl) (by kernel_rfl) (fun _ _ _ h => h) (Or.inl ⟨by rfl, ?_⟩) hS0 ?_
      · intro w' hSw
        go_simp
      try simp only [Act.put, List.setIfInBounds_toArray, List.set_cons_zero, List.set_cons_succ]
      refine wpAnyH_take (i := 5) (oi := { dst := some 24, op := .indexAddr 65 (.tmp 22) (.tmp 23), type := _, pos := _, after := _, guard := _ }) (v := .pointer (some ⟨t, k * 2, none⟩)) rfl (by kernel_rfl) (by kernel_rfl) (by kernel_rfl) (fun _ _ _ h => h) (Or.inl ⟨by rfl, ?_⟩) hS0 ?_
      · intro w' hSw
        go_simp; (try (intro h8; omega))
      try simp only [Act.put, List.setIfInBounds_toArray, List.set_cons_zero, List.set_cons_succ]
      refine wpAnyH_take (i := 6) (oi := { dst := some 25, op := .fieldAddr 74 (.tmp 24) 0, type := _, pos := _, after := _, guard := _ }) (v := .pointer (some ⟨t, k * 2, none⟩)) rfl (by kernel_rfl) (by kernel_rfl) (by kernel_rfl) (fun _ _ _ h => h) (Or.inl ⟨by rfl, ?_⟩) hS0 ?_
      · intro w' hSw
        go_simp
      try simp only [Act.put, List.setIfInBounds_toArray, List.set_cons_zero, List.set_cons_succ]
      refine wpAnyH_take (i := 7) (oi := { dst := some 26, op := .load 72 (.tmp 25), type := _, pos := _, after := _, guard := _ }) (v := .agg #[.pointer (p k)]) rfl (by kernel_rfl) (by kernel_rfl) (by kernel_rfl) (fun _ _ _ h => h) (Or.inl ⟨by rfl, ?_⟩) hS0 ?_
      · intro w' hSw
        obtain ⟨s0, s1, s2, s3, s4⟩ := hSw
        go_simp
      try simp only [Act.put, List.setIfInBounds_toArray, List.set_cons_zero, List.set_cons_succ]
      refine wpAnyH_take (i := 8) (oi := { dst := some 27, op := .move (.tmp 0), type := _, pos := _, after := _, guard := _ }) (v := .pointer (some ⟨m, 0, none⟩)) rfl (by kernel_rfl) (by kernel_rfl) (by kernel_rfl) (fun _ _ _ h => h) (Or.inl ⟨by rfl, ?_⟩) hS0 ?_
      · intro w' hSw
        go_simp
      try simp only [Act.put, List.setIfInBounds_toArray, List.set_cons_zero, List.set_cons_succ]
      refine wpAnyH_take (i := 9) (oi := { dst := some 28, op := .nilCheck (.tmp 27), type := _, pos := _, after := _, guard := _ }) (v := .pointer (some ⟨m, 0, none⟩)) rfl (by kernel_rfl) (by kernel_rfl) (by kernel_rfl) (fun _ _ _ h => h) (Or.inl ⟨by rfl, ?_⟩) hS0 ?_
      · intro w' hSw
        go_simp
      try simp only [Act.put, List.setIfInBounds_toArray, List.set_cons_zero, List.set_cons_succ]
      refine wpAnyH_take (i := 10) (oi := { dst := some 29, op := .fieldAddr 67 (.tmp 28) 2, type := _, pos := _, after := _, guard := _ }) (v := .pointer (some ⟨m, 2, none⟩)) rfl (by kernel_rfl) (by kernel_rfl) (by kernel_rfl) (fun _ _ _ h => h) (Or.inl ⟨by rfl, ?_⟩) hS0 ?_
      · intro w' hSw
        go_simp
      try simp only [Act.put, List.setIfInBounds_toArray, List.set_cons_zero, List.set_cons_succ]
      refine wpAnyH_take (i := 11) (oi := { dst := some 30, op := .fieldAddr 50 (.tmp 29) 0, type := _, pos := _, after := _, guard := _ }) (v := .pointer (some ⟨m, 2, none⟩)) rfl (by kernel_rfl) (by kernel_rfl) (by kernel_rfl) (fun _ _ _ h => h) (Or.inl ⟨by rfl, ?_⟩) hS0 ?_
      · intro w' hSw
        go_simp
      try simp only [Act.put, List.setIfInBounds_toArray, List.set_cons_zero, List.set_cons_succ]
      refine wpAnyH_take (i := 12) (oi := { dst := some 31, op := .load 22 (.tmp 30), type := _, pos := _, after := _, guard := _ }) (v := .int .u64 a.now) rfl (by kernel_rfl) (by kernel_rfl) (by kernel_rfl) (fun _ _ _ h => h) (Or.inl ⟨by rfl, ?_⟩) hS0 ?_
      · intro w' hSw
        obtain ⟨s0, s1, s2, s3, s4⟩ := hSw
        go_simp
      try simp only [Act.put, List.setIfInBounds_toArray, List.set_cons_zero, List.set_cons_succ]
      refine wpAnyH_ready (rs := [13, 17]) (by kernel_rfl) (by simp) ?_
      refine AllReadyH.cons (o := { dst := some 32, op := .call { callee := .value (.func 56), args := #[.tmp 26, .tmp 31], argTypes := #[72, 22] }, type := _, pos := _, after := _, guard := _ }) rfl (fun K hK => ?_) ?_
      · go_simp
        refine Calls.mono (HWR.out _ (Law.below_drewN (Below.refl _ w2) 1)) ?_
        rintro e w5 ⟨p5, A5, c5, rfl, k5, q5, b1⟩
        have b2 : Below w2.heap.size w2 w5 := Below.trans (Law.below_drewN (Below.refl _ w2) 1) (Below.mono b1 (Nat.le_refl _))
        go_wp2_with fail
        refine hK.out _ _ (HKS.out _ b2) (fun hS1 => ?_)
        clear hK K
        try simp only [Act.put, List.setIfInBounds_toArray, List.set_cons_zero, List.set_cons_succ]
        refine wpAnyH_take (i := 14) (oi := { dst := some 18, op := .move (.tmp 32), type := _, pos := _, after := _, guard := _ }) (v := .tuple #[.agg #[.pointer p5], .slice A5 nc.length c5]) rfl (by kernel_rfl) (by kernel_rfl) (by kernel_rfl) (fun _ _ _ h => h) (Or.inl ⟨by rfl, ?_⟩) hS1 ?_
        · intro w' hSw
          go_simp
        try simp only [Act.put, List.setIfInBounds_toArray, List.set_cons_zero, List.set_cons_succ]
        refine wpAnyH_take (i := 15) (oi := { dst := some 33, op := .extract (.tmp 18) 0, type := _, pos := _, after := _, guard := _ }) (v := .agg #[.pointer p5]) rfl (by kernel_rfl) (by kernel_rfl) (by kernel_rfl) (fun _ _ _ h => h) (Or.inl ⟨by rfl, ?_⟩) hS1 ?_
        · intro w' hSw
          go_simp
        try simp only [Act.put, List.setIfInBounds_toArray, List.set_cons_zero, List.set_cons_succ]
        refine wpAnyH_take (i := 16) (oi := { dst := some 34, op := .extract (.tmp 18) 1, type := _, pos := _, after := _, guard := _ }) (v := .slice A5 nc.length c5) rfl (by kernel_rfl) (by kernel_rfl) (by kernel_rfl) (fun _ _ _ h => h) (Or.inl ⟨by rfl, ?_⟩) hS1 ?_
        · intro w' hSw
          go_simp
        try simp only [Act.put, List.setIfInBounds_toArray, List.set_cons_zero, List.set_cons_succ]
        refine wpAnyH_ready (rs := [17]) (by kernel_rfl) (by simp) ?_
        refine AllReadyH.cons (o := { dst := some 5, op := .alloc 72, type := _, pos := _, after := _, guard := _ }) rfl (fun K hK => ?_) AllReadyH.nil
        go_simp
        have ba := (Below.refl w5.heap.size w5).alloc (Nat.le_refl _) (.cells #[.pointer none] 72)
        have HBn := Lib.hid (b2.trans (ba.mono b2.size))
        have HIn := Lib.hid (Is.new w5 72 #[.pointer none] rfl)
        have HKn := Lib.hid (k5.now ba)
        have HQn := Lib.hid (q5.now ba)
        have nf : w2.heap.size ≤ w5.heap.size := b2.size
        refine hK.out _ _ (HKS.out _ HBn.out) (fun hS2 => ?_)
        clear hK K
        try simp only [Act.put, List.setIfInBounds_toArray, List.set_cons_zero, List.set_cons_succ]
        generalize w5.alloc (.cells #[.pointer none] 72) = w6 at *
        have c80 : w6.cell? ⟨w5.heap.size, 0, none⟩ = some (.pointer none) := HIn.out.cell' rfl
        have f80 := HIn.out.frozen 0
        have l80 := HIn.out.lt
        have HIz := Lib.hid (HIn.out.set 0 (.pointer p5) rfl)
        have HKz := Lib.hid (HKn.out.store (i := 0) HIn.out (by decide) (by decide) (.pointer p5))
        have HQz := Lib.hid (HQn.out.keeps (Keeps.store (i := 0) HIn.out (by decide) (.pointer p5)))
        have HBz := Lib.hid (HBn.out.setCell (p := ⟨w5.heap.size, 0, none⟩) nf (.pointer p5))
        refine wpAnyH_ready (rs := [18]) (by kernel_rfl) (by simp) ?_
        refine AllReadyH.cons (o := { dst := none, op := .store 72 (.tmp 5) (.tmp 33), type := _, pos := _, after := _, guard := _ }) rfl (fun K hK => ?_) AllReadyH.nil
        go_simp
        refine hK.out _ _ (HKS.out _ HBz.out) (fun hS9 => ?_)
        clear hK K
        try simp only [Act.put, List.setIfInBounds_toArray, List.set_cons_zero, List.set_cons_succ]
        refine wpAnyH_take (i := 19) (oi := { dst := some 6, op := .assign (.tmp 34), type := _, pos := _, after := _, guard := _ }) (v := .slice A5 nc.length c5) rfl (by kernel_rfl) (by kernel_rfl) (by kernel_rfl) (fun _ _ _ h => h) (Or.inl ⟨by rfl, ?_⟩) hS9 ?_
        · intro w' hSw
          go_simp
        try simp only [Act.put, List.setIfInBounds_toArray, List.set_cons_zero, List.set_cons_succ]
        refine wpAnyH_done (by kernel_rfl) ?_ _
        go_wp2_with fail
        go_meet
        exact ⟨w5.heap.size, p5, A5, c5, rfl, rfl, nf, HIz.out, HKz.out, HQz.out, HBz.out⟩
      · refine AllReadyH.cons (o := { dst := some 5, op := .alloc 72, type := _, pos := _, after := _, guard := _ }) rfl (fun K hK => ?_) AllReadyH.nil
        go_simp
        have ba : Below w2.heap.size w2 (w2.alloc (.cells #[.pointer none] 72)).drew := Law.below_drewN ((Below.refl w2.heap.size w2).alloc (Nat.le_refl _) (.cells #[.pointer none] 72)) 1
        have HI4 : Hid (Is (w2.alloc (.cells #[.pointer none] 72)).drew w2.heap.size 72 #[.pointer none]) := (Is.new w2 72 #[.pointer none] rfl).drewN 1
        refine hK.out _ _ (HKS.out _ ba) (fun hS2 => ?_)
        clear hK K
        try simp only [Act.put, List.setIfInBounds_toArray, List.set_cons_zero, List.set_cons_succ]
        generalize (w2.alloc (.cells #[.pointer none] 72)).drew = w4 at *
        refine wpAnyH_ready (rs := [13]) (by kernel_rfl) (by simp) ?_
        refine AllReadyH.cons (o := { dst := some 32, op := .call { callee := .value (.func 56), args := #[.tmp 26, .tmp 31], argTypes := #[72, 22] }, type := _, pos := _, after := _, guard := _ }) rfl (fun K hK => ?_) AllReadyH.nil
        go_simp
        refine Calls.mono (HWR.out _ ba) ?_
        rintro e w5 ⟨p5, A5, c5, rfl, k5, q5, b1⟩
        have HBn := Lib.hid (ba.trans (Below.mono b1 ba.size))
        have HIn := Lib.hid (HI4.out.below b1 HI4.out.lt)
        have HKn := Lib.hid k5
        have HQn := Lib.hid q5
        have nf : w2.heap.size ≤ w2.heap.size := Nat.le_refl _
        go_wp2_with fail
        refine hK.out _ _ (HKS.out _ HBn.out) (fun hS1 => ?_)
        clear hK K
        try simp only [Act.put, List.setIfInBounds_toArray, List.set_cons_zero, List.set_cons_succ]
        refine wpAnyH_take (i := 14) (oi := { dst := some 18, op := .move (.tmp 32), type := _, pos := _, after := _, guard := _ }) (v := .tuple #[.agg #[.pointer p5], .slice A5 nc.length c5]) rfl (by kernel_rfl) (by kernel_rfl) (by kernel_rfl) (fun _ _ _ h => h) (Or.inl ⟨by rfl, ?_⟩) hS1 ?_
        · intro w' hSw
          go_simp
        try simp only [Act.put, List.setIfInBounds_toArray, List.set_cons_zero, List.set_cons_succ]
        refine wpAnyH_take (i := 15) (oi := { dst := some 33, op := .extract (.tmp 18) 0, type := _, pos := _, after := _, guard := _ }) (v := .agg #[.pointer p5]) rfl (by kernel_rfl) (by kernel_rfl) (by kernel_rfl) (fun _ _ _ h => h) (Or.inl ⟨by rfl, ?_⟩) hS1 ?_
        · intro w' hSw
          go_simp
        try simp only [Act.put, List.setIfInBounds_toArray, List.set_cons_zero, List.set_cons_succ]
        refine wpAnyH_take (i := 16) (oi := { dst := some 34, op := .extract (.tmp 18) 1, type := _, pos := _, after := _, guard := _ }) (v := .slice A5 nc.length c5) rfl (by kernel_rfl) (by kernel_rfl) (by kernel_rfl) (fun _ _ _ h => h) (Or.inl ⟨by rfl, ?_⟩) hS1 ?_
        · intro w' hSw
          go_simp
        try simp only [Act.put, List.setIfInBounds_toArray, List.set_cons_zero, List.set_cons_succ]
        have c80 : w5.cell? ⟨w2.heap.size, 0, none⟩ = some (.pointer none) := HIn.out.cell' rfl
        have f80 := HIn.out.frozen 0
        have l80 := HIn.out.lt
        have HIz := Lib.hid (HIn.out.set 0 (.pointer p5) rfl)
        have HKz := Lib.hid (HKn.out.store (i := 0) HIn.out (by decide) (by decide) (.pointer p5))
        have HQz := Lib.hid (HQn.out.keeps (Keeps.store (i := 0) HIn.out (by decide) (.pointer p5)))
        have HBz := Lib.hid (HBn.out.setCell (p := ⟨w2.heap.size, 0, none⟩) nf (.pointer p5))
        refine wpAnyH_ready (rs := [18]) (by kernel_rfl) (by simp) ?_
        refine AllReadyH.cons (o := { dst := none, op := .store 72 (.tmp 5) (.tmp 33), type := _, pos := _, after := _, guard := _ }) rfl (fun K hK => ?_) AllReadyH.nil
        go_simp
        refine hK.out _ _ (HKS.out _ HBz.out) (fun hS9 => ?_)
        clear hK K
        try simp only [Act.put, List.setIfInBounds_toArray, List.set_cons_zero, List.set_cons_succ]
        refine wpAnyH_take (i := 19) (oi := { dst := some 6, op := .assign (.tmp 34), type := _, pos := _, after := _, guard := _ }) (v := .slice A5 nc.length c5) rfl (by kernel_rfl) (by kernel_rfl) (by kernel_rfl) (fun _ _ _ h => h) (Or.inl ⟨by rfl, ?_⟩) hS9 ?_
        · intro w' hSw
          go_simp
        try simp only [Act.put, List.setIfInBounds_toArray, List.set_cons_zero, List.set_cons_succ]
        refine wpAnyH_done (by kernel_rfl) ?_ _
        go_wp2_with fail
        go_meet
        exact ⟨w2.heap.size, p5, A5, c5, rfl, rfl, nf, HIz.out, HKz.out, HQz.out, HBz.out⟩
    case rest =>
      obtain ⟨gn, p5, A5, c5, rfl, rfl, hgn, hI, hK, hQ, hB⟩ := hcut
      have HT3 := Lib.hid (HT.out.below hB)
      have HG3 := Lib.hid (HG.out.trans (Gone.of_below hB))
      have HK3 := Lib.hid hK
      have HQ3 := Lib.hid hQ
      have z0 := hI.cell' (i := 0) rfl
      have z1 := hI.lt
      have z5 : wc.cell? ⟨m, 5, none⟩ = some (.slice (some ⟨t, 0, none⟩) a.n c) := HT3.out.box.cell' rfl
      have z2 := HT3.out.box.lt
      have hbw3 : base ≤ wc.heap.size := Nat.le_trans hbw2 hB.size
      have bd := Law.below_drewN (Below.refl wc.heap.size wc) 1
      have HT4 : Hid (TabV wc.drew base S m t c arr p g Sk { a with seq := Door.sat a.seq 1 }) := HT3.out.below bd
      have HK4 : Hid (Booked wc.drew p5 (sweepB a.now (a.bk k))) := hK.now bd
      have HQ4 : Hid (Lain 185 wc.drew A5 (flatC (sweepC a.now (a.bk k)))) := hQ.now bd
      have HG4 : Hid (Gone w S wc.drew S) := HG3.out.trans (Gone.of_below bd)
      have hbw4 : base ≤ wc.drew.heap.size := hbw3
      clear hI hK hQ hB HKS HWR d0 d2 d5 l2 l3 HT3 HK3 HQ3 HG3 bd
      go_upto_region 3 with (fail)
      go_still_tail 9, (by kernel_rfl)
      change wpList _ _ _ _ _ wc.drew
      generalize wc.drew = w9 at *
      go_wp2_with fail
      refine (become_ (k := k) HT4.out hbw4 hk HK4.out HQ4.out _ (fun i hi => by have := HO.out.que k hk i hi; show ((a.fd k).que i).length + _ ≤ _; omega)).mono ?_
      rintro e w4 ⟨rfl, S', arr', p', Sk', h4, g4⟩
      have H4 := Lib.hid h4
      have G4 := Lib.hid (HG4.out.trans g4)
      clear h4 g4
      go_wp2_with fail
      go_end0
      exact ⟨rfl, S', ⟨_, _, _, _, _, _, H4.out⟩, G4.out⟩
  · have HE : Hid (a.sweep s = a) := by show _ = _; unfold Mo.sweep; rw [if_neg hs]
    have hw1 : (decide ((0 : Int) ≤ s) && decide (s ≤ (a.n : Int) - 1)) = false := by simp; omega
    rw [HE.out]
    clear h ho hs
    go_enter Tryz.func26, Tryz.ntmps26
    go_wp2_with fail
    refine (within _ _ _ false hw1 _).mono ?_
    rintro e w1 ⟨rfl, rfl⟩
    go_wp2_with fail
    refine bodyPost_ret (results_none rfl _ _ _) rfl ?_
    exact ⟨rfl, S, ⟨_, _, _, _, _, _, H.out⟩, Gone.refl _ _⟩
end
end Mod
end Go.Proofs.YtohdlnefgieenaaGreat

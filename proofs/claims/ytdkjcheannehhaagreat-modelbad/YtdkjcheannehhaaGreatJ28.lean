/-
  What the table's small calls (layer 10) come to: of, take, become, Time, Tick.
-/
import Derived.Test.YtdkjcheannehhaaGreatJ27
import Derived.Test.YtdkjcheannehhaaGreatJ15
import Derived.Test.YtdkjcheannehhaaGreatJ19
import Derived.Test.YtdkjcheannehhaaGreatJ23
namespace Go.Proofs.YtdkjcheannehhaaGreat
open Go.RowKit Go.Shelf
attribute [local go_sem] Oper.semAt_some
namespace Mod
open Go.Law Feed Bk
/-- a change as the feed takes it -/
def cgOf (q : Ch) : Cg := ⟨q.1, q.2.1.1, q.2.1.2.1, q.2.1.2.2, q.2.2.1, q.2.2.2.1, q.2.2.2.2⟩
theorem flat_cg : ∀ l : List Ch, flatG (l.map cgOf) = flatC l
  | [] => rfl
  | q :: r => by
    have ih := flat_cg r
    unfold flatG flatC at *
    rw [List.map_cons, List.flatMap_cons, List.flatMap_cons, ih]
    rfl
/-- the stripe that a user is in -/
def str (u : ByteArray) (n : Nat) : Nat := Hash.stripe u.data.toList (n : Int)
theorem str_lt (u : ByteArray) {n : Nat} (h : 1 ≤ n) : str u n < n := by
  have := Hash.stripe_lt u.data.toList (n := (n : Int)) (by omega)
  unfold str; omega
section
variable {w w' : World} {base m t c : Nat} {S S' : Nat → Prop} {arr : Array Value} {p : Nat → Option Addr} {g : Nat → Nat} {Sk : Nat → Nat → Prop} {a : Mo}
set_option maxRecDepth 100000 in
set_option maxHeartbeats 1000000 in
theorem of_ (h : TabV w base S m t c arr p g Sk a) (u : ByteArray) (hu : u.size ≤ maxLen) (hn : 1 ≤ a.n) (hn2 : a.n ≤ 8) {k : Nat} (hk : str u a.n = k) :
    Calls Tryz.prog 51 #[.pointer (some ⟨m, 0, none⟩), .string u] w fun e w' => e = .returned (.pointer (some ⟨t, k * 2, none⟩)) ∧ Below w.heap.size w w' := by
  have hlt : k < a.n := hk ▸ str_lt u hn
  have c5 : w.cell? ⟨m, 5, none⟩ = some (.slice (some ⟨t, 0, none⟩) a.n c) := h.box.cell' rfl
  have l1 := h.box.lt
  have l2 := h.row.lt
  have d2 : k * 2 < arr.size := (Array.getElem?_eq_some_iff.1 (h.bkc k hlt)).1
  have HS : Hid (∀ W, Calls Tryz.prog 78 #[.string u, .int .i64 (a.n : Int)] W fun e w' => e = .returned (.int .i64 (k : Int)) ∧ W = w') := fun W => by rw [← hk]; exact Hash.hstripe u (a.n : Int) W hu (by omega)
  clear h hk
  generalize a.n = n at *
  go_enter Tryz.func51, Tryz.ntmps51
  go_wp2_with fail
  go_quiet ((go_at_call 78; exact Law.quiet (HS.out _)))
  go_wp2_with fail
  go_ret
  exact ⟨rfl, Law.below_drewN (Below.refl _ _) nq⟩
set_option maxRecDepth 100000 in
set_option maxHeartbeats 1000000 in
theorem take_ (h : TabV w base S m t c arr p g Sk a) (hs : Door.U a.seq) :
    Calls Tryz.prog 57 #[.pointer (some ⟨m, 0, none⟩)] w fun e w' => e = .returned (.int .u64 (Door.sat a.seq 1)) ∧ TabV w' base S m t c arr p g Sk { a with seq := Door.sat a.seq 1 } ∧ Gone w S w' S := by
  have c2 : w.cell? ⟨m, 2, none⟩ = some (.int .u64 a.now) := h.box.cell' rfl
  have c3 : w.cell? ⟨m, 3, none⟩ = some (.int .u64 a.seq) := h.box.cell' rfl
  have c4 : w.cell? ⟨m, 4, none⟩ = some (.bool a.closed) := h.box.cell' rfl
  have l1 := h.box.lt
  have H := Lib.hid h
  clear h
  go_enter Tryz.func57, Tryz.ntmps57
  go_wp2_with fail
  refine (Tick.take _ _ _ hs _).mono ?_
  rintro e w1 ⟨rfl, hw⟩
  have hb : Below w.heap.size w w1 := by subst hw; exact Law.below_drewN (((Below.refl _ w).alloc (Nat.le_refl _) _).alloc (by simp) _) 1
  clear hw
  have H1 := Lib.hid (H.out.below hb)
  have HB := Lib.hid hb
  have b2 : w1.cell? ⟨m, 2, none⟩ = some (.int .u64 a.now) := H1.out.box.cell' rfl
  have b3 : w1.cell? ⟨m, 3, none⟩ = some (.int .u64 a.seq) := H1.out.box.cell' rfl
  have b4 : w1.cell? ⟨m, 4, none⟩ = some (.bool a.closed) := H1.out.box.cell' rfl
  have f2 := H1.out.box.frozen 2
  have f3 := H1.out.box.frozen 3
  have f4 := H1.out.box.frozen 4
  have l2 := H1.out.box.lt
  clear hb c2 c3 c4 l1
  go_wp2_with fail
  have t1 := H1.out.time 2 (.int .u64 a.now) (a' := a) rfl rfl rfl rfl rfl
  have t2 := t1.1.time 3 (.int .u64 (Door.sat a.seq 1)) (a' := { a with seq := Door.sat a.seq 1 }) rfl rfl rfl rfl rfl
  have t3 := t2.1.time 4 (.bool a.closed) (a' := { a with seq := Door.sat a.seq 1 }) rfl rfl rfl rfl rfl
  go_ret
  exact ⟨rfl, t3.1, (Gone.of_below HB.out).trans (t1.2.trans (t2.2.trans t3.2))⟩
set_option maxRecDepth 100000 in
set_option maxHeartbeats 1000000 in
theorem become_ (h : TabV w base S m t c arr p g Sk a) (hbw : base ≤ w.heap.size) {k : Nat} (hk : k < a.n) {q : Option Addr} {nb : List (ByteArray × En)} (hq : Booked w q nb) {A : Option Addr} {cs : List Ch} {cc : Nat} (hc : Lain 181 w A (flatC cs)) (seq : Int) (hl : ∀ i, i < 8 → ((a.fd k).que i).length + cs.length ≤ 1000) :
    Calls Tryz.prog 59 #[.pointer (some ⟨t, k * 2, none⟩), .agg #[.pointer q], .slice A cs.length cc, .int .u64 seq] w fun e w' => e = .returned (.tuple #[]) ∧ ∃ S' arr' p' Sk', TabV w' base S' m t c arr' p' g Sk' { a with bk := upd a.bk k nb, fd := upd a.fd k ((a.fd k).tell a.room (cs.map cgOf) seq) } ∧ Gone w S w' S' := by
  have hp := h.put hk hq
  have hK1 : Lain 181 (w.setCell ⟨t, k * 2, none⟩ (.pointer q)) A (flatC cs) := hc.keeps (Keeps.store h.row (by decide) _)
  have hb := (Below.refl (w.setCell ⟨t, k * 2, none⟩ (.pointer q)).heap.size (w.setCell ⟨t, k * 2, none⟩ (.pointer q))).alloc (Nat.le_refl _) (.cells #[.pointer q] 77)
  have H := Lib.hid (hp.1.below hb)
  have HC := Lib.hid (hK1.now hb)
  have HG : Hid (Gone w S ((w.setCell ⟨t, k * 2, none⟩ (.pointer q)).alloc (.cells #[.pointer q] 77)) S) := hp.2.trans (Gone.of_below hb)
  have hbw2 : base ≤ ((w.setCell ⟨t, k * 2, none⟩ (.pointer q)).alloc (.cells #[.pointer q] 77)).heap.size := by simp; omega
  have l3 := h.row.lt
  have b2 := (Below.refl w.heap.size w).alloc (Nat.le_refl _) (.cells #[.pointer q] 77)
  have R2 := h.row.below b2 l3
  have c0 := (R2.cell (k * 2)).trans (h.bkc k hk)
  have f0 := R2.frozen (k * 2)
  have l0 := R2.lt
  have c1 : World.cell? _ ⟨t, k * 2 + 1, none⟩ = some (.pointer (some ⟨g k, 0, none⟩)) := (H.out.row.cell (k * 2 + 1)).trans (H.out.fdc k hk)
  have l1 := H.out.row.lt
  have HL := Lib.hid hl
  have HF := Lib.hid (H.out.feed k hk)
  clear h hq hc hb hl hp hK1 R2 b2
  go_enter Tryz.func59, Tryz.ntmps59
  go_wp2_with fail
  generalize ((w.setCell ⟨t, k * 2, none⟩ (.pointer q)).alloc (.cells #[.pointer q] 77)) = w1 at *
  have HT := tell HF.out hbw2 (cs.map cgOf) seq (c := cc) (by rw [flat_cg]; exact HC.out) (fun i hi => by have := HL.out i hi; simpa using this)
  rw [List.length_map] at HT
  refine HT.mono ?_
  rintro e w2 ⟨rfl, S2, hF, hW, _⟩
  have HT2 := Lib.hid (H.out.tell hk hF hW)
  clear hF hW HT
  go_wp2_with fail
  go_end0
  exact ⟨rfl, _, _, _, _, HT2.out.1, HG.out.trans HT2.out.2⟩
end
end Mod
end Go.Proofs.YtdkjcheannehhaaGreat
/-
  Events of several lists put together, as plain lists: two at a time by halves, or by a look at all first ones; both come to the same. General over programs.
-/
namespace Go.Law
/-- two lists put together -/
def mrg : List Ev → List Ev → List Ev
  | [], b => b
  | x :: a, [] => x :: a
  | x :: a, y :: b => if y.sq < x.sq then y :: mrg (x :: a) b else x :: mrg a (y :: b)
termination_by a b => a.length + b.length
theorem mrg_nil (b : List Ev) : mrg [] b = b := by unfold mrg; rfl
theorem mrg_nil' (a : List Ev) : mrg a [] = a := by cases a <;> (unfold mrg; rfl)
theorem mrg_cons (x y : Ev) (a b : List Ev) : mrg (x :: a) (y :: b) = if y.sq < x.sq then y :: mrg (x :: a) b else x :: mrg a (y :: b) := by rw [mrg]
theorem mrg_length : ∀ (n : Nat) (a b : List Ev), a.length + b.length ≤ n → (mrg a b).length = a.length + b.length
  | _, [], b, _ => by rw [mrg_nil]; simp
  | _, x :: a, [], _ => by rw [mrg_nil']; simp
  | 0, x :: a, y :: b, h => by simp at h
  | n + 1, x :: a, y :: b, h => by
    rw [mrg_cons]
    simp at h
    split
    · have := mrg_length n (x :: a) b (by simp; omega); simp at this ⊢; omega
    · have := mrg_length n a (y :: b) (by simp; omega); simp at this ⊢; omega
/-- numbers that don't fall -/
def Up2 (l : List Ev) : Prop := l.Pairwise fun a b => a.sq ≤ b.sq
theorem mrg_mem : ∀ (n : Nat) (a b : List Ev), a.length + b.length ≤ n → ∀ q ∈ mrg a b, q ∈ a ∨ q ∈ b
  | _, [], b, _, q, hq => by rw [mrg_nil] at hq; exact .inr hq
  | _, x :: a, [], _, q, hq => by rw [mrg_nil'] at hq; exact .inl hq
  | 0, x :: a, y :: b, h, _, _ => by simp at h
  | n + 1, x :: a, y :: b, h, q, hq => by
    rw [mrg_cons] at hq
    simp at h
    split at hq
    · rcases List.mem_cons.1 hq with rfl | hq
      · exact .inr (by simp)
      · exact (mrg_mem n (x :: a) b (by simp; omega) q hq).imp id (fun h => by simp [h])
    · rcases List.mem_cons.1 hq with rfl | hq
      · exact .inl (by simp)
      · exact (mrg_mem n a (y :: b) (by simp; omega) q hq).imp (fun h => by simp [h]) id
theorem mrg_up : ∀ (n : Nat) (a b : List Ev), a.length + b.length ≤ n → Up2 a → Up2 b → Up2 (mrg a b)
  | _, [], b, _, _, hb => by rw [mrg_nil]; exact hb
  | _, x :: a, [], _, ha, _ => by rw [mrg_nil']; exact ha
  | 0, x :: a, y :: b, h, _, _ => by simp at h
  | n + 1, x :: a, y :: b, h, ha, hb => by
    rw [mrg_cons]
    simp at h
    obtain ⟨ha1, ha2⟩ := List.pairwise_cons.1 ha
    obtain ⟨hb1, hb2⟩ := List.pairwise_cons.1 hb
    split
    · rename_i hlt
      refine List.pairwise_cons.2 ⟨fun q hq => ?_, mrg_up n (x :: a) b (by simp; omega) ha hb2⟩
      rcases mrg_mem n (x :: a) b (by simp; omega) q hq with hq | hq
      · rcases List.mem_cons.1 hq with rfl | hq
        · omega
        · have := ha1 q hq; omega
      · exact hb1 q hq
    · rename_i hlt
      refine List.pairwise_cons.2 ⟨fun q hq => ?_, mrg_up n a (y :: b) (by simp; omega) ha2 hb⟩
      rcases mrg_mem n a (y :: b) (by simp; omega) q hq with hq | hq
      · exact ha1 q hq
      · rcases List.mem_cons.1 hq with rfl | hq
        · omega
        · have := hb1 q hq; omega
/-- the first ones looked at: the one that comes, and what is left -/
def pick : List (List Ev) → Option (Ev × List (List Ev))
  | [] => none
  | r :: rs => match r, pick rs with
    | [], none => none
    | [], some (e, rs') => some (e, [] :: rs')
    | x :: r', none => some (x, r' :: rs)
    | x :: r', some (e, rs') => if x.sq ≤ e.sq then some (x, r' :: rs) else some (e, (x :: r') :: rs')
def total (l : List (List Ev)) : Nat := (l.map List.length).sum
theorem total_app (xs ys : List (List Ev)) : total (xs ++ ys) = total xs + total ys := by unfold total; rw [List.map_append, List.sum_append]
theorem total_cons (r : List Ev) (rs : List (List Ev)) : total (r :: rs) = r.length + total rs := by unfold total; simp
theorem pick_total : ∀ {l : List (List Ev)} {e : Ev} {l' : List (List Ev)}, pick l = some (e, l') → total l = total l' + 1
  | [], _, _, h => by simp [pick] at h
  | r :: rs, e, l', h => by
    cases hp : pick rs with
    | none =>
      cases r with
      | nil => simp [pick, hp] at h
      | cons x r' =>
        simp [pick, hp] at h
        obtain ⟨rfl, rfl⟩ := h
        simp [total_cons]; omega
    | some p =>
      obtain ⟨e1, rs'⟩ := p
      have ih := pick_total hp
      cases r with
      | nil =>
        simp [pick, hp] at h
        obtain ⟨rfl, rfl⟩ := h
        simp [total_cons, ih]
      | cons x r' =>
        by_cases hx : x.sq ≤ e1.sq
        · simp [pick, hp, hx] at h
          obtain ⟨rfl, rfl⟩ := h
          simp [total_cons]; omega
        · simp [pick, hp, hx] at h
          obtain ⟨rfl, rfl⟩ := h
          simp [total_cons, ih]; omega
theorem pick_none : ∀ {l : List (List Ev)}, pick l = none → total l = 0
  | [], _ => rfl
  | r :: rs, h => by
    cases hp : pick rs with
    | none =>
      cases r with
      | nil => rw [total_cons, pick_none hp]; rfl
      | cons x r' => simp [pick, hp] at h
    | some p =>
      obtain ⟨e1, rs'⟩ := p
      cases r with
      | nil => simp [pick, hp] at h
      | cons x r' =>
        by_cases hx : x.sq ≤ e1.sq
        · simp [pick, hp, hx] at h
        · simp [pick, hp, hx] at h
/-- of two rows of lists -/
def pick2 (xs ys : List (List Ev)) : Option (Ev × List (List Ev)) := match pick xs, pick ys with
  | none, none => none
  | none, some (e, ys') => some (e, xs ++ ys')
  | some (e, xs'), none => some (e, xs' ++ ys)
  | some (x, xs'), some (y, ys') => if y.sq < x.sq then some (y, xs ++ ys') else some (x, xs' ++ ys)
theorem pick_app : ∀ (xs ys : List (List Ev)), pick (xs ++ ys) = pick2 xs ys
  | [], ys => by
    unfold pick2
    rw [List.nil_append, show pick [] = none from rfl]
    cases pick ys <;> rfl
  | r :: rs, ys => by
    have ih := pick_app rs ys
    rw [List.cons_append]
    show (match r, pick (rs ++ ys) with | [], none => none | [], some (e, rs') => some (e, [] :: rs') | x :: r', none => some (x, r' :: (rs ++ ys)) | x :: r', some (e, rs') => if x.sq ≤ e.sq then some (x, r' :: (rs ++ ys)) else some (e, (x :: r') :: rs')) = _
    rw [ih]
    unfold pick2
    cases hr : pick rs with
    | none =>
      cases hy : pick ys with
      | none => cases r <;> simp [pick, hr]
      | some q =>
        obtain ⟨y, ys'⟩ := q
        cases r with
        | nil => simp [pick, hr]
        | cons x r' =>
          simp only [pick, hr]
          by_cases h : x.sq ≤ y.sq
          · rw [if_pos h, if_neg (by omega)]; rfl
          · rw [if_neg h, if_pos (by omega)]; rfl
    | some p =>
      obtain ⟨e, rs'⟩ := p
      cases hy : pick ys with
      | none =>
        cases r with
        | nil => simp [pick, hr]
        | cons x r' =>
          simp only [pick, hr]
          by_cases h : x.sq ≤ e.sq
          · rw [if_pos h, if_pos h]; rfl
          · rw [if_neg h, if_neg h]; rfl
      | some q =>
        obtain ⟨y, ys'⟩ := q
        cases r with
        | nil =>
          simp only [pick, hr]
          by_cases h : y.sq < e.sq
          · rw [if_pos h, if_pos h]; rfl
          · rw [if_neg h, if_neg h]; rfl
        | cons x r' =>
          simp only [pick, hr]
          by_cases h : y.sq < e.sq
          · rw [if_pos h]
            simp only
            by_cases hx : x.sq ≤ e.sq
            · simp only [if_pos hx]
              by_cases h2 : x.sq ≤ y.sq
              · rw [if_pos h2, if_neg (by omega)]; rfl
              · rw [if_neg h2, if_pos (by omega)]; rfl
            · simp only [if_neg hx]
              rw [if_neg (by omega), if_pos h]; rfl
          · rw [if_neg h]
            simp only
            by_cases hx : x.sq ≤ e.sq
            · simp only [if_pos hx]
              rw [if_neg (by omega)]; rfl
            · simp only [if_neg hx]
              rw [if_neg h]; rfl
/-- by a look at all first ones -/
def kway : Nat → List (List Ev) → List Ev
  | 0, _ => []
  | n + 1, l => match pick l with
    | none => []
    | some (e, l') => e :: kway n l'
theorem kway_none {l : List (List Ev)} (h : pick l = none) : ∀ n, kway n l = []
  | 0 => rfl
  | n + 1 => by rw [kway, h]
theorem kway_two : ∀ (n : Nat) (xs ys : List (List Ev)), total xs + total ys ≤ n → ∀ a b, total xs ≤ a → total ys ≤ b → kway n (xs ++ ys) = mrg (kway a xs) (kway b ys)
  | n, xs, ys, hn, a, b, ha, hb => by
    cases hx : pick xs with
    | none =>
      rw [kway_none hx a, mrg_nil]
      cases hy : pick ys with
      | none =>
        rw [kway_none hy b]
        exact kway_none (by rw [pick_app]; unfold pick2; rw [hx, hy]) n
      | some q =>
        obtain ⟨y, ys'⟩ := q
        have ty := pick_total hy
        obtain ⟨n, rfl⟩ : ∃ m, n = m + 1 := ⟨n - 1, by omega⟩
        obtain ⟨b, rfl⟩ : ∃ m, b = m + 1 := ⟨b - 1, by omega⟩
        have ih := kway_two n xs ys' (by omega) 0 b (by rw [pick_none hx]; omega) (by omega)
        rw [kway, pick_app, kway, hy]
        unfold pick2
        rw [hx, hy]
        simp only
        rw [ih, kway, mrg_nil]
    | some p =>
      obtain ⟨x, xs'⟩ := p
      have tx := pick_total hx
      obtain ⟨n, rfl⟩ : ∃ m, n = m + 1 := ⟨n - 1, by omega⟩
      obtain ⟨a, rfl⟩ : ∃ m, a = m + 1 := ⟨a - 1, by omega⟩
      cases hy : pick ys with
      | none =>
        have ih := kway_two n xs' ys (by omega) a 0 (by omega) (by rw [pick_none hy]; omega)
        rw [kway_none hy b, mrg_nil', kway, pick_app, kway, hx]
        unfold pick2
        rw [hx, hy]
        simp only
        rw [ih, kway, mrg_nil']
      | some q =>
        obtain ⟨y, ys'⟩ := q
        have ty := pick_total hy
        obtain ⟨b, rfl⟩ : ∃ m, b = m + 1 := ⟨b - 1, by omega⟩
        have e1 : kway (a + 1) xs = x :: kway a xs' := by rw [kway, hx]
        have e2 : kway (b + 1) ys = y :: kway b ys' := by rw [kway, hy]
        rw [e1, e2, mrg_cons, kway, pick_app]
        unfold pick2
        rw [hx, hy]
        simp only
        by_cases h : y.sq < x.sq
        · rw [if_pos h, if_pos h]
          simp only
          rw [kway_two n xs ys' (by omega) (a + 1) b (by omega) (by omega), e1]
        · rw [if_neg h, if_neg h]
          simp only
          rw [kway_two n xs' ys (by omega) a (b + 1) (by omega) (by omega), e2]
theorem kway_one : ∀ (n : Nat) (r : List Ev), r.length ≤ n → kway n [r] = r
  | 0, r, h => by rw [List.eq_nil_of_length_eq_zero (by omega : r.length = 0)]; rfl
  | n + 1, [], _ => by simp [kway, pick]
  | n + 1, x :: r, h => by
    have ih := kway_one n r (by simpa using h)
    simp [kway, pick, ih]
/-- all lists put together -/
def all (l : List (List Ev)) : List Ev := kway (total l) l
theorem all_nil : all [] = [] := rfl
theorem all_one (r : List Ev) : all [r] = r := kway_one _ r (by simp [total])
theorem all_half (l : List (List Ev)) (h : Nat) : all l = mrg (all (l.take h)) (all (l.drop h)) := by
  have e := kway_two (total l) (l.take h) (l.drop h) (by rw [← total_app, List.take_append_drop]; omega) _ _ (Nat.le_refl _) (Nat.le_refl _)
  rw [List.take_append_drop] at e
  exact e
theorem all_length : ∀ (n : Nat) (l : List (List Ev)), total l ≤ n → (kway n l).length = total l
  | 0, l, h => by simp [kway]; omega
  | n + 1, l, h => by
    cases hp : pick l with
    | none => rw [kway_none hp, pick_none hp]; rfl
    | some p =>
      obtain ⟨e, l'⟩ := p
      have t := pick_total hp
      rw [kway, hp]
      simp only [List.length_cons]
      rw [all_length n l' (by omega)]
      omega
theorem all_up : ∀ (n : Nat) (l : List (List Ev)), l.length ≤ n → (∀ r ∈ l, Up2 r) → Up2 (all l)
  | _, [], _, _ => by rw [all_nil]; exact List.Pairwise.nil
  | _, [r], _, h => by rw [all_one]; exact h r (by simp)
  | 0, _ :: _ :: _, h, _ => by simp at h
  | n + 1, r :: r' :: rs, h, hu => by
    rw [all_half _ 1]
    refine mrg_up _ _ _ (Nat.le_refl _) (all_up n _ (by simp at h ⊢; omega) ?_) (all_up n _ (by simp at h ⊢; omega) ?_)
    · intro q hq
      exact hu q (List.mem_of_mem_take hq)
    · intro q hq
      exact hu q (List.mem_of_mem_drop hq)
end Go.Law

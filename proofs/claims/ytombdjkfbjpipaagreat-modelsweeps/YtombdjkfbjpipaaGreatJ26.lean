/-
  Two tables (layer 10), one of them swept now and then: alike, as far as it is seen; plain.
-/
import Derived.Test.YtombdjkfbjpipaaGreatJ25
import Derived.Test.YtombdjkfbjpipaaGreatJ3
namespace Go.Proofs.YtombdjkfbjpipaaGreat
open Go.RowKit
namespace Mod
open Go.Law Feed Bk Go.Proofs.YtombdjkfbjpipaaGreat.OmapB
/-- how many sessions a book has, without one user's -/
theorem stored_out (u : ByteArray) : ∀ {l : List (ByteArray × En)}, Rises lt l → storedB l = storedB (outK u l) + (sesK u l).length
  | [], _ => rfl
  | p :: r, h => by
    have ih := stored_out u (l := r) h.tail
    by_cases e : p.1 = u
    · subst e
      have h1 : outK p.1 (p :: r) = outK p.1 r := by unfold outK; rw [List.filter_cons_of_neg (by simp)]
      have h2 : outK p.1 r = r := outK_none fun q hq => fun e => tri.irr p.1 (by have h3 := h.head q hq; rw [e] at h3; exact h3)
      rw [h1, h2]
      unfold sesK storedB
      simp [getK]
      omega
    · have h1 : outK u (p :: r) = p :: outK u r := by unfold outK; rw [List.filter_cons_of_pos (by simpa using e)]
      have h2 : sesK u (p :: r) = sesK u r := by unfold sesK; rw [getK, if_neg e]
      rw [h1, h2]
      unfold storedB at ih ⊢
      simp only [List.map_cons, List.sum_cons]
      omega
theorem ses_none {u : ByteArray} {l : List (ByteArray × En)} (h : ∀ q ∈ l, q.1 ≠ u) : sesK u l = [] := by unfold sesK; rw [getK_none h]; rfl
theorem stored_mono : ∀ {xs ys : List (ByteArray × En)}, Rises lt xs → Rises lt ys → (∀ u, (sesK u xs).length ≤ (sesK u ys).length) → storedB xs ≤ storedB ys
  | [], _, _, _, _ => Nat.zero_le _
  | p :: r, ys, hx, hy, h => by
    have hp : ∀ q ∈ r, q.1 ≠ p.1 := fun q hq e => tri.irr p.1 (by have h3 := hx.head q hq; rw [e] at h3; exact h3)
    have ih := stored_mono (xs := r) (ys := outK p.1 ys) hx.tail (outK_rises lt hy) fun u => by
      by_cases e : u = p.1
      · subst e; rw [ses_none hp]; exact Nat.zero_le _
      · have h1 := h u
        have h2 : sesK u (p :: r) = sesK u r := by unfold sesK; rw [getK, if_neg (Ne.symm e)]
        have h3 : sesK u (outK p.1 ys) = sesK u ys := by unfold sesK; rw [getK_out_other e]
        rw [h2] at h1
        rw [h3]
        exact h1
    have h1 := stored_out p.1 hy
    have h2 := h p.1
    have h3 : (sesK p.1 (p :: r)).length = p.2.1.length := by unfold sesK; simp [getK]
    unfold storedB at *
    simp only [List.map_cons, List.sum_cons]
    omega
/-- alike: the same but for sessions that do not live, events, and what was counted -/
structure Alike (a a' : Mo) : Prop where
  n : a'.n = a.n
  most : a'.most = a.most
  lim : a'.lim = a.lim
  now : a'.now = a.now
  closed : a'.closed = a.closed
  live : ∀ k, k < a.n → ∀ u, live a.now (sesK u (a'.bk k)) = live a.now (sesK u (a.bk k))
  len : ∀ k, k < a.n → ∀ u, (sesK u (a'.bk k)).length ≤ (sesK u (a.bk k)).length
  wat : ∀ k, (a'.fd k).wat = (a.fd k).wat
theorem Alike.refl (a : Mo) : Alike a a := ⟨rfl, rfl, rfl, rfl, rfl, fun _ _ _ => rfl, fun _ _ _ => Nat.le_refl _, fun _ => rfl⟩
section
variable {a a' : Mo} {b b' : Nat}
theorem presS_eq {now : Int} {xs ys : List Sn} (h : Law.live now xs = Law.live now ys) : presS now xs = presS now ys := by unfold presS; rw [h]
theorem Alike.pres (h : Alike a a') (ho : a.Ok b) (u : ByteArray) : a'.pres u = a.pres u := by
  unfold Mo.pres
  rw [h.n, h.now]
  exact presS_eq (h.live _ (str_lt u ho.n1) u)
theorem Alike.stored (h : Alike a a') (ho : a.Ok b) (ho' : a'.Ok b') : a'.stored ≤ a.stored := by
  have aux : ∀ n, n ≤ a.n → ((List.range n).map fun k => storedB (a'.bk k)).sum ≤ ((List.range n).map fun k => storedB (a.bk k)).sum := fun n => by
    induction n with
    | zero => intro _; exact Nat.le_refl _
    | succ n ih =>
      intro hn
      have h1 := ih (by omega)
      have h2 := stored_mono (ho'.fit n (by have := h.n; omega)).book.1 (ho.fit n (by omega)).book.1 (h.len n (by omega))
      rw [List.range_succ, List.map_append, List.sum_append, List.map_append, List.sum_append]
      simp only [List.map_cons, List.map_nil, List.sum_cons, List.sum_nil, Nat.add_zero]
      omega
  unfold Mo.stored
  rw [h.n]
  exact aux _ (Nat.le_refl _)
/-- one table swept -/
theorem Alike.sweep1 (h : Alike a a') (ho' : a'.Ok b') (s : Int) : Alike a (a'.sweep s) := by
  unfold Mo.sweep
  split
  · rename_i hs
    have hR := (ho'.fit s.toNat (by omega)).book.1
    refine ⟨h.n, h.most, h.lim, h.now, h.closed, fun k hk u => ?_, fun k hk u => ?_, fun k => (become_wat a'.take _ _ _ _ k).trans (h.wat k)⟩
    · show Law.live a.now (sesK u (upd a'.bk s.toNat _ k)) = _
      by_cases e : k = s.toNat
      · subst e
        rw [upd_same, ses_sweep lt tri hR, h.now, live_live (Int.le_refl _)]
        exact h.live _ hk u
      · rw [upd_other _ _ e]; exact h.live k hk u
    · show (sesK u (upd a'.bk s.toNat _ k)).length ≤ _
      by_cases e : k = s.toNat
      · subst e
        rw [upd_same, ses_sweep lt tri hR]
        exact Nat.le_trans (live_length _ _) (h.len _ hk u)
      · rw [upd_other _ _ e]; exact h.len k hk u
  · exact h
/-- both swept -/
theorem Alike.sweep (h : Alike a a') (ho : a.Ok b) (ho' : a'.Ok b') (s : Int) : Alike (a.sweep s) (a'.sweep s) := by
  unfold Mo.sweep
  rw [h.n]
  split
  · rename_i hs
    have hR := (ho.fit s.toNat (by omega)).book.1
    have hR' := (ho'.fit s.toNat (by have := h.n; omega)).book.1
    refine ⟨h.n, h.most, h.lim, h.now, h.closed, fun k hk u => ?_, fun k hk u => ?_, fun k => (become_wat a'.take _ _ _ _ k).trans ((h.wat k).trans (become_wat a.take _ _ _ _ k).symm)⟩
    · show Law.live a.now (sesK u (upd a'.bk s.toNat _ k)) = Law.live a.now (sesK u (upd a.bk s.toNat _ k))
      by_cases e : k = s.toNat
      · subst e
        rw [upd_same, upd_same, ses_sweep lt tri hR, ses_sweep lt tri hR', h.now, h.live _ hk u]
      · rw [upd_other _ _ e, upd_other _ _ e]; exact h.live k hk u
    · show (sesK u (upd a'.bk s.toNat _ k)).length ≤ (sesK u (upd a.bk s.toNat _ k)).length
      by_cases e : k = s.toNat
      · subst e
        rw [upd_same, upd_same, ses_sweep lt tri hR, ses_sweep lt tri hR', h.now, h.live _ hk u]
        exact Nat.le_refl _
      · rw [upd_other _ _ e, upd_other _ _ e]; exact h.len k hk u
  · exact h
theorem Alike.tick (h : Alike a a') (ho : a.Ok b) {t : Int} (ht : Door.U t) : Alike (a.tick t) (a'.tick t) := by
  have hle : a.now ≤ Door.sat a.now t := by have := ho.now; unfold Door.U at *; unfold Door.sat; split <;> omega
  refine ⟨h.n, h.most, h.lim, by show Door.sat a'.now t = Door.sat a.now t; rw [h.now], h.closed, fun k hk u => ?_, h.len, h.wat⟩
  show Law.live (Door.sat a.now t) (sesK u (a'.bk k)) = Law.live (Door.sat a.now t) (sesK u (a.bk k))
  rw [← live_live hle (sesK u (a'.bk k)), ← live_live hle (sesK u (a.bk k)), h.live k hk u]
theorem Alike.wrote (h : Alike a a') (ho : a.Ok b) (x : OpV) : wrS x a'.now a'.most (a'.bk (str x.user a'.n)) = wrS x a.now a.most (a.bk (str x.user a.n)) ∧ wrE x a'.now a'.most (a'.bk (str x.user a'.n)) = wrE x a.now a.most (a.bk (str x.user a.n)) := by
  unfold wrS wrE
  rw [h.n, h.now, h.most, h.live _ (str_lt x.user ho.n1) x.user]
  exact ⟨rfl, rfl⟩
theorem Alike.write (h : Alike a a') (ho : a.Ok b) (x : OpV) : Alike (a.write x).1 (a'.write x).1 ∧ (a'.write x).2 = (a.write x).2 := by
  unfold Mo.write
  rw [h.closed]
  split
  · exact ⟨⟨h.n, h.most, h.lim, h.now, h.closed, h.live, h.len, h.wat⟩, rfl⟩
  · have hw := h.wrote ho x
    refine ⟨?_, hw.2⟩
    have hS : ∀ k u, sesK u ((a.take.become (str x.user a.n) (wrB x a.now a.most (a.bk (str x.user a.n))) (wrC x a.now a.most (a.bk (str x.user a.n))) (Door.sat a.seq 1)).bk k) = if k = str x.user a.n ∧ u = x.user then wrS x a.now a.most (a.bk (str x.user a.n)) else sesK u (a.bk k) := fun k u => by
      show sesK u (upd a.bk _ _ k) = _
      by_cases e : k = str x.user a.n
      · subst e
        rw [upd_same]
        by_cases e2 : u = x.user
        · rw [if_pos ⟨rfl, e2⟩, e2]; exact ses_become_same lt _ _ _ _
        · rw [if_neg (fun hx => e2 hx.2)]; exact ses_become_other lt tri e2 _ _ _
      · rw [upd_other _ _ e, if_neg (fun hx => e hx.1)]
    have hS' : ∀ k u, sesK u ((a'.take.become (str x.user a'.n) (wrB x a'.now a'.most (a'.bk (str x.user a'.n))) (wrC x a'.now a'.most (a'.bk (str x.user a'.n))) (Door.sat a'.seq 1)).bk k) = if k = str x.user a.n ∧ u = x.user then wrS x a.now a.most (a.bk (str x.user a.n)) else sesK u (a'.bk k) := fun k u => by
      show sesK u (upd a'.bk _ _ k) = _
      rw [← hw.1, ← h.n]
      by_cases e : k = str x.user a'.n
      · subst e
        rw [upd_same]
        by_cases e2 : u = x.user
        · rw [if_pos ⟨rfl, e2⟩, e2]; exact ses_become_same lt _ _ _ _
        · rw [if_neg (fun hx => e2 hx.2)]; exact ses_become_other lt tri e2 _ _ _
      · rw [upd_other _ _ e, if_neg (fun hx => e hx.1)]
    refine ⟨h.n, h.most, h.lim, h.now, h.closed, fun k hk u => ?_, fun k hk u => ?_, fun k => (become_wat a'.take _ _ _ _ k).trans ((h.wat k).trans (become_wat a.take _ _ _ _ k).symm)⟩
    · rw [hS, hS']
      split
      · rfl
      · exact h.live k hk u
    · rw [hS, hS']
      split
      · exact Nat.le_refl _
      · exact h.len k hk u
theorem Alike.watched (h : Alike a a') (who : Nat) : a'.watched who = a.watched who := watched_of h.n fun k => by rw [h.wat]
theorem Alike.watch (h : Alike a a') (who : Nat) (u : ByteArray) : Alike (a.watch who u).1 (a'.watch who u).1 ∧ (a'.watch who u).2 = (a.watch who u).2 := by
  have hH : ∀ k, (a'.fd k).has who u = (a.fd k).has who u := fun k => by unfold St.has; rw [h.wat]
  unfold Mo.watch
  rw [h.n, h.lim, h.watched who, hH]
  split
  · exact ⟨h, rfl⟩
  · refine ⟨⟨h.n, h.most, h.lim, h.now, h.closed, h.live, h.len, fun k => ?_⟩, rfl⟩
    show (upd a'.fd _ _ k).wat = (upd a.fd _ _ k).wat
    unfold upd
    split
    · show (fun i => _) = (fun i => _); simp only [h.wat]
    · exact h.wat k
theorem Alike.unwatch (h : Alike a a') (who : Nat) (u : ByteArray) : Alike (a.unwatch who u) (a'.unwatch who u) := by
  refine ⟨h.n, h.most, h.lim, h.now, h.closed, h.live, h.len, fun k => ?_⟩
  show (upd a'.fd _ _ k).wat = (upd a.fd _ _ k).wat
  rw [h.n]
  unfold upd
  split
  · show (fun i => _) = (fun i => _); simp only [h.wat]
  · exact h.wat k
theorem Alike.poll (h : Alike a a') (who : Nat) : Alike (a.poll who).1 (a'.poll who).1 := by
  refine ⟨h.n, h.most, h.lim, h.now, h.closed, h.live, h.len, fun k => ?_⟩
  show (if k < a'.n then drained who (a'.fd k) else a'.fd k).wat = (if k < a.n then drained who (a.fd k) else a.fd k).wat
  rw [h.n]
  split
  · exact h.wat k
  · exact h.wat k
theorem Alike.do_ (h : Alike a a') (ho : a.Ok b) (who : Int) (x : OpW) : Alike (a.do_ who x).1 (a'.do_ who x).1 ∧ (x.kind ≠ 8 → (a'.do_ who x).2 = (a.do_ who x).2) := by
  unfold Mo.do_
  split
  · unfold Mo.ask
    split
    · have hw := h.write ho x.v
      exact ⟨hw.1, fun _ => by simp only [hw.2]⟩
    · split
      · rename_i h8
        exact ⟨h.poll _, fun hx => absurd h8 hx⟩
      · rw [h.closed]
        split
        · exact ⟨h, fun _ => rfl⟩
        · split
          · exact ⟨h, fun _ => by rw [h.pres ho]⟩
          · split
            · refine ⟨h, fun _ => ?_⟩
              have : x.us.map a'.pres = x.us.map a.pres := List.map_congr_left fun u _ => h.pres ho u
              rw [this]
            · split
              · have hw := h.watch who.toNat x.user
                exact ⟨hw.1, fun _ => by simp only [hw.2]⟩
              · split
                · exact ⟨h.unwatch _ _, fun _ => rfl⟩
                · exact ⟨⟨h.n, h.most, h.lim, h.now, rfl, h.live, h.len, h.wat⟩, fun _ => rfl⟩
  · exact ⟨h, fun _ => rfl⟩
theorem Alike.act (h : Alike a a') (ho : a.Ok b) (ho' : a'.Ok b') (q : AcM) (ht : Door.U q.by_) : Alike (a.act q).1 (a'.act q).1 ∧ ((q.do_ % 3 ≠ 0 ∨ q.op.kind ≠ 8) → 0 ≤ q.do_ → (a'.act q).2 = (a.act q).2) := by
  unfold Mo.act
  split
  · exact ⟨h.tick ho ht, fun _ _ => rfl⟩
  · split
    · exact ⟨h.sweep ho ho' _, fun _ _ => rfl⟩
    · rename_i h1 h2
      have hd := h.do_ ho q.who q.op
      exact ⟨hd.1, fun hx h0 => hd.2 (hx.resolve_left (by omega))⟩
end
end Mod
end Go.Proofs.YtombdjkfbjpipaaGreat
/-
  What was told last of each user, kept in a list of pairs beside a book; what a change makes of it. General over programs.
-/
namespace Go.Law
open Go.RowKit
/-- changes between two books: of each user at most one, from what was told last to what is told now -/
structure Tells (lt : ByteArray → ByteArray → Prop) (now : Int) (b b' : List (ByteArray × En)) (cs : List Ch) : Prop where
  mem : ∀ c ∈ cs, c.2.1 = toldK c.1 b ∧ c.2.2 = toldK c.1 b' ∧ c.2.2 = presS now (sesK c.1 b') ∧ c.2.1 ≠ c.2.2
  one : (cs.map (·.1)).Nodup
  rest : ∀ u, u ∉ cs.map (·.1) → toldK u b' = toldK u b
section
variable (lt : ByteArray → ByteArray → Prop) [DecidableRel lt]
omit [DecidableRel lt] in
theorem tells_sweep (ht : Tri lt) {now : Int} {b : List (ByteArray × En)} (h : Rises lt b) : Tells lt now b (sweepB now b) (sweepC now b) where
  mem c hc := by
    have h1 := mem_sweepC lt ht h hc
    have h2 := told_sweep lt ht (now := now) (u := c.1) h
    refine ⟨h1.1, by rw [h2]; exact h1.2.1, ?_, h1.2.2⟩
    rw [ses_sweep lt ht h]; exact h1.2.1
  one := by
    have := sweepC_rises lt (now := now) h
    rw [List.Nodup, List.pairwise_map]
    exact this.imp fun hlt => ht.ne hlt
  rest u hu := not_sweepC lt ht h fun q hq e => hu (by rw [← e]; exact List.mem_map_of_mem hq)
theorem tells_become (ht : Tri lt) {now : Int} {b : List (ByteArray × En)} (u : ByteArray) (ss : List Sn) : Tells lt now b (become lt u ss now b) (tells u ss now b) where
  mem c hc := by
    have h1 := tells_ne hc
    obtain ⟨rfl, h2⟩ := h1
    exact ⟨rfl, (told_become_same lt u ss now b).symm, by simp only; rw [ses_become_same], h2⟩
  one := by
    unfold tells
    split <;> simp
  rest v hv := by
    by_cases e : v = u
    · subst e
      unfold tells at hv
      split at hv
      · rename_i h; rw [told_become_same, h]
      · simp at hv
    · exact told_become_other lt ht e ss now b
end
/-- what was told last, by a list of pairs -/
def lookT (u : ByteArray) (nt : List (ByteArray × Pr)) : Pr := (getK u nt).getD (0, 0, 0)
/-- behind k of the changes -/
structure Mid (b b' : List (ByteArray × En)) (cs : List Ch) (k : Nat) (nt : List (ByteArray × Pr)) : Prop where
  one : (nt.map (·.1)).Nodup
  yes : ∀ u, u ∈ (cs.take k).map (·.1) → lookT u nt = toldK u b'
  no : ∀ u, u ∉ (cs.take k).map (·.1) → lookT u nt = toldK u b
theorem Mid.start {b b' : List (ByteArray × En)} {cs : List Ch} {nt : List (ByteArray × Pr)} (h1 : (nt.map (·.1)).Nodup) (h2 : ∀ u, lookT u nt = toldK u b) : Mid b b' cs 0 nt := ⟨h1, fun u hu => by simp at hu, fun u _ => h2 u⟩
theorem Mid.fin {lt : ByteArray → ByteArray → Prop} {now : Int} {b b' : List (ByteArray × En)} {cs : List Ch} {nt : List (ByteArray × Pr)} (h : Mid b b' cs cs.length nt) (ht : Tells lt now b b' cs) : (nt.map (·.1)).Nodup ∧ ∀ u, lookT u nt = toldK u b' :=
  ⟨h.one, fun u => by
    have h1 := h.yes u
    have h2 := h.no u
    rw [List.take_length] at h1 h2
    by_cases hu : u ∈ cs.map (·.1)
    · exact h1 hu
    · rw [h2 hu, ht.rest u hu]⟩
theorem Tells.fresh {lt : ByteArray → ByteArray → Prop} {now : Int} {b b' : List (ByteArray × En)} {cs : List Ch} (ht : Tells lt now b b' cs) {k : Nat} (hk : k < cs.length) : cs[k].1 ∉ (cs.take k).map (·.1) := by
  intro hm
  obtain ⟨i, hi, e⟩ := List.mem_iff_getElem.1 hm
  simp at hi
  have h1 := ht.one
  rw [List.Nodup, List.pairwise_iff_getElem] at h1
  have := h1 i k (by simp; omega) (by simpa using hk) (by omega)
  simp at e this
  exact this e
theorem Mid.old {lt : ByteArray → ByteArray → Prop} {now : Int} {b b' : List (ByteArray × En)} {cs : List Ch} {nt : List (ByteArray × Pr)} {k : Nat} (h : Mid b b' cs k nt) (ht : Tells lt now b b' cs) (hk : k < cs.length) : lookT cs[k].1 nt = cs[k].2.1 := by
  rw [h.no _ (ht.fresh hk)]
  exact ((ht.mem _ (List.getElem_mem hk)).1).symm
theorem getK_notin {u : ByteArray} {nt : List (ByteArray × Pr)} (h : u ∉ nt.map (·.1)) : getK u nt = none := getK_none fun p hp e => h (by rw [← e]; exact List.mem_map_of_mem hp)
theorem getK_or {u : ByteArray} : ∀ {xs ys : List (ByteArray × Pr)}, getK u (xs ++ ys) = (getK u xs).or (getK u ys)
  | [], _ => by simp [getK]
  | p :: r, ys => by
    rw [List.cons_append, getK, getK]
    split
    · rfl
    · exact getK_or
/-- a user of whom nothing was told so far -/
theorem Mid.new {lt : ByteArray → ByteArray → Prop} {now : Int} {b b' : List (ByteArray × En)} {cs : List Ch} {nt : List (ByteArray × Pr)} {k : Nat} (h : Mid b b' cs k nt) (ht : Tells lt now b b' cs) (hk : k < cs.length) (hn : cs[k].1 ∉ nt.map (·.1)) : Mid b b' cs (k + 1) (nt ++ [(cs[k].1, cs[k].2.2)]) where
  one := by
    rw [List.map_append, List.nodup_append]
    refine ⟨h.one, by simp, ?_⟩
    intro a ha c hc
    simp at hc
    subst hc
    intro e
    subst e
    exact hn ha
  yes u hu := by
    have hm := (ht.mem _ (List.getElem_mem hk)).2.1
    unfold lookT
    rw [getK_or]
    by_cases e : u = cs[k].1
    · subst e
      rw [getK_notin hn]
      simp [getK, hm]
    · rw [List.take_succ_eq_append_getElem hk, List.map_append, List.mem_append] at hu
      have hu' : u ∈ (cs.take k).map (·.1) := hu.elim id (fun h' => by simp at h'; exact absurd h' e)
      have h1 := h.yes u hu'
      unfold lookT at h1
      have h2 : getK u [(cs[k].1, cs[k].2.2)] = none := by rw [getK, if_neg (fun e' => e e'.symm)]; rfl
      rw [h2, Option.or_none, h1]
  no u hu := by
    rw [List.take_succ_eq_append_getElem hk, List.map_append, List.mem_append] at hu
    have e : u ≠ cs[k].1 := fun e => hu (.inr (by simp [e]))
    have h1 := h.no u (fun h' => hu (.inl h'))
    unfold lookT at *
    have h2 : getK u [(cs[k].1, cs[k].2.2)] = none := by rw [getK, if_neg (fun e' => e e'.symm)]; rfl
    rw [getK_or, h2, Option.or_none, h1]
theorem set_keys {nt : List (ByteArray × Pr)} {i : Nat} (hi : i < nt.length) (v : Pr) : (nt.set i (nt[i].1, v)).map (·.1) = nt.map (·.1) := by
  rw [List.map_set]
  have e : nt[i].1 = (nt.map (·.1))[i]'(by simpa using hi) := by simp
  simp only
  rw [e, List.set_getElem_self]
theorem getK_at {nt : List (ByteArray × Pr)} (h1 : (nt.map (·.1)).Nodup) {i : Nat} (hi : i < nt.length) : getK nt[i].1 nt = some nt[i].2 := by
  induction nt generalizing i with
  | nil => simp at hi
  | cons p r ih =>
    rw [List.map_cons, List.nodup_cons] at h1
    cases i with
    | zero => simp [getK]
    | succ i =>
      simp only [List.getElem_cons_succ]
      rw [getK, if_neg, ih h1.2]
      intro e
      exact h1.1 (by rw [e]; exact List.mem_map_of_mem (List.getElem_mem _))
theorem getK_set_same {nt : List (ByteArray × Pr)} (h1 : (nt.map (·.1)).Nodup) {i : Nat} (hi : i < nt.length) (v : Pr) : getK nt[i].1 (nt.set i (nt[i].1, v)) = some v := by
  have hn : ((nt.set i (nt[i].1, v)).map (·.1)).Nodup := by rw [set_keys hi]; exact h1
  have := getK_at hn (i := i) (by simpa using hi)
  simpa using this
theorem getK_set_other {u : ByteArray} : ∀ {nt : List (ByteArray × Pr)} {i : Nat} (hi : i < nt.length) (v : Pr), u ≠ nt[i].1 → getK u (nt.set i (nt[i].1, v)) = getK u nt
  | [], _, hi, _, _ => by simp at hi
  | p :: r, 0, _, v, h => by
    simp only [List.getElem_cons_zero] at h
    rw [List.set_cons_zero, getK, getK, if_neg (fun e => h e.symm), if_neg (fun e => h e.symm)]
  | p :: r, i + 1, hi, v, h => by
    simp only [List.getElem_cons_succ] at h
    rw [List.set_cons_succ, getK, getK]
    split
    · rfl
    · exact getK_set_other (by simpa using hi) v h
/-- a user of whom something was told -/
theorem Mid.again {lt : ByteArray → ByteArray → Prop} {now : Int} {b b' : List (ByteArray × En)} {cs : List Ch} {nt : List (ByteArray × Pr)} {k : Nat} (h : Mid b b' cs k nt) (ht : Tells lt now b b' cs) (hk : k < cs.length) {i : Nat} (hi : i < nt.length) (hn : nt[i].1 = cs[k].1) : nt[i].2 = cs[k].2.1 ∧ Mid b b' cs (k + 1) (nt.set i (nt[i].1, cs[k].2.2)) := by
  have hm := (ht.mem _ (List.getElem_mem hk)).2.1
  refine ⟨?_, ?_, fun u hu => ?_, fun u hu => ?_⟩
  · have := h.old ht hk
    unfold lookT at this
    rw [← hn, getK_at h.one hi] at this
    exact this
  · rw [set_keys hi]; exact h.one
  · unfold lookT
    by_cases e : u = cs[k].1
    · rw [e, ← hn, getK_set_same h.one hi, hn, ← hm]
      rfl
    · rw [List.take_succ_eq_append_getElem hk, List.map_append, List.mem_append] at hu
      have hu' : u ∈ (cs.take k).map (·.1) := hu.elim id (fun h' => by simp at h'; exact absurd h' e)
      have h1 := h.yes u hu'
      unfold lookT at h1
      rw [getK_set_other hi _ (by rw [hn]; exact e), h1]
  · rw [List.take_succ_eq_append_getElem hk, List.map_append, List.mem_append] at hu
    have e : u ≠ cs[k].1 := fun e => hu (.inr (by simp [e]))
    have h1 := h.no u (fun h' => hu (.inl h'))
    unfold lookT at *
    rw [getK_set_other hi _ (by rw [hn]; exact e), h1]
/-! ### Rows of presences -/
def cellsP (q : Pr) : List Value := [.int .i64 q.1, .int .i64 q.2.1, .int .i64 q.2.2]
def flatP (l : List Pr) : List Value := l.flatMap cellsP
theorem flatP_length (l : List Pr) : (flatP l).length = l.length * 3 := rows_length (cells := cellsP) (fun _ => rfl) l
theorem flatP_app (xs ys : List Pr) : flatP (xs ++ ys) = flatP xs ++ flatP ys := List.flatMap_append
theorem flatP_set : ∀ (l : List Pr) (i : Nat) (q : Pr), i < l.length → (((flatP l).set (i * 3) (.int .i64 q.1)).set (i * 3 + 1) (.int .i64 q.2.1)).set (i * 3 + 2) (.int .i64 q.2.2) = flatP (l.set i q)
  | [], _, _, h => by simp at h
  | p :: r, 0, q, _ => by simp [flatP, cellsP]
  | p :: r, i + 1, q, h => by
    have ih := flatP_set r i q (by simpa using h)
    have e : flatP (p :: r) = .int .i64 p.1 :: .int .i64 p.2.1 :: .int .i64 p.2.2 :: flatP r := rfl
    rw [e, List.set_cons_succ, show (i + 1) * 3 = i * 3 + 1 + 1 + 1 by omega]
    simp only [List.set_cons_succ, show i * 3 + 1 + 1 + 1 + 1 = (i * 3 + 1) + 1 + 1 + 1 by omega, show i * 3 + 1 + 1 + 1 + 2 = (i * 3 + 2) + 1 + 1 + 1 by omega]
    rw [ih]
    rfl
/-- a store into an own row -/
theorem own_set {w : World} {base size n cap g i : Nat} {e : TypeId} {xs : List Value} (h : w.ownsRow base e size (.slice (some ⟨g, 0, none⟩) n cap) n xs) (u : Value) : (w.setCell ⟨g, i, none⟩ u).ownsRow base e size (.slice (some ⟨g, 0, none⟩) n cap) n (xs.set i u) := by
  rcases h with ⟨h1, ⟨h2, _⟩ | ⟨g', cap', cur, h2, h3, h4, h5, h6, h7, h8⟩⟩
  · cases h2
  · injection h2 with ha hn hc
    injection ha with ha
    injection ha with ha
    subst ha hc
    refine ⟨by simpa using h1, .inr ⟨g, cap, cur.setIfInBounds i u, rfl, h3, (Is.set (w := w) (g := g) (t := e) h4 i u rfl), h5, h6, by simpa using h7, ?_⟩⟩
    rw [← h8, Array.toList_setIfInBounds, List.take_set]
theorem Drawn.keeps {t : TypeId} {w wr : World} (h : Drawn w wr) : Keeps t w wr := by obtain ⟨d, rfl⟩ := h; exact Keeps.drewN t w d
theorem Drawn.own {w wr : World} (h : Drawn w wr) {base : Nat} {e : TypeId} {size n : Nat} {v : Value} {xs : List Value} (ho : w.ownsRow base e size v n xs) : wr.ownsRow base e size v n xs := by obtain ⟨d, rfl⟩ := h; exact own_drewN ho d
theorem own_own_ne {w : World} {base base' : Nat} {e e' : TypeId} {size size' n n' : Nat} {v v' : Value} {xs xs' : List Value} (h : w.ownsRow base e size v n xs) (h' : w.ownsRow base' e' size' v' n' xs') (he : e ≠ e') : v'.ownBlock = none ∨ v'.ownBlock ≠ v.ownBlock := by
  rcases h'.2 with ⟨rfl, _⟩ | ⟨g, cap, cur, rfl, _, hh, _⟩
  · exact .inl rfl
  · exact .inr fun e2 => own_ne h (g := g) (t := e') (cs := cur) hh he e2.symm
theorem own_keeps {w w' : World} {base : Nat} {e : TypeId} {size n : Nat} {v : Value} {xs : List Value} (h : w.ownsRow base e size v n xs) (hk : Keeps e w w') : w'.ownsRow base e size v n xs := by
  rcases h with ⟨h1, ⟨h2, h3⟩ | ⟨g, cap, cur, h2, h3, h4, h5⟩⟩
  · exact ⟨h1, .inl ⟨h2, h3⟩⟩
  · exact ⟨h1, .inr ⟨g, cap, cur, h2, h3, hk.is h4, h5⟩⟩
theorem set_names {nt : List (ByteArray × Pr)} {i : Nat} {u : ByteArray} {o : Pr} (h : nt[i]? = some (u, o)) (v : Pr) : (nt.set i (u, v)).map (fun q => Value.string q.1) = nt.map fun q => Value.string q.1 := by
  obtain ⟨hi, he⟩ := List.getElem?_eq_some_iff.1 h
  rw [List.map_set]
  have e : Value.string u = (nt.map fun q => Value.string q.1)[i]'(by simpa using hi) := by simp [he]
  simp only
  rw [e, List.set_getElem_self]
/-- three stores into a block of another type -/
theorem Keeps.store3 {t t' : TypeId} {w : World} {g i1 i2 i3 : Nat} {cs : Array Value} (hg : Is w g t' cs) (ht : t ≠ t') (u1 u2 u3 : Value) : Keeps t w (((w.setCell ⟨g, i1, none⟩ u1).setCell ⟨g, i2, none⟩ u2).setCell ⟨g, i3, none⟩ u3) :=
  ((Keeps.store (i := i1) hg ht u1).trans (Keeps.store (i := i2) (hg.set i1 u1 rfl) ht u2)).trans (Keeps.store (i := i3) ((hg.set i1 u1 rfl).set i2 u2 rfl) ht u3)
end Go.Law
/-
  What a client who watches one user is told (layer 10), as long as nothing is lost: plain.
-/
namespace Go.Proofs.YtombdjkfbjpipaaGreat
open Go.RowKit
namespace Mod
open Go.Law Feed Bk Go.Proofs.YtombdjkfbjpipaaGreat.OmapB
abbrev oldE (e : Ev) : Pr := (e.o1, e.o2, e.o3)
abbrev newE (e : Ev) : Pr := (e.n1, e.n2, e.n3)
/-- events of one user that go on from o, and s, to o', all up to s' -/
def Chain (u : ByteArray) : List Ev → Pr → Int → Pr → Int → Prop
  | [], o, s, o', s' => o = o' ∧ s ≤ s'
  | e :: r, o, s, o', s' => e.us = u ∧ oldE e = o ∧ o ≠ newE e ∧ s < e.sq ∧ Chain u r (newE e) e.sq o' s'
theorem chain_nil {u : ByteArray} {o o' : Pr} {s s' : Int} : Chain u [] o s o' s' ↔ (o = o' ∧ s ≤ s') := Iff.rfl
theorem chain_cons {u : ByteArray} {e : Ev} {r : List Ev} {o o' : Pr} {s s' : Int} : Chain u (e :: r) o s o' s' ↔ (e.us = u ∧ oldE e = o ∧ o ≠ newE e ∧ s < e.sq ∧ Chain u r (newE e) e.sq o' s') := Iff.rfl
theorem Chain.more {u : ByteArray} {s1 s2 : Int} {o' : Pr} (hs : s1 ≤ s2) {l : List Ev} : ∀ {o : Pr} {s : Int}, Chain u l o s o' s1 → Chain u l o s o' s2 := by
  induction l with
  | nil => intro o s h; rw [chain_nil] at h ⊢; exact ⟨h.1, Int.le_trans h.2 hs⟩
  | cons e r ih => intro o s h; rw [chain_cons] at h ⊢; exact ⟨h.1, h.2.1, h.2.2.1, h.2.2.2.1, ih h.2.2.2.2⟩
theorem Chain.snoc {u : ByteArray} {s1 : Int} {o' : Pr} {e : Ev} (h1 : e.us = u) (h2 : oldE e = o') (h3 : o' ≠ newE e) (h4 : s1 < e.sq) {l : List Ev} : ∀ {o : Pr} {s : Int}, Chain u l o s o' s1 → Chain u (l ++ [e]) o s (newE e) e.sq := by
  induction l with
  | nil => intro o s h; rw [chain_nil] at h; rw [List.nil_append, chain_cons, chain_nil, h.1]; exact ⟨h1, h2, h3, Int.lt_of_le_of_lt h.2 h4, rfl, Int.le_refl _⟩
  | cons e' r ih => intro o s h; rw [chain_cons] at h; rw [List.cons_append, chain_cons]; exact ⟨h.1, h.2.1, h.2.2.1, h.2.2.2.1, ih h.2.2.2.2⟩
theorem Chain.le {u : ByteArray} {o' : Pr} {s' : Int} {l : List Ev} : ∀ {o : Pr} {s : Int}, Chain u l o s o' s' → s ≤ s' := by
  induction l with
  | nil => intro o s h; rw [chain_nil] at h; exact h.2
  | cons e r ih => intro o s h; rw [chain_cons] at h; exact Int.le_trans (Int.le_of_lt h.2.2.2.1) (ih h.2.2.2.2)
theorem tell_cons (room : Nat) (s : St) (c : Cg) (l : List Cg) (seq : Int) : s.tell room (c :: l) seq = (s.upto room (c.ev seq) 8).tell room l seq := by unfold St.tell; rw [List.foldl_cons]
theorem tell_app (room : Nat) (seq : Int) (l' l : List Cg) (s : St) : s.tell room (l ++ l') seq = (s.tell room l seq).tell room l' seq := by unfold St.tell; rw [List.foldl_append]
theorem tell_has (room : Nat) (seq : Int) (l : List Cg) (s : St) (i : Nat) (u : ByteArray) : (s.tell room l seq).has i u = s.has i u := by unfold St.has; rw [tell_wat]
/-- who watches none of these is told nothing -/
theorem tell_off (room : Nat) (seq : Int) (i : Nat) : ∀ (l : List Cg) (s : St), (∀ c ∈ l, s.has i c.us = false) → (s.tell room l seq).que i = s.que i ∧ (s.tell room l seq).los i = s.los i
  | [], _, _ => ⟨rfl, rfl⟩
  | c :: l, s, h => by
    have hc := h c (by simp)
    have ih := tell_off room seq i l (s.upto room (c.ev seq) 8) (fun c' hc' => by rw [upto_has]; exact h c' (by simp [hc']))
    have hn : ¬ (i < 8 ∧ s.has i (c.ev seq).us = true) := fun hx => by have h2 := hx.2; change s.has i c.us = true at h2; rw [hc] at h2; cases h2
    rw [tell_cons, ih.1, ih.2, upto_que, upto_los, if_neg hn, if_neg hn]
    exact ⟨rfl, rfl⟩
/-- who watches one user is told of that one -/
theorem tell_on {room : Nat} {seq : Int} {i : Nat} (hi : i < 8) {s : St} {u : ByteArray} (hs : ∀ v, s.has i v = decide (v = u)) {cs : List Ch} (h1 : (cs.map (·.1)).Nodup) {c : Ch} (hc : c ∈ cs) (hu : c.1 = u) :
    (s.tell room (cs.map cgOf) seq).que i = putL room (s.que i) ((cgOf c).ev seq) ∧ (s.tell room (cs.map cgOf) seq).los i = (s.los i || decide (room ≤ (s.que i).length)) := by
  obtain ⟨l1, l2, rfl⟩ := List.append_of_mem hc
  rw [List.map_append, List.map_cons, List.nodup_append] at h1
  have n1 : ∀ x ∈ l1.map cgOf, s.has i x.us = false := fun x hx => by
    obtain ⟨y, hy, rfl⟩ := List.mem_map.1 hx
    rw [hs]
    refine decide_eq_false fun e => ?_
    exact h1.2.2 y.1 (List.mem_map_of_mem hy) c.1 (by simp) (by rw [hu]; exact e)
  have n2 : ∀ x ∈ l2.map cgOf, s.has i x.us = false := fun x hx => by
    obtain ⟨y, hy, rfl⟩ := List.mem_map.1 hx
    rw [hs]
    refine decide_eq_false fun e => ?_
    have h2 := (List.nodup_cons.1 h1.2.1).1
    exact h2 (by rw [hu, ← (show y.1 = u from e)]; exact List.mem_map_of_mem hy)
  have f1 := tell_off room seq i (l1.map cgOf) s n1
  rw [List.map_append, List.map_cons, tell_app, tell_cons]
  have f2 := tell_off room seq i (l2.map cgOf) ((s.tell room (l1.map cgOf) seq).upto room ((cgOf c).ev seq) 8) (fun x hx => by rw [upto_has, tell_has]; exact n2 x hx)
  have hy : i < 8 ∧ (s.tell room (l1.map cgOf) seq).has i ((cgOf c).ev seq).us = true := ⟨hi, by rw [tell_has, hs]; exact decide_eq_true hu⟩
  rw [f2.1, f2.2, upto_que, upto_los, if_pos hy, if_pos hy, f1.1, f1.2]
  exact ⟨rfl, rfl⟩
/-! ### A table of three stripes whose client 7 watches ann alone -/
def k0 : Nat := str ann 3
theorem k0_lt : k0 < 3 := str_lt ann (by decide)
structure Follows (a : Mo) (o : Pr) (s : Int) : Prop where
  n : a.n = 3
  wat : ∀ k, (a.fd k).wat 7 = if k = k0 then [(ann, 0)] else []
  off : ∀ k, k ≠ k0 → (a.fd k).que 7 = [] ∧ (a.fd k).los 7 = false
  on : (a.fd k0).los 7 = true ∨ Chain ann ((a.fd k0).que 7) o s (toldK ann (a.bk k0)) a.seq
section
variable {a a' : Mo} {b : Nat} {o : Pr} {s : Int}
theorem Follows.has (h : Follows a o s) (v : ByteArray) : (a.fd k0).has 7 v = decide (v = ann) := by
  unfold St.has
  rw [h.wat, if_pos rfl]
  by_cases e : v = ann
  · subst e; simp [getK]
  · rw [decide_eq_false e, getK, if_neg (Ne.symm e)]; rfl
theorem Follows.has_off (h : Follows a o s) {k : Nat} (hk : k ≠ k0) (v : ByteArray) : (a.fd k).has 7 v = false := by
  unfold St.has
  rw [h.wat, if_neg hk]
  rfl
theorem Follows.of (h : Follows a o s) (hn : a'.n = a.n) (hw : ∀ k, (a'.fd k).wat 7 = (a.fd k).wat 7) (hq : ∀ k, (a'.fd k).que 7 = (a.fd k).que 7) (hl : ∀ k, (a'.fd k).los 7 = (a.fd k).los 7) (hb : a'.bk = a.bk) (hs : a.seq ≤ a'.seq) : Follows a' o s := by
  refine ⟨hn.trans h.n, fun k => (hw k).trans (h.wat k), fun k hk => ⟨(hq k).trans (h.off k hk).1, (hl k).trans (h.off k hk).2⟩, ?_⟩
  rw [hq, hl, hb]
  exact h.on.imp id fun hc => hc.more hs
/-- a stripe's book becomes another one, and its feed is told -/
theorem Follows.become (h : Follows a o s) {k : Nat} {nb : List (ByteArray × En)} {cs : List Ch} {now : Int} (ht : Tells lt now (a.bk k) nb cs) {seq : Int} (hs : a.seq < seq) (ha : a'.fd = upd a.fd k ((a.fd k).tell a.room (cs.map cgOf) seq)) (hb : a'.bk = upd a.bk k nb) (hn : a'.n = a.n) (hq : a'.seq = seq) : Follows a' o s := by
  have hw : ∀ i, (a'.fd i).wat = (a.fd i).wat := fun i => by
    rw [ha]
    by_cases e : i = k
    · subst e; rw [upd_same, tell_wat]
    · rw [upd_other _ _ e]
  have hoff : ∀ i, i ≠ k0 → (a'.fd i).que 7 = (a.fd i).que 7 ∧ (a'.fd i).los 7 = (a.fd i).los 7 := fun i hi => by
    rw [ha]
    by_cases e : i = k
    · subst e
      rw [upd_same]
      exact tell_off _ _ _ _ _ fun c _ => h.has_off hi _
    · rw [upd_other _ _ e]; exact ⟨rfl, rfl⟩
  refine ⟨hn.trans h.n, fun i => by rw [hw]; exact h.wat i, fun i hi => by rw [(hoff i hi).1, (hoff i hi).2]; exact h.off i hi, ?_⟩
  rw [ha, hb, hq]
  by_cases e : k0 = k
  · subst e
    rw [upd_same, upd_same]
    by_cases hm : ann ∈ cs.map (·.1)
    · obtain ⟨c, hc, hu⟩ := List.mem_map.1 hm
      have hT := tell_on (room := a.room) (seq := seq) (i := 7) (by decide) h.has ht.one hc hu
      have hM := ht.mem c hc
      rw [hT.1, hT.2]
      rcases h.on with h1 | h1
      · exact .inl (by rw [h1]; rfl)
      · by_cases hr : a.room ≤ ((a.fd k0).que 7).length
        · exact .inl (by rw [decide_eq_true hr, Bool.or_true])
        · refine .inr ?_
          rw [putL_yes (by omega)]
          rw [hu] at hM
          have hnew : newE ((cgOf c).ev seq) = toldK ann nb := hM.2.1
          have hold : oldE ((cgOf c).ev seq) = toldK ann (a.bk k0) := hM.1
          rw [← hnew]
          exact h1.snoc hu hold (by rw [← hold]; exact hM.2.2.2) hs
    · have hT := tell_off a.room seq 7 (cs.map cgOf) (a.fd k0) fun x hx => by
        obtain ⟨y, hy, rfl⟩ := List.mem_map.1 hx
        rw [h.has]
        exact decide_eq_false fun e => hm (by rw [← (show y.1 = ann from e)]; exact List.mem_map_of_mem hy)
      rw [hT.1, hT.2, ht.rest ann hm]
      exact h.on.imp id fun hc => hc.more (Int.le_of_lt hs)
  · rw [upd_other _ _ e, upd_other _ _ e]
    exact h.on.imp id fun hc => hc.more (Int.le_of_lt hs)
theorem Follows.sweep (h : Follows a o s) (ho : a.Ok b) (hq : a.seq < 18446744073709551615) (i : Int) : Follows (a.sweep i) o s := by
  unfold Mo.sweep
  split
  · rename_i hi
    exact h.become (k := i.toNat) (tells_sweep lt tri (ho.fit i.toNat (by omega)).book.1) (seq := Door.sat a.seq 1) (by rw [sat_one hq]; omega) rfl rfl rfl rfl
  · exact h
theorem Follows.write (h : Follows a o s) (hq : a.seq < 18446744073709551615) (x : OpV) : Follows (a.write x).1 o s := by
  unfold Mo.write
  split
  · exact h.of rfl (fun _ => rfl) (fun _ => rfl) (fun _ => rfl) rfl (by show a.seq ≤ Door.sat a.seq 1; rw [sat_one hq]; omega)
  · exact h.become (k := str x.user a.n) (tells_become lt tri x.user _) (seq := Door.sat a.seq 1) (by rw [sat_one hq]; omega) rfl rfl rfl rfl
theorem Follows.feed1 (h : Follows a o s) (k : Nat) {who : Nat} (hw : who ≠ 7) (v : List (ByteArray × Int)) : Follows (a.feed1 k { a.fd k with wat := upd (a.fd k).wat who v }) o s := by
  have hf : ∀ i, ((a.feed1 k { a.fd k with wat := upd (a.fd k).wat who v }).fd i).wat 7 = (a.fd i).wat 7 ∧ ((a.feed1 k { a.fd k with wat := upd (a.fd k).wat who v }).fd i).que 7 = (a.fd i).que 7 ∧ ((a.feed1 k { a.fd k with wat := upd (a.fd k).wat who v }).fd i).los 7 = (a.fd i).los 7 := fun i => by
    show ((upd a.fd k _ i).wat 7 = _ ∧ (upd a.fd k _ i).que 7 = _ ∧ (upd a.fd k _ i).los 7 = _)
    by_cases e : i = k
    · subst e
      rw [upd_same]
      exact ⟨upd_other _ _ (Ne.symm hw), rfl, rfl⟩
    · rw [upd_other _ _ e]; exact ⟨rfl, rfl, rfl⟩
  exact h.of rfl (fun i => (hf i).1) (fun i => (hf i).2.1) (fun i => (hf i).2.2) rfl (Int.le_refl _)
theorem Follows.other (h : Follows a o s) {who : Int} (hw : who ≠ 7) (hq : a.seq < 18446744073709551615) (x : OpW) : Follows (a.do_ who x).1 o s := by
  unfold Mo.do_
  split
  · rename_i hg
    have hw' : who.toNat ≠ 7 := by omega
    unfold Mo.ask
    split
    · exact h.write hq _
    · split
      · refine h.of rfl (fun k => ?_) (fun k => ?_) (fun k => ?_) rfl (Int.le_refl _)
        · show (if k < a.n then drained who.toNat (a.fd k) else a.fd k).wat 7 = _; split <;> rfl
        · show (if k < a.n then drained who.toNat (a.fd k) else a.fd k).que 7 = _; split
          · exact upd_other _ _ (Ne.symm hw')
          · rfl
        · show (if k < a.n then drained who.toNat (a.fd k) else a.fd k).los 7 = _; split
          · exact upd_other _ _ (Ne.symm hw')
          · rfl
      · split
        · exact h
        · split
          · exact h
          · split
            · exact h
            · split
              · unfold Mo.watch
                split
                · exact h
                · exact h.feed1 _ hw' _
              · split
                · exact h.feed1 _ hw' _
                · exact h.of rfl (fun _ => rfl) (fun _ => rfl) (fun _ => rfl) rfl (Int.le_refl _)
  · exact h
theorem Follows.act (h : Follows a o s) (ho : a.Ok b) (hq : a.seq < 18446744073709551615) (q : AcM) (hw : q.who ≠ 7 ∨ q.do_ % 3 ≠ 0) (_h0 : 0 ≤ q.do_) : Follows (a.act q).1 o s := by
  unfold Mo.act
  split
  · exact h.of rfl (fun _ => rfl) (fun _ => rfl) (fun _ => rfl) rfl (Int.le_refl _)
  · split
    · exact h.sweep ho hq _
    · exact h.other (hw.resolve_right (by omega)) hq _
theorem all_three (x y z : List Ev) (h : (x = [] ∧ y = []) ∨ (x = [] ∧ z = []) ∨ (y = [] ∧ z = [])) : all [x, y, z] = x ++ (y ++ z) := by
  have e : all [x, y, z] = mrg x (mrg y z) := by
    rw [all_half _ 1, all_half (List.drop 1 [x, y, z]) 1]
    show mrg (all [x]) (mrg (all [y]) (all [z])) = _
    rw [all_one, all_one, all_one]
  rw [e]
  rcases h with ⟨rfl, rfl⟩ | ⟨rfl, rfl⟩ | ⟨rfl, rfl⟩ <;> simp [mrg_nil, mrg_nil']
theorem Follows.told (h : Follows a o s) : all (a.told 7 a.n) = (a.fd k0).que 7 := by
  rw [h.n]
  show all [(a.fd 0).que 7, (a.fd 1).que 7, (a.fd 2).que 7] = _
  have h3 := k0_lt
  have f := h.off
  have hk : k0 = 0 ∨ k0 = 1 ∨ k0 = 2 := by omega
  rcases hk with e | e | e <;> rw [e] at f ⊢
  · rw [all_three _ _ _ (.inr (.inr ⟨(f 1 (by decide)).1, (f 2 (by decide)).1⟩)), (f 1 (by decide)).1, (f 2 (by decide)).1]; simp
  · rw [all_three _ _ _ (.inr (.inl ⟨(f 0 (by decide)).1, (f 2 (by decide)).1⟩)), (f 0 (by decide)).1, (f 2 (by decide)).1]; simp
  · rw [all_three _ _ _ (.inl ⟨(f 0 (by decide)).1, (f 1 (by decide)).1⟩), (f 0 (by decide)).1, (f 1 (by decide)).1]; simp
theorem Follows.lost (h : Follows a o s) : a.lost 7 a.n = (a.fd k0).los 7 := by
  rw [h.n]
  show ((a.fd 0).los 7 || ((a.fd 1).los 7 || ((a.fd 2).los 7 || false))) = _
  have h3 := k0_lt
  have f := h.off
  have hk : k0 = 0 ∨ k0 = 1 ∨ k0 = 2 := by omega
  rcases hk with e | e | e <;> rw [e] at f ⊢
  · rw [(f 1 (by decide)).2, (f 2 (by decide)).2]; simp
  · rw [(f 0 (by decide)).2, (f 2 (by decide)).2]; simp
  · rw [(f 0 (by decide)).2, (f 1 (by decide)).2]; simp
def pollOp : OpW := ⟨8, ⟨#[]⟩, 0, 0, 0, 0, none, 0, []⟩
theorem do_poll (a : Mo) : a.do_ 7 pollOp = a.poll 7 := by
  unfold Mo.do_
  rw [if_pos ⟨by decide, by decide⟩]
  unfold Mo.ask
  rw [if_neg (by decide), if_pos (by decide)]
  rfl
/-- what a Poll of client 7 tells, if nothing is lost; then it goes on from there -/
theorem Follows.polled (h : Follows a o s) : (a.do_ 7 pollOp).2.evs = (a.fd k0).que 7 ∧ (a.do_ 7 pollOp).2.lost = (a.fd k0).los 7 := by
  rw [do_poll]
  exact ⟨h.told, h.lost⟩
theorem Follows.next (h : Follows a o s) {o' : Pr} {s' : Int} (ho : o' = toldK ann (a.bk k0)) (hs : s' ≤ a.seq) : Follows (a.do_ 7 pollOp).1 o' s' := by
  rw [do_poll]
  have hfd : ∀ k, ((a.poll 7).1.fd k).wat 7 = (a.fd k).wat 7 := fun k => by
    show (if k < a.n then drained 7 (a.fd k) else a.fd k).wat 7 = _; split <;> rfl
  refine ⟨h.n, fun k => by rw [hfd]; exact h.wat k, fun k hk => ?_, .inr ?_⟩
  · show (if k < a.n then drained 7 (a.fd k) else a.fd k).que 7 = [] ∧ (if k < a.n then drained 7 (a.fd k) else a.fd k).los 7 = false
    split
    · exact ⟨upd_same (a.fd k).que 7 [], upd_same (a.fd k).los 7 false⟩
    · exact h.off k hk
  · show Chain ann ((if k0 < a.n then drained 7 (a.fd k0) else a.fd k0).que 7) o' s' (toldK ann (a.bk k0)) a.seq
    rw [if_pos (by rw [h.n]; exact k0_lt)]
    show Chain ann (upd (a.fd k0).que 7 [] 7) _ _ _ _
    rw [upd_same]
    exact ⟨ho, hs⟩
theorem follows_new : Follows ((Mo.new small).do_ 7 exW).1 (0, 0, 0) 0 := by
  have hw : (Mo.new small).do_ 7 exW = (((Mo.new small).feed1 k0 { St.zero with wat := upd St.zero.wat 7 [(ann, 0)] }), Rep.of 0) := by
    unfold Mo.do_
    rw [if_pos ⟨by decide, by decide⟩]
    unfold Mo.ask
    rw [if_neg (by decide), if_neg (by decide), if_neg (by decide), if_neg (by decide), if_neg (by decide), if_pos (by decide)]
    unfold Mo.watch
    rw [if_neg (by
      intro hx
      have h1 : ((Mo.new small).watched 7 : Int) = 0 := by decide
      have h2 := hx.2
      change (4 : Int) ≤ ((Mo.new small).watched 7 : Int) at h2
      omega)]
    rfl
  rw [hw]
  refine ⟨rfl, fun k => ?_, fun k hk => ?_, .inr ?_⟩
  · show (upd (fun _ => St.zero) k0 _ k).wat 7 = _
    by_cases e : k = k0
    · subst e; rw [upd_same, if_pos rfl]; exact upd_same St.zero.wat 7 [(ann, 0)]
    · rw [upd_other _ _ e, if_neg e]; rfl
  · show (upd (fun _ => St.zero) k0 _ k).que 7 = [] ∧ (upd (fun _ => St.zero) k0 _ k).los 7 = false
    rw [upd_other _ _ hk]
    exact ⟨rfl, rfl⟩
  · show Chain ann ((upd (fun _ => St.zero) k0 _ k0).que 7) _ _ _ _
    rw [upd_same]
    exact ⟨rfl, Int.le_refl _⟩
/-- how far the count has come -/
theorem seq_le (q : AcM) {n : Int} (h : a.seq ≤ n) (hn : n < 18446744073709551615) : (a.act q).1.seq ≤ n + 1 := by
  rw [act_seq]
  split
  · rw [sat_one (by omega)]; omega
  · omega
end
end Mod
end Go.Proofs.YtombdjkfbjpipaaGreat

/-
  Acts that befall a feed (layer 9's statements) in memory, and whether there are more than are looked at; whom a client watches, as a list of names.
-/
import Derived.Test.YtohdlnefgieenaaGreatJ18
import Derived.Deep.RegionHeld3
namespace Go.Law
open Go.RowKit Go.ChangeShapes Go.WideShapes Go.ChangeAt
/-- an act: what it does; a client, a user; a number, a number of a writing -/
structure Ac where
  do_ : Int
  who : Int
  us : ByteArray
  live : Int
  sq : Int
def cellsAc (q : Ac) : List Value := [.int .u8 q.do_, .int .i64 q.who, .string q.us, .int .i64 q.live, .int .u64 q.sq]
abbrev Ac.box (q : Ac) : Array Value := #[.int .u8 q.do_, .int .i64 q.who, .string q.us, .int .i64 q.live, .int .u64 q.sq]
structure Ac.Good (q : Ac) : Prop where
  do_ : (Lit.int .u8 q.do_).wf = true
  us : q.us.size ≤ maxLen
theorem dec_ac {H : Type} {enc : TypeId × Value → H} {P : Program} {W : World} {base : Nat} {sp : Nat → Bool} {hd : Bool} {fuel : Nat} {cs : List Value} {x : DataW H × List MemPlace} {o : TypeId} {g0 g1 g2 g3 g4 : Field} (ho : P.underlying o = some (.struct #[g0, g1, g2, g3, g4])) (co : P.cellsOf o = 5)
    (o0 : g0.offset = 0) (o1 : g1.offset = 1) (o2 : g2.offset = 2) (o3 : g3.offset = 3) (o4 : g4.offset = 4) (c0 : P.cellsOf g0.type = 1) (c1 : P.cellsOf g1.type = 1) (c2 : P.cellsOf g2.type = 1) (c3 : P.cellsOf g3.type = 1) (c4 : P.cellsOf g4.type = 1)
    (u0 : P.underlying g0.type = some (.int .u8)) (u1 : P.underlying g1.type = some (.int .i64)) (u2 : P.underlying g2.type = some .string) (u3 : P.underlying g3.type = some (.int .i64)) (u4 : P.underlying g4.type = some (.int .u64))
    (h : DataW.trod enc P W base sp hd fuel o cs = some x) : ∃ q : Ac, cs = cellsAc q ∧ q.Good := by
  obtain ⟨xs, n, _, _, hl, hxl, hf⟩ := DataW.trod_struct ho h
  rw [co] at hl
  match cs, hl, xs, hxl with
  | [v0, v1, v2, v3, v4], _, [y0, y1, y2, y3, y4], _ =>
    have k0 := hf 0 g0 rfl
    have k1 := hf 1 g1 rfl
    have k2 := hf 2 g2 rfl
    have k3 := hf 3 g3 rfl
    have k4 := hf 4 g4 rfl
    simp [o0, o1, o2, o3, o4, c0, c1, c2, c3, c4] at k0 k1 k2 k3 k4
    obtain ⟨a0, e0, _, w0⟩ := DataW.trod_int u0 k0
    obtain ⟨a1, e1, _, w1⟩ := DataW.trod_int u1 k1
    obtain ⟨a2, e2, _, w2⟩ := DataW.trod_string u2 k2
    obtain ⟨a3, e3, _, w3⟩ := DataW.trod_int u3 k3
    obtain ⟨a4, e4, _, w4⟩ := DataW.trod_int u4 k4
    simp at e0 e1 e2 e3 e4
    subst e0 e1 e2 e3 e4
    exact ⟨⟨a0, a1, a2, a3, a4⟩, rfl, w0, w2⟩
structure AcAt (w : World) (b o : Nat) (q : Ac) : Prop where
  c0 : w.cell? ⟨b, o, none⟩ = some (.int .u8 q.do_)
  c1 : w.cell? ⟨b, o + 1, none⟩ = some (.int .i64 q.who)
  c2 : w.cell? ⟨b, o + 2, none⟩ = some (.string q.us)
  c3 : w.cell? ⟨b, o + 3, none⟩ = some (.int .i64 q.live)
  c4 : w.cell? ⟨b, o + 4, none⟩ = some (.int .u64 q.sq)
theorem Seq.ac {w : World} {lo B : Nat} {A : Option Addr} {l : List Ac} {i : Nat} (h : Seq w lo B A (l.flatMap cellsAc)) (hi : i < l.length) : ∃ b off, A = some ⟨b, off, none⟩ ∧ lo ≤ b ∧ b < B ∧ AcAt w b (off + i * 5) l[i] := by
  obtain ⟨b, off, hA, h1, h2, hc⟩ := Seq.row (cells := cellsAc) (fun _ => rfl) (by decide : 0 < 5) h hi
  exact ⟨b, off, hA, h1, h2, by simpa using hc 0 _ rfl, hc 1 _ rfl, hc 2 _ rfl, hc 3 _ rfl, hc 4 _ rfl⟩
theorem Is.ac {w : World} {g : Nat} {t : TypeId} {q : Ac} (h : Is w g t q.box) : AcAt w g 0 q := ⟨h.cell' rfl, h.cell' rfl, h.cell' rfl, h.cell' rfl, h.cell' rfl⟩
/-! ### Names that are watched -/
def keys (xs : List (ByteArray × Int)) : List ByteArray := xs.map (·.1)
theorem getK_keys (u : ByteArray) : ∀ xs : List (ByteArray × Int), (getK u xs).isSome = true ↔ u ∈ keys xs
  | [] => by simp [getK, keys]
  | p :: r => by
    have ih := getK_keys u r
    unfold keys at *
    rw [getK, List.map_cons, List.mem_cons]
    by_cases h : p.1 = u
    · simp [h]
    · rw [if_neg h, ih]
      exact ⟨Or.inr, fun h' => h'.elim (fun e => absurd e.symm h) id⟩
section
variable {lt : ByteArray → ByteArray → Prop} [DecidableRel lt]
theorem putK_new (ht : Tri lt) (u : ByteArray) (v : Int) : ∀ xs : List (ByteArray × Int), u ∉ keys xs → (keys (putK lt u v xs)).Perm (u :: keys xs)
  | [], _ => List.Perm.refl _
  | p :: r, h => by
    have h1 : u ≠ p.1 := fun e => h (by simp [keys, e])
    have ih := putK_new ht u v r (fun h' => h (by simp only [keys, List.map_cons, List.mem_cons]; exact .inr h'))
    unfold putK
    split
    · exact List.Perm.refl _
    · split
      · exact (List.Perm.cons p.1 ih).trans (List.Perm.swap _ _ _)
      · rename_i h2 h3
        rcases ht.tri u p.1 with e | e | e
        · exact absurd e h2
        · exact absurd e h1
        · exact absurd e h3
theorem putK_old (ht : Tri lt) (u : ByteArray) (v : Int) : ∀ xs : List (ByteArray × Int), Rises lt xs → u ∈ keys xs → keys (putK lt u v xs) = keys xs
  | [], _, h => by simp [keys] at h
  | p :: r, hR, h => by
    have hm : u = p.1 ∨ u ∈ keys r := by simpa [keys] using h
    unfold putK
    split
    · rename_i h2
      rcases hm with e | e
      · exact absurd (e ▸ h2) (ht.irr _)
      · obtain ⟨q, hq, rfl⟩ := List.mem_map.1 e
        exact absurd (hR.head q hq) (ht.asym h2)
    · split
      · rename_i h2 h3
        rcases hm with e | e
        · exact absurd (e ▸ h3) (ht.irr _)
        · have ih := putK_old ht u v r hR.tail e
          simp only [keys, List.map_cons] at ih ⊢
          rw [ih]
      · rename_i h2 h3
        rcases ht.tri u p.1 with e | e | e
        · exact absurd e h2
        · simp [keys, e]
        · exact absurd e h3
end
theorem outK_keys (u : ByteArray) (xs : List (ByteArray × Int)) : keys (outK u xs) = (keys xs).filter fun a => decide (a ≠ u) := by
  induction xs with
  | nil => rfl
  | cons p r ih =>
    unfold keys outK at *
    by_cases h : p.1 = u
    · rw [List.filter_cons_of_neg (by simp [h]), List.map_cons, List.filter_cons_of_neg (by simp [h]), ih]
    · rw [List.filter_cons_of_pos (by simpa using h), List.map_cons, List.map_cons, List.filter_cons_of_pos (by simpa using h), ih]
end Go.Law
namespace Go.Proofs.YtohdlnefgieenaaGreat
open Go.RowKit Go.Shelf Go.ChangeShapes Go.WideShapes Go.ChangeAt
attribute [local go_sem] Oper.semAt_some
namespace Feed
open Go.Law
/-- is there more than is looked at? -/
def longA (l : List Ac) : Bool := decide (200 < l.length) || l.any fun q => decide (100 < q.us.size)
/-- who is no long list -/
theorem longA_no {l : List Ac} (h : longA l = false) : l.length ≤ 200 ∧ ∀ q ∈ l, q.us.size ≤ 100 := by
  unfold longA at h
  rw [Bool.or_eq_false_iff] at h
  refine ⟨by simpa using h.1, fun q hq => ?_⟩
  have := h.2
  rw [List.any_eq_false] at this
  have h1 := this q hq
  simpa using h1
/-- a row lies in no block of S -/
def Off (S : Nat → Prop) (v : Value) : Prop := ∀ g, v.ownBlock = some g → ¬ S g
section
variable {w w' : World} {base B b room : Nat} {S S' : Nat → Prop} {s s' : St} {e : TypeId} {size n : Nat} {v v' : Value} {xs : List Value}
/-- another row has grown -/
theorem Fed.grown (h : Fed w base S b room s) (ho : w.ownsRow B e size v n xs) (hg : w.grownBy w' v.ownBlock) (hf : Off S v) (he : e ≠ 200) : Fed w' base S b room s :=
  h.touch (Law.Touch.grown (T := fun k => v.ownBlock = some k) hg (fun _ hk => hk)) (fun k hk hv => hf k hv hk) (Keeps.grown ho hg he)
theorem Off.grown (h : Fed w base S b room s) (hf : Off S v) (hv : v'.ownBlock = v.ownBlock ∨ v'.ownBlock = some w.heap.size) : Off S v' := fun g hg hs => by
  rcases hv with hv | hv
  · exact hf g (hv ▸ hg) hs
  · have e1 : w.heap.size = g := Option.some.inj (hv.symm.trans hg)
    have := (h.ok g hs).2
    omega
theorem Off.went (hW : Went w S w' S') (ho : w.ownsRow B e size v n xs) (hf : Off S v) : Off S' v := fun g hg => hW.off (ho.lt g hg).2 (hf g hg)
theorem own_went (hW : Went w S w' S') (ho : w.ownsRow B e size v n xs) (hf : Off S v) : w'.ownsRow B e size v n xs := hW.touch.own ho hf
theorem Off.nil (S : Nat → Prop) : Off S (.slice none 0 0) := fun g hg => by simp [Value.ownBlock] at hg
end
end Feed
end Go.Proofs.YtohdlnefgieenaaGreat
/-
  What the reference's (layer 9) Same comes to at lists that are the same.
-/
namespace Go.Proofs.YtohdlnefgieenaaGreat
open Go.RowKit Go.Shelf
attribute [local go_sem] Oper.semAt_some
namespace Feed
open Go.Law
set_option maxRecDepth 100000 in
set_option maxHeartbeats 4000000 in
theorem refSame (zs : List Ev) (A B : Option Addr) (c d : Nat) (w : World) (ha : Seq w 0 w.heap.size A (flatE zs)) (hb : Seq w 0 w.heap.size B (flatE zs)) (hl : zs.length ≤ 1000) :
    Calls Tryz.prog 40 #[.slice A zs.length c, .slice B zs.length d] w fun e w' => e = .returned (.bool true) ∧ Below w.heap.size w w' := by
  have HA := Lib.hid ha
  have HB := Lib.hid hb
  clear ha hb
  have d0 : ((zs.length : Int) != (zs.length : Int)) = false := by simp
  go_enter Tryz.func40, Tryz.ntmps40
  go_wp2_with fail
  go_loopw [5] (fun i wr => ∃ j : Nat, j ≤ zs.length ∧ i = .int .i64 j ∧ Below w.heap.size w wr) (fun i _ => zs.length - (intOf i).toNat)
  case atStart => exact ⟨0, Nat.zero_le _, rfl, Below.refl _ _⟩
  case round =>
    obtain ⟨j, hj, rfl, hB⟩ := hrel
    have HD := Lib.hid hB
    have sz := hB.size
    clear hB
    by_cases hlt : j < zs.length
    · have d1 : decide ((j : Int) < (zs.length : Int)) = true := by simp; omega
      obtain ⟨ga, oa, rfl, _, hga, p0, p1, p2, p3, p4, p5, p6, p7⟩ := (HA.out.below HD.out).ev hlt
      obtain ⟨gb, ob, rfl, _, hgb, q0, q1, q2, q3, q4, q5, q6, q7⟩ := (HB.out.below HD.out).ev hlt
      generalize zs[j] = x at *
      obtain ⟨x0, x1, x2, x3, x4, x5, x6, x7⟩ := x
      simp only at p0 p1 p2 p3 p4 p5 p6 p7 q0 q1 q2 q3 q4 q5 q6 q7
      go_wp2_with fail
      go_quiet (fail)
      go_wp2_with fail
      go_roundw
      case rel => exact ⟨j + 1, by omega, by go_num, Law.below_drewN HD.out nq⟩
      case measure => simp [intOf]; omega
    · have d1 : decide ((j : Int) < (zs.length : Int)) = false := by simp; omega
      go_wp2_with fail
      go_ret
      exact ⟨rfl, HD.out⟩
end Feed
end Go.Proofs.YtohdlnefgieenaaGreat
/-
  The reference's feed (layer 9) in memory; what its Watching and Count come to.
-/
namespace Go.Law
open Go.RowKit
abbrev Pa := Int × ByteArray
def cellsP (p : Pa) : List Value := [.int .i64 p.1, .string p.2]
def flatP (l : List Pa) : List Value := l.flatMap cellsP
theorem flatP_length (l : List Pa) : (flatP l).length = l.length * 2 := rows_length (cells := cellsP) (fun _ => rfl) l
theorem flatP_snoc (zs : List Pa) (q : Pa) : flatP (zs ++ [q]) = flatP zs ++ cellsP q := by unfold flatP; rw [List.flatMap_append]; simp
theorem one_P (q : Pa) : ∀ u ∈ cellsP q, u.oneCell' = true := by
  intro u hu
  simp [cellsP] at hu
  rcases hu with rfl | rfl <;> rfl
theorem flatP_one (l : List Pa) : ∀ u ∈ flatP l, u.oneCell' = true := by
  intro u hu
  obtain ⟨q, _, hq⟩ := List.mem_flatMap.1 hu
  exact one_P q u hq
theorem new_P (w : World) (q : Pa) (t : TypeId) {g : Nat} (hg : g = w.heap.size) : ∀ (j : Nat) (u : Value), (cellsP q)[j]? = some u → (w.alloc (.cells #[.int .i64 q.1, .string q.2] t)).cell? ((⟨g, 0, none⟩ : Addr).add j) = some u := by
  subst hg
  intro j u hj
  match j, hj with
  | 0, hj => simp [cellsP] at hj; subst hj; simp [Addr.add]
  | 1, hj => simp [cellsP] at hj; subst hj; simp [Addr.add]
  | j + 2, hj => simp [cellsP] at hj
theorem Seq.pa {w : World} {lo B : Nat} {A : Option Addr} {l : List Pa} {i : Nat} (h : Seq w lo B A (flatP l)) (hi : i < l.length) : ∃ b off, A = some ⟨b, off, none⟩ ∧ lo ≤ b ∧ b < B ∧ w.cell? ⟨b, off + i * 2, none⟩ = some (.int .i64 l[i].1) ∧ w.cell? ⟨b, off + i * 2 + 1, none⟩ = some (.string l[i].2) := by
  obtain ⟨b, off, hA, h1, h2, hc⟩ := Seq.row (cells := cellsP) (fun _ => rfl) (by decide : 0 < 2) h hi
  exact ⟨b, off, hA, h1, h2, by simpa using hc 0 _ rfl, hc 1 _ rfl⟩
/-- these cells lie at A, in a block of R -/
def LieR (R : Nat → Prop) (w : World) (A : Option Addr) (xs : List Value) : Prop := xs ≠ [] → ∃ g off, A = some ⟨g, off, none⟩ ∧ R g ∧ ∀ i u, xs[i]? = some u → w.cell? ⟨g, off + i, none⟩ = some u
section
variable {R R' T : Nat → Prop} {w w' : World} {A : Option Addr} {xs : List Value}
theorem LieR.seq (h : LieR R w A xs) (hR : ∀ n, R n → n < w.heap.size) : Seq w 0 w.heap.size A xs := fun hn => by
  obtain ⟨g, off, hA, hg, hc⟩ := h hn
  exact ⟨g, off, hA, Nat.zero_le _, hR g hg, hc⟩
theorem LieR.touch (h : LieR R w A xs) (ht : Touch w w' T) (hd : ∀ n, R n → ¬ T n) (hR : ∀ n, R n → n < w.heap.size) : LieR R w' A xs := fun hn => by
  obtain ⟨g, off, hA, hg, hc⟩ := h hn
  exact ⟨g, off, hA, hg, fun i u hu => (World.cell?_of_block (ht.block g (hR g hg) (hd g hg))).trans (hc i u hu)⟩
theorem LieR.mono (h : LieR R w A xs) (hs : ∀ n, R n → R' n) : LieR R' w A xs := fun hn => by
  obtain ⟨g, off, hA, hg, hc⟩ := h hn
  exact ⟨g, off, hA, hs g hg, hc⟩
theorem LieR.of_seq {N M : Nat} (h : Seq w N M A xs) (hR : ∀ n, N ≤ n → n < M → R n) : LieR R w A xs := fun hn => by
  obtain ⟨g, off, hA, h1, h2, hc⟩ := h hn
  exact ⟨g, off, hA, hR g h1 h2, hc⟩
end
end Go.Law
namespace Go.Proofs.YtohdlnefgieenaaGreat
open Go.RowKit Go.Shelf
attribute [local go_sem] Oper.semAt_some
namespace Feed
open Go.Law
def cellsRf (room : Int) (vp : Value) (vq : Nat → Value) (ls : Nat → Bool) : Array Value := #[.int .i64 room, vp, vq 0, vq 1, vq 2, vq 3, vq 4, vq 5, vq 6, vq 7, .bool (ls 0), .bool (ls 1), .bool (ls 2), .bool (ls 3), .bool (ls 4), .bool (ls 5), .bool (ls 6), .bool (ls 7)]
section
variable (room : Int) (vp v : Value) (vq : Nat → Value) (ls : Nat → Bool) {k : Nat}
theorem cellsRf_q (h : k < 8) : (cellsRf room vp vq ls)[2 + k]? = some (vq k) := by
  match k, h with
  | 0, _ | 1, _ | 2, _ | 3, _ | 4, _ | 5, _ | 6, _ | 7, _ => rfl
theorem cellsRf_l (h : k < 8) : (cellsRf room vp vq ls)[10 + k]? = some (.bool (ls k)) := by
  match k, h with
  | 0, _ | 1, _ | 2, _ | 3, _ | 4, _ | 5, _ | 6, _ | 7, _ => rfl
theorem cellsRf_setq (h : k < 8) : (cellsRf room vp vq ls).setIfInBounds (2 + k) v = cellsRf room vp (upd vq k v) ls := by
  match k, h with
  | 0, _ | 1, _ | 2, _ | 3, _ | 4, _ | 5, _ | 6, _ | 7, _ => rfl
theorem cellsRf_setl (b : Bool) (h : k < 8) : (cellsRf room vp vq ls).setIfInBounds (10 + k) (.bool b) = cellsRf room vp vq (upd ls k b) := by
  match k, h with
  | 0, _ | 1, _ | 2, _ | 3, _ | 4, _ | 5, _ | 6, _ | 7, _ => rfl
theorem cellsRf_setp : (cellsRf room vp vq ls).setIfInBounds 1 v = cellsRf room v vq ls := rfl
end
/-- block r is a feed of the reference; what it holds lies in blocks of R -/
structure RefV (w : World) (R : Nat → Prop) (r : Nat) (room : Int) (ps : List Pa) (qs : Nat → List Ev) (ls : Nat → Bool) (vp : Value) (vq : Nat → Value) : Prop where
  box : Is w r 81 (cellsRf room vp vq ls)
  out : ¬ R r
  ok : ∀ n, R n → n < w.heap.size
  pr : ∃ A c, vp = .slice A ps.length c ∧ LieR R w A (flatP ps)
  qu : ∀ k, k < 8 → ∃ A c, vq k = .slice A (qs k).length c ∧ LieR R w A (flatE (qs k))
  cap : ∀ k, k < 8 → ∀ A n c, vq k = .slice A n c → n ≤ c
def RefAt (w : World) (R : Nat → Prop) (r : Nat) (room : Int) (ps : List Pa) (qs : Nat → List Ev) (ls : Nat → Bool) : Prop := ∃ vp vq, RefV w R r room ps qs ls vp vq
section
variable {w w' : World} {R T : Nat → Prop} {r : Nat} {room : Int} {ps : List Pa} {qs : Nat → List Ev} {ls : Nat → Bool} {vp : Value} {vq : Nat → Value}
theorem RefV.touch (h : RefV w R r room ps qs ls vp vq) (ht : Law.Touch w w' T) (hd : ∀ n, R n → ¬ T n) (hr : ¬ T r) : RefV w' R r room ps qs ls vp vq := by
  refine ⟨ht.is h.box hr, h.out, fun n hn => Nat.lt_of_lt_of_le (h.ok n hn) ht.size, ?_, fun k hk => ?_, h.cap⟩
  · obtain ⟨A, c, e, hl⟩ := h.pr
    exact ⟨A, c, e, hl.touch ht hd h.ok⟩
  · obtain ⟨A, c, e, hl⟩ := h.qu k hk
    exact ⟨A, c, e, hl.touch ht hd h.ok⟩
theorem RefV.below (h : RefV w R r room ps qs ls vp vq) (hb : Below w.heap.size w w') : RefV w' R r room ps qs ls vp vq := h.touch (Law.Touch.of_below hb fun _ => False) (fun _ _ h => h) (fun h => h)
theorem RefAt.touch (h : RefAt w R r room ps qs ls) (ht : Law.Touch w w' T) (hd : ∀ n, R n → ¬ T n) (hr : ¬ T r) : RefAt w' R r room ps qs ls := by
  obtain ⟨vp, vq, h⟩ := h
  exact ⟨vp, vq, h.touch ht hd hr⟩
theorem RefAt.below (h : RefAt w R r room ps qs ls) (hb : Below w.heap.size w w') : RefAt w' R r room ps qs ls := h.touch (Law.Touch.of_below hb fun _ => False) (fun _ _ h => h) (fun h => h)
end
set_option maxRecDepth 100000 in
set_option maxHeartbeats 2000000 in
theorem rWatching {w : World} {R : Nat → Prop} {r : Nat} {room : Int} {ps : List Pa} {qs : Nat → List Ev} {ls : Nat → Bool} (h : RefAt w R r room ps qs ls) (hl : ps.length ≤ 1000) (who : Int) (u : ByteArray) {res : Bool} (hr : res = true ↔ (who, u) ∈ ps) :
    Calls Tryz.prog 37 #[.pointer (some ⟨r, 0, none⟩), .int .i64 who, .string u] w fun e w' => e = .returned (.bool res) ∧ Below w.heap.size w w' := by
  obtain ⟨vp, vq, h⟩ := h
  obtain ⟨A, c, rfl, hp⟩ := h.pr
  have HP := Lib.hid (hp.seq h.ok)
  have HI := Lib.hid h.box
  have HR := Lib.hid hr
  clear h hp hr
  go_enter Tryz.func37, Tryz.ntmps37
  go_wp2_with fail
  go_loopw [7] (fun i wr => ∃ j : Nat, j ≤ ps.length ∧ i = .int .i64 j ∧ (who, u) ∉ ps.take j ∧ Below w.heap.size w wr) (fun i _ => ps.length - (intOf i).toNat)
  case atStart => exact ⟨0, Nat.zero_le _, rfl, by simp, Below.refl _ _⟩
  case round =>
    obtain ⟨j, hj, rfl, hn, hB⟩ := hrel
    have I1 := HI.out.below hB HI.out.lt
    have c1 : World.cell? _ ⟨r, 1, none⟩ = some (.slice A ps.length c) := I1.cell' rfl
    have l1 := I1.lt
    have HB := Lib.hid hB
    have HN := Lib.hid hn
    clear hB hn I1
    by_cases hlt : j < ps.length
    · have d1 : decide ((j : Int) < (ps.length : Int)) = true := by simp; omega
      obtain ⟨g, o, rfl, _, hg, p0, p1⟩ := (HP.out.below HB.out).pa hlt
      have HTK := Lib.hid (List.take_succ_eq_append_getElem hlt)
      have HMM := Lib.hid (List.getElem_mem hlt)
      generalize ps[j] = p at *
      obtain ⟨a, y⟩ := p
      simp only at p0 p1
      by_cases ha : a = who
      · subst ha
        have e1 : (a == a) = true := by simp
        by_cases hy : y = u
        · subst hy
          have e2 : (y.toList == y.toList) = true := by simp
          obtain rfl : res = true := HR.out.2 HMM.out
          go_wp2_with fail
          go_ret
          exact ⟨rfl, HB.out⟩
        · have e2 : (y.toList == u.toList) = false := by simpa using fun e => hy (OmapU.ext e)
          have HNX : Hid ((a, u) ∉ ps.take (j + 1)) := by show ¬ _; rw [HTK.out]; simp [HN.out]; exact fun e => hy e.symm
          go_wp2_with fail
          go_roundw
          case rel => exact ⟨j + 1, by omega, by go_num, HNX.out, HB.out⟩
          case measure => simp [intOf]; omega
      · have e1 : (a == who) = false := by simpa using ha
        have HNX : Hid ((who, u) ∉ ps.take (j + 1)) := by show ¬ _; rw [HTK.out]; simp [HN.out]; exact fun e => absurd e.symm ha
        go_wp2_with fail
        go_roundw
        case rel => exact ⟨j + 1, by omega, by go_num, HNX.out, HB.out⟩
        case measure => simp [intOf]; omega
    · have d1 : decide ((j : Int) < (ps.length : Int)) = false := by simp; omega
      have e1 : ps.take j = ps := List.take_of_length_le (by omega)
      rw [e1] at HN
      obtain rfl : res = false := by cases res with | false => rfl | true => exact absurd (HR.out.1 rfl) HN.out
      go_wp2_with fail
      go_ret
      exact ⟨rfl, HB.out⟩
set_option maxRecDepth 100000 in
set_option maxHeartbeats 2000000 in
theorem rCount {w : World} {R : Nat → Prop} {r : Nat} {room : Int} {ps : List Pa} {qs : Nat → List Ev} {ls : Nat → Bool} (h : RefAt w R r room ps qs ls) (hl : ps.length ≤ 1000) (who : Int) {n : Int} (hn : ((ps.filter fun p => decide (p.1 = who)).length : Int) = n) :
    Calls Tryz.prog 36 #[.pointer (some ⟨r, 0, none⟩), .int .i64 who] w fun e w' => e = .returned (.int .i64 n) ∧ Below w.heap.size w w' := by
  subst hn
  obtain ⟨vp, vq, h⟩ := h
  obtain ⟨A, c, rfl, hp⟩ := h.pr
  have HP := Lib.hid (hp.seq h.ok)
  have HI := Lib.hid h.box
  clear h hp
  go_enter Tryz.func36, Tryz.ntmps36
  go_wp2_with fail
  go_loopw [5, 6] (fun vn i wr => ∃ j : Nat, j ≤ ps.length ∧ i = .int .i64 j ∧ vn = .int .i64 (((ps.take j).filter fun p => decide (p.1 = who)).length : Int) ∧ Below w.heap.size w wr) (fun _ i _ => ps.length - (intOf i).toNat)
  case atStart => exact ⟨0, Nat.zero_le _, rfl, rfl, Below.refl _ _⟩
  case round =>
    obtain ⟨j, hj, rfl, rfl, hB⟩ := hrel
    have I1 := HI.out.below hB HI.out.lt
    have c1 : World.cell? _ ⟨r, 1, none⟩ = some (.slice A ps.length c) := I1.cell' rfl
    have l1 := I1.lt
    have HB := Lib.hid hB
    clear hB I1
    by_cases hlt : j < ps.length
    · have d1 : decide ((j : Int) < (ps.length : Int)) = true := by simp; omega
      obtain ⟨g, o, rfl, _, hg, p0, p1⟩ := (HP.out.below HB.out).pa hlt
      have HTK := Lib.hid (List.take_succ_eq_append_getElem hlt)
      have hfl : ((ps.take j).filter fun p => decide (p.1 = who)).length ≤ 1000 := Nat.le_trans (List.length_filter_le ..) (by simp; omega)
      generalize ps[j] = p at *
      obtain ⟨a, y⟩ := p
      simp only at p0 p1
      by_cases ha : a = who
      · have HF : Hid (((ps.take (j + 1)).filter fun p => decide (p.1 = who)).length = ((ps.take j).filter fun p => decide (p.1 = who)).length + 1) := by show _ = _; rw [HTK.out, List.filter_append, List.filter_cons_of_pos (by simpa using ha)]; simp
        subst ha
        have e1 : (a == a) = true := by simp
        generalize ((ps.take j).filter fun p => decide (p.1 = a)).length = m at *
        go_wp2_with fail
        go_roundw
        case rel => exact ⟨j + 1, by omega, by go_num, by rw [HF.out]; go_num, HB.out⟩
        case measure => simp [intOf]; omega
      · have HF : Hid (((ps.take (j + 1)).filter fun p => decide (p.1 = who)).length = ((ps.take j).filter fun p => decide (p.1 = who)).length) := by show _ = _; rw [HTK.out, List.filter_append, List.filter_cons_of_neg (by simpa using ha)]; simp
        have e1 : (a == who) = false := by simpa using ha
        generalize ((ps.take j).filter fun p => decide (p.1 = who)).length = m at *
        go_wp2_with fail
        go_roundw
        case rel => exact ⟨j + 1, by omega, by go_num, by rw [HF.out], HB.out⟩
        case measure => simp [intOf]; omega
    · have d1 : decide ((j : Int) < (ps.length : Int)) = false := by simp; omega
      have e1 : ps.take j = ps := List.take_of_length_le (by omega)
      rw [e1]
      go_wp2_with fail
      go_ret
      exact ⟨rfl, HB.out⟩
end Feed
end Go.Proofs.YtohdlnefgieenaaGreat

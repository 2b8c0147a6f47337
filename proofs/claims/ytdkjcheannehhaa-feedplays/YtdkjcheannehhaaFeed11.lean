/-
  Acts that befall a feed (layer 9's statements) in memory, and whether there are more than are looked at; whom a client watches, as a list of names.
-/
import Derived.Test.YtdkjcheannehhaaFeed05
namespace Go.Law
open Go.RowKit Go.ChangeShapes Go.WideShapes Go.ChangeAt
/-- an act: what it does; a client, a user; a number, a number of a writing -/
structure Ac where
  do_ : Int
  who : Int
  us : ByteArray
  live : Int
  sq : Int
def cellsAc (q : Ac) : List Value := [.int .u8 q.do_, .int .i64 q.who, .string q.us, .int .i64 q.live, .int .u64 q.sq]
abbrev Ac.box (q : Ac) : Array Value := #[.int .u8 q.do_, .int .i64 q.who, .string q.us, .int .i64 q.live, .int .u64 q.sq]
structure Ac.Good (q : Ac) : Prop where
  do_ : (Lit.int .u8 q.do_).wf = true
  us : q.us.size ≤ maxLen
theorem dec_ac {H : Type} {enc : TypeId × Value → H} {P : Program} {W : World} {base : Nat} {sp : Nat → Bool} {hd : Bool} {fuel : Nat} {cs : List Value} {x : DataW H × List MemPlace} {o : TypeId} {g0 g1 g2 g3 g4 : Field} (ho : P.underlying o = some (.struct #[g0, g1, g2, g3, g4])) (co : P.cellsOf o = 5)
    (o0 : g0.offset = 0) (o1 : g1.offset = 1) (o2 : g2.offset = 2) (o3 : g3.offset = 3) (o4 : g4.offset = 4) (c0 : P.cellsOf g0.type = 1) (c1 : P.cellsOf g1.type = 1) (c2 : P.cellsOf g2.type = 1) (c3 : P.cellsOf g3.type = 1) (c4 : P.cellsOf g4.type = 1)
    (u0 : P.underlying g0.type = some (.int .u8)) (u1 : P.underlying g1.type = some (.int .i64)) (u2 : P.underlying g2.type = some .string) (u3 : P.underlying g3.type = some (.int .i64)) (u4 : P.underlying g4.type = some (.int .u64))
    (h : DataW.trod enc P W base sp hd fuel o cs = some x) : ∃ q : Ac, cs = cellsAc q ∧ q.Good := by
  obtain ⟨xs, n, _, _, hl, hxl, hf⟩ := DataW.trod_struct ho h
  rw [co] at hl
  match cs, hl, xs, hxl with
  | [v0, v1, v2, v3, v4], _, [y0, y1, y2, y3, y4], _ =>
    have k0 := hf 0 g0 rfl
    have k1 := hf 1 g1 rfl
    have k2 := hf 2 g2 rfl
    have k3 := hf 3 g3 rfl
    have k4 := hf 4 g4 rfl
    simp [o0, o1, o2, o3, o4, c0, c1, c2, c3, c4] at k0 k1 k2 k3 k4
    obtain ⟨a0, e0, _, w0⟩ := DataW.trod_int u0 k0
    obtain ⟨a1, e1, _, w1⟩ := DataW.trod_int u1 k1
    obtain ⟨a2, e2, _, w2⟩ := DataW.trod_string u2 k2
    obtain ⟨a3, e3, _, w3⟩ := DataW.trod_int u3 k3
    obtain ⟨a4, e4, _, w4⟩ := DataW.trod_int u4 k4
    simp at e0 e1 e2 e3 e4
    subst e0 e1 e2 e3 e4
    exact ⟨⟨a0, a1, a2, a3, a4⟩, rfl, w0, w2⟩
structure AcAt (w : World) (b o : Nat) (q : Ac) : Prop where
  c0 : w.cell? ⟨b, o, none⟩ = some (.int .u8 q.do_)
  c1 : w.cell? ⟨b, o + 1, none⟩ = some (.int .i64 q.who)
  c2 : w.cell? ⟨b, o + 2, none⟩ = some (.string q.us)
  c3 : w.cell? ⟨b, o + 3, none⟩ = some (.int .i64 q.live)
  c4 : w.cell? ⟨b, o + 4, none⟩ = some (.int .u64 q.sq)
theorem Seq.ac {w : World} {lo B : Nat} {A : Option Addr} {l : List Ac} {i : Nat} (h : Seq w lo B A (l.flatMap cellsAc)) (hi : i < l.length) : ∃ b off, A = some ⟨b, off, none⟩ ∧ lo ≤ b ∧ b < B ∧ AcAt w b (off + i * 5) l[i] := by
  obtain ⟨b, off, hA, h1, h2, hc⟩ := Seq.row (cells := cellsAc) (fun _ => rfl) (by decide : 0 < 5) h hi
  exact ⟨b, off, hA, h1, h2, by simpa using hc 0 _ rfl, hc 1 _ rfl, hc 2 _ rfl, hc 3 _ rfl, hc 4 _ rfl⟩
theorem Is.ac {w : World} {g : Nat} {t : TypeId} {q : Ac} (h : Is w g t q.box) : AcAt w g 0 q := ⟨h.cell' rfl, h.cell' rfl, h.cell' rfl, h.cell' rfl, h.cell' rfl⟩
/-! ### Names that are watched -/
def keys (xs : List (ByteArray × Int)) : List ByteArray := xs.map (·.1)
theorem getK_keys (u : ByteArray) : ∀ xs : List (ByteArray × Int), (getK u xs).isSome = true ↔ u ∈ keys xs
  | [] => by simp [getK, keys]
  | p :: r => by
    have ih := getK_keys u r
    unfold keys at *
    rw [getK, List.map_cons, List.mem_cons]
    by_cases h : p.1 = u
    · simp [h]
    · rw [if_neg h, ih]
      exact ⟨Or.inr, fun h' => h'.elim (fun e => absurd e.symm h) id⟩
section
variable {lt : ByteArray → ByteArray → Prop} [DecidableRel lt]
theorem putK_new (ht : Tri lt) (u : ByteArray) (v : Int) : ∀ xs : List (ByteArray × Int), u ∉ keys xs → (keys (putK lt u v xs)).Perm (u :: keys xs)
  | [], _ => List.Perm.refl _
  | p :: r, h => by
    have h1 : u ≠ p.1 := fun e => h (by simp [keys, e])
    have ih := putK_new ht u v r (fun h' => h (by simp only [keys, List.map_cons, List.mem_cons]; exact .inr h'))
    unfold putK
    split
    · exact List.Perm.refl _
    · split
      · exact (List.Perm.cons p.1 ih).trans (List.Perm.swap _ _ _)
      · rename_i h2 h3
        rcases ht.tri u p.1 with e | e | e
        · exact absurd e h2
        · exact absurd e h1
        · exact absurd e h3
theorem putK_old (ht : Tri lt) (u : ByteArray) (v : Int) : ∀ xs : List (ByteArray × Int), Rises lt xs → u ∈ keys xs → keys (putK lt u v xs) = keys xs
  | [], _, h => by simp [keys] at h
  | p :: r, hR, h => by
    have hm : u = p.1 ∨ u ∈ keys r := by simpa [keys] using h
    unfold putK
    split
    · rename_i h2
      rcases hm with e | e
      · exact absurd (e ▸ h2) (ht.irr _)
      · obtain ⟨q, hq, rfl⟩ := List.mem_map.1 e
        exact absurd (hR.head q hq) (ht.asym h2)
    · split
      · rename_i h2 h3
        rcases hm with e | e
        · exact absurd (e ▸ h3) (ht.irr _)
        · have ih := putK_old ht u v r hR.tail e
          simp only [keys, List.map_cons] at ih ⊢
          rw [ih]
      · rename_i h2 h3
        rcases ht.tri u p.1 with e | e | e
        · exact absurd e h2
        · simp [keys, e]
        · exact absurd e h3
end
theorem outK_keys (u : ByteArray) (xs : List (ByteArray × Int)) : keys (outK u xs) = (keys xs).filter fun a => decide (a ≠ u) := by
  induction xs with
  | nil => rfl
  | cons p r ih =>
    unfold keys outK at *
    by_cases h : p.1 = u
    · rw [List.filter_cons_of_neg (by simp [h]), List.map_cons, List.filter_cons_of_neg (by simp [h]), ih]
    · rw [List.filter_cons_of_pos (by simpa using h), List.map_cons, List.map_cons, List.filter_cons_of_pos (by simpa using h), ih]
end Go.Law
namespace Go.Proofs.Ytdkjcheannehhaa
open Go.RowKit Go.Shelf Go.ChangeShapes Go.WideShapes Go.ChangeAt
attribute [local go_sem] Oper.semAt_some
namespace Feed
open Go.Law
theorem open_acts {H : Type} {enc : TypeId × Value → H} {W : World} {base b0 : Nat} {sp : Nat → Bool} {hd : Bool} {v : Value} {d : DataW H} {p : List MemPlace}
    (hv : Value.okWide Try.prog W .any b0 22 v) (h : DataW.Trod enc Try.prog W base sp hd 22 v d p) :
    ∃ (A : Option Addr) (c : Nat) (l : List Ac), v = .slice A l.length c ∧ Seq W 0 W.heap.size A (l.flatMap cellsAc) ∧ l.length ≤ maxLen ∧ ∀ q ∈ l, q.Good :=
  open_rows cellsAc (sz := 5) (fun _ => rfl) Try.underlying22 (by kernel_rfl) (by decide)
    (fun fuel cs x hf => dec_ac Try.underlying36 (by kernel_rfl) rfl rfl rfl rfl rfl (by kernel_rfl) (by kernel_rfl) (by kernel_rfl) (by kernel_rfl) (by kernel_rfl) Try.underlying5 Try.underlying3 Try.underlying9 Try.underlying3 Try.underlying34 hf) hv h
/-- is there more than is looked at? -/
def longA (l : List Ac) : Bool := decide (200 < l.length) || l.any fun q => decide (100 < q.us.size)
set_option maxHeartbeats 1600000 in
theorem long_ (l : List Ac) (A : Option Addr) (c : Nat) (w : World) (hs : Seq w 0 w.heap.size A (l.flatMap cellsAc)) (hl : l.length ≤ maxLen) (hq : ∀ q ∈ l, q.Good) {r : Bool} (hr : longA l = r) :
    Calls Try.prog 5 #[.slice A l.length c] w fun e w' => e = .returned (.bool r) ∧ w = w' := by
  subst hr
  have HS := Lib.hid hs
  have HQ := Lib.hid hq
  clear hs hq
  unfold maxLen at hl
  by_cases h0 : 200 < l.length
  · have d0 : decide ((200 : Int) < (l.length : Int)) = true := by simp; omega
    have HE : Hid (longA l = true) := by show _ = _; unfold longA; simp [h0]
    go_enter Try.func5, Try.ntmps5
    go_wp2_with fail
    go_ret
    exact ⟨by rw [HE.out]; rfl, rfl⟩
  · have d0 : decide ((200 : Int) < (l.length : Int)) = false := by simp; omega
    have HE : Hid (longA l = l.any fun q => decide (100 < q.us.size)) := by show _ = _; unfold longA; simp [h0]
    go_enter Try.func5, Try.ntmps5
    go_wp2_with fail
    go_loop [3] (fun i => ∃ j : Nat, j ≤ l.length ∧ i = .int .i64 j ∧ (l.take j).any (fun q => decide (100 < q.us.size)) = false) (fun i => l.length - (intOf i).toNat)
    case atStart => exact ⟨0, Nat.zero_le _, rfl, by simp⟩
    case round =>
      obtain ⟨j, hj, rfl, ha⟩ := hrel
      have HA := Lib.hid ha
      clear ha
      by_cases hlt : j < l.length
      · obtain ⟨b, off, rfl, _, hb, c0, c1, c2, c3, c4⟩ := HS.out.ac hlt
        have HT : Hid ((l.take (j + 1)).any (fun q => decide (100 < q.us.size)) = ((l.take j).any (fun q => decide (100 < q.us.size)) || decide (100 < l[j].us.size))) := by show _ = _; rw [List.take_succ_eq_append_getElem hlt, List.any_append]; simp
        have HM := Lib.hid (List.getElem_mem hlt)
        have hus := (HQ.out _ HM.out).us
        unfold maxLen at hus
        generalize l[j] = q at *
        by_cases hu : 100 < q.us.size
        · have d1 : decide ((100 : Int) < (q.us.size : Int)) = true := by simp; omega
          have HE2 : Hid (longA l = true) := by show _ = _; rw [HE.out, List.any_eq_true]; exact ⟨q, HM.out, by simpa using hu⟩
          go_wp2_with fail
          go_ret
          exact ⟨by rw [HE2.out]; rfl, rfl⟩
        · have d1 : decide ((100 : Int) < (q.us.size : Int)) = false := by simp; omega
          go_wp2_with fail
          go_round
          case rel => exact ⟨j + 1, by omega, by go_num, by rw [HT.out, HA.out]; simpa using hu⟩
          case measure => simp [intOf]; omega
      · have e1 : l.take j = l := List.take_of_length_le (by omega)
        rw [e1] at HA
        go_wp2_with fail
        go_ret
        exact ⟨by rw [HE.out, HA.out]; rfl, rfl⟩
/-- who is no long list -/
theorem longA_no {l : List Ac} (h : longA l = false) : l.length ≤ 200 ∧ ∀ q ∈ l, q.us.size ≤ 100 := by
  unfold longA at h
  rw [Bool.or_eq_false_iff] at h
  refine ⟨by simpa using h.1, fun q hq => ?_⟩
  have := h.2
  rw [List.any_eq_false] at this
  have h1 := this q hq
  simpa using h1
/-- a row lies in no block of S -/
def Off (S : Nat → Prop) (v : Value) : Prop := ∀ g, v.ownBlock = some g → ¬ S g
section
variable {w w' : World} {base B b room : Nat} {S S' : Nat → Prop} {s s' : St} {e : TypeId} {size n : Nat} {v v' : Value} {xs : List Value}
/-- another row has grown -/
theorem Fed.grown (h : Fed w base S b room s) (ho : w.ownsRow B e size v n xs) (hg : w.grownBy w' v.ownBlock) (hf : Off S v) (he : e ≠ 84) : Fed w' base S b room s :=
  h.touch (Law.Touch.grown (T := fun k => v.ownBlock = some k) hg (fun _ hk => hk)) (fun k hk hv => hf k hv hk) (Keeps.grown ho hg he)
theorem Off.grown (h : Fed w base S b room s) (hf : Off S v) (hv : v'.ownBlock = v.ownBlock ∨ v'.ownBlock = some w.heap.size) : Off S v' := fun g hg hs => by
  rcases hv with hv | hv
  · exact hf g (hv ▸ hg) hs
  · have e1 : w.heap.size = g := Option.some.inj (hv.symm.trans hg)
    have := (h.ok g hs).2
    omega
theorem Off.went (hW : Went w S w' S') (ho : w.ownsRow B e size v n xs) (hf : Off S v) : Off S' v := fun g hg => hW.off (ho.lt g hg).2 (hf g hg)
theorem own_went (hW : Went w S w' S') (ho : w.ownsRow B e size v n xs) (hf : Off S v) : w'.ownsRow B e size v n xs := hW.touch.own ho hf
theorem Off.nil (S : Nat → Prop) : Off S (.slice none 0 0) := fun g hg => by simp [Value.ownBlock] at hg
end
end Feed
end Go.Proofs.Ytdkjcheannehhaa

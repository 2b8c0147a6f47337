/-
  What the reference's Without and With (layer 4) come to.
-/
import Derived.Test.YtekkddejgkmofaaOmap03
namespace Go.Law
open Go.RowKit
/-- the cells of pairs in a row -/
def flat (zs : List (ByteArray × Int)) : List Value := zs.flatMap fun q => [.string q.1, .int .i64 q.2]
theorem flat_app (xs ys : List (ByteArray × Int)) : flat (xs ++ ys) = flat xs ++ flat ys := List.flatMap_append
theorem flat_length (zs : List (ByteArray × Int)) : (flat zs).length = zs.length * 2 := by
  induction zs with
  | nil => rfl
  | cons q r ih => simp [flat] at ih ⊢; omega
theorem flat_at : ∀ {zs : List (ByteArray × Int)} {i : Nat} {q : ByteArray × Int}, zs[i]? = some q → (flat zs)[i * 2]? = some (.string q.1) ∧ (flat zs)[i * 2 + 1]? = some (.int .i64 q.2)
  | [], _, _, h => by simp at h
  | p :: r, 0, q, h => by simp at h; subst h; simp [flat]
  | p :: r, i + 1, q, h => by
    have := flat_at (zs := r) (i := i) (q := q) (by simpa using h)
    have e : flat (p :: r) = .string p.1 :: .int .i64 p.2 :: flat r := rfl
    rw [e, show (i + 1) * 2 = i * 2 + 1 + 1 by omega]
    simpa using this
theorem flat_one (zs : List (ByteArray × Int)) : ∀ u ∈ flat zs, u.oneCell' = true := by
  intro u hu
  obtain ⟨q, _, hq⟩ := List.mem_flatMap.1 hu
  simp at hq
  rcases hq with rfl | rfl <;> rfl
/-- the slice at A holds these pairs, in a block below B -/
def Prs (w : World) (B : Nat) (A : Option Addr) (l : List (ByteArray × Int)) : Prop :=
  l ≠ [] → ∃ b off, A = some ⟨b, off, none⟩ ∧ b < B ∧ ∀ i q, l[i]? = some q → w.cell? ⟨b, off + i * 2, none⟩ = some (.string q.1) ∧ w.cell? ⟨b, off + i * 2 + 1, none⟩ = some (.int .i64 q.2)
theorem Prs.nil {w : World} {B : Nat} {A : Option Addr} : Prs w B A [] := fun h => absurd rfl h
theorem Prs.below {w w' : World} {B : Nat} {A : Option Addr} {l : List (ByteArray × Int)} (h : Prs w B A l) (hb : Below B w w') : Prs w' B A l := fun hn => by
  obtain ⟨b, off, e, hlt, hc⟩ := h hn
  refine ⟨b, off, e, hlt, fun i q hq => ?_⟩
  obtain ⟨h0, h1⟩ := hc i q hq
  exact ⟨(hb.cell (p := ⟨b, off + i * 2, none⟩) hlt).trans h0, (hb.cell (p := ⟨b, off + i * 2 + 1, none⟩) hlt).trans h1⟩
theorem Prs.wide {w : World} {B B' : Nat} {A : Option Addr} {l : List (ByteArray × Int)} (h : Prs w B A l) (hB : B ≤ B') : Prs w B' A l := fun hn => by
  obtain ⟨b, off, e, hlt, hc⟩ := h hn
  exact ⟨b, off, e, by omega, hc⟩
theorem Prs.at {w : World} {B : Nat} {A : Option Addr} {l : List (ByteArray × Int)} {i : Nat} (h : Prs w B A l) (hi : i < l.length) : ∃ b off, A = some ⟨b, off, none⟩ ∧ b < B ∧
    w.cell? ⟨b, off + i * 2, none⟩ = some (.string l[i].1) ∧ w.cell? ⟨b, off + i * 2 + 1, none⟩ = some (.int .i64 l[i].2) := by
  obtain ⟨b, off, e, hlt, hc⟩ := h (by intro h0; subst h0; simp at hi)
  exact ⟨b, off, e, hlt, hc i _ (List.getElem?_eq_getElem hi)⟩
theorem Prs.own {w : World} {base : Nat} {e : TypeId} {A : Option Addr} {c : Nat} {zs : List (ByteArray × Int)} (h : w.ownsRow base e 2 (.slice A zs.length c) zs.length (flat zs)) : Prs w w.heap.size A zs := fun hn => by
  have hn' : flat zs ≠ [] := by
    cases zs with
    | nil => exact absurd rfl hn
    | cons q r => simp [flat]
  obtain ⟨b, off, hA, _, hlt, hc⟩ := (Seq.own h) hn'
  exact ⟨b, off, hA, hlt, fun i q hq => ⟨hc _ _ (flat_at hq).1, hc (i * 2 + 1) _ (flat_at hq).2⟩⟩
theorem new_two (w : World) (x y : Value) (t : TypeId) : ∀ (j : Nat) (u : Value), [x, y][j]? = some u → (w.alloc (.cells #[x, y] t)).cell? ((⟨w.heap.size, 0, none⟩ : Addr).add j) = some u := by
  intro j u hj
  match j, hj with
  | 0, hj => simp at hj; subst hj; simp [Addr.add]
  | 1, hj => simp at hj; subst hj; simp [Addr.add]
theorem two_one (k : ByteArray) (v : Int) : ∀ u ∈ [Value.string k, .int .i64 v], u.oneCell' = true := by
  intro u hu; simp at hu; rcases hu with rfl | rfl <;> rfl
theorem outK_snoc {k : ByteArray} {xs : List (ByteArray × Int)} {q : ByteArray × Int} : outK k (xs ++ [q]) = if q.1 = k then outK k xs else outK k xs ++ [q] := by
  unfold outK
  rw [List.filter_append]
  by_cases h : q.1 = k
  · rw [if_pos h, List.filter_cons_of_neg (by simp [h])]; simp
  · rw [if_neg h, List.filter_cons_of_pos (by simpa using h)]; rfl
theorem outK_no {k : ByteArray} {xs : List (ByteArray × Int)} {q : ByteArray × Int} (h : q ∈ outK k xs) : q.1 ≠ k := by simpa [outK] using (List.mem_filter.1 h).2
section
variable {κ ν : Type} {lt : κ → κ → Prop} [DecidableRel lt] [DecidableEq κ]
/-- whether a key is taken out ahead of it is the same to a key that is put -/
theorem putK_out (ht : Tri lt) (k : κ) (v : ν) : ∀ {xs : List (κ × ν)}, Rises lt xs → putK lt k v (outK k xs) = putK lt k v xs
  | [], _ => rfl
  | p :: r, h => by
    have ih := putK_out ht k v h.tail
    rcases ht.tri k p.1 with e | e | e
    · have h1 : outK k (p :: r) = p :: r := outK_none fun q hq => by
        rcases List.mem_cons.1 hq with rfl | hq
        · exact (ht.ne e).symm
        · exact (ht.ne (ht.tr e (h.head q hq))).symm
      rw [h1]
    · subst e
      have h1 : outK p.1 (p :: r) = r := by
        have h2 : outK p.1 (p :: r) = outK p.1 r := List.filter_cons_of_neg (by simp)
        rw [h2]
        exact outK_none fun q hq => (ht.ne (h.head q hq)).symm
      have h3 : putK lt p.1 v (p :: r) = (p.1, v) :: r := by rw [putK, if_neg (ht.irr _), if_neg (ht.irr _)]
      rw [h1, h3]
      cases r with
      | nil => rfl
      | cons q r => rw [putK, if_pos (h.head q (by simp))]
    · have h1 : outK k (p :: r) = p :: outK k r := List.filter_cons_of_pos (by simpa using ht.ne e)
      rw [h1, putK, if_neg (ht.asym e), if_pos e, ih, putK, if_neg (ht.asym e), if_pos e]
omit [DecidableEq κ] in
theorem putK_over (ht : Tri lt) {k : κ} {v : ν} {ys : List (κ × ν)} : ∀ {xs : List (κ × ν)}, (∀ p ∈ xs, lt p.1 k) → putK lt k v (xs ++ ys) = xs ++ putK lt k v ys
  | [], _ => rfl
  | p :: r, h => by
    have h1 := h p (by simp)
    rw [List.cons_append, putK, if_neg (ht.asym h1), if_pos h1, putK_over ht fun q hq => h q (by simp [hq])]
    rfl
omit [DecidableEq κ] in
theorem putK_snoc (ht : Tri lt) {k : κ} {v : ν} {x : κ × ν} : ∀ {xs : List (κ × ν)}, Rises lt (xs ++ [x]) → (∃ q ∈ xs, lt k q.1) → putK lt k v (xs ++ [x]) = putK lt k v xs ++ [x]
  | [], _, h => by obtain ⟨q, hq, _⟩ := h; cases hq
  | p :: r, hr, h => by
    rw [List.cons_append, putK, putK]
    split
    · rfl
    · rename_i h1
      split
      · rename_i h2
        obtain ⟨q, hq, hk⟩ := h
        rcases List.mem_cons.1 hq with rfl | hq
        · exact absurd hk h1
        · rw [putK_snoc ht hr.tail ⟨q, hq, hk⟩]; rfl
      · rfl
end
end Go.Law
namespace Go.Proofs.Ytekkddejgkmofaa
open Go.RowKit
namespace Omap
theorem elemP : ∃ i, Law.Elem Try.prog 28 39 i (.agg #[.string .empty, .int .i64 0]) 2 24 := Law.Elem.of Try.underlying28 (by kernel_rfl) rfl (by decide)
/-- behind the reference's calls -/
def Listed (w : World) (zs : List (ByteArray × Int)) (e : Ending) (w' : World) : Prop := ∃ A c, e = .returned (.slice A zs.length c) ∧ Law.Prs w' w'.heap.size A zs ∧ Below w.heap.size w w'

set_option maxRecDepth 100000 in
set_option maxHeartbeats 1600000 in
theorem refWithout (k : ByteArray) (zs : List (ByteArray × Int)) (A : Option Addr) (c : Nat) (w : World) (hs : Law.Prs w w.heap.size A zs) (hl : zs.length ≤ 900) :
    Calls Try.prog 11 #[.slice A zs.length c, .string k] w (Listed w (Law.outK k zs)) := by
  obtain ⟨i0, hE⟩ := elemP
  have HE := Lib.hid hE
  have HS := Lib.hid hs
  clear hE hs
  go_enter Try.func11, Try.ntmps11
  go_wp2_with fail
  go_loopw [5, 6] (fun v i wr => ∃ j : Nat, j ≤ zs.length ∧ i = .int .i64 j ∧ wr.ownsRow w.heap.size 39 2 v (Law.outK k (zs.take j)).length (Law.flat (Law.outK k (zs.take j))) ∧ Below w.heap.size w wr) (fun _ i _ => zs.length - (intOf i).toNat)
  case atStart => exact ⟨0, Nat.zero_le _, rfl, World.ownsRow_nil _ _ _ _, Below.refl _ _⟩
  case round =>
    obtain ⟨j, hj, rfl, hown, hB⟩ := hrel
    have HO := Lib.hid hown
    have HB := Lib.hid hB
    have hol := Law.outK_length k (zs.take j)
    have hol2 : (Law.outK k (zs.take j)).length ≤ 900 := by simp at hol; omega
    clear hown hB hol
    by_cases hlt : j < zs.length
    · obtain ⟨b, off, rfl, hb, q0, q1⟩ := (HS.out.below HB.out).at hlt
      have HT := Lib.hid (List.take_succ_eq_append_getElem hlt)
      have HT2 : Hid (Law.outK k (zs.take (j + 1)) = if zs[j].1 = k then Law.outK k (zs.take j) else Law.outK k (zs.take j) ++ [zs[j]]) := by show _ = _; rw [HT.out, Law.outK_snoc]
      clear HT
      generalize Law.outK k (zs.take j) = os at *
      generalize hq : zs[j] = q at *
      obtain ⟨kj, vj⟩ := q
      simp only at q0 q1 HT2
      by_cases hk : kj = k
      · subst hk
        go_wp2_with fail
        go_roundw
        case rel => exact ⟨j + 1, by omega, by go_num, by rw [HT2.out]; simpa using HO.out, HB.out⟩
        case measure => simp [intOf]; omega
      · have d1 : (kj.toList == k.toList) = false := by simpa using fun e => hk (OmapS.ext e)
        have sb := HB.out.size
        go_wp2_with (at_builtin; refine wpList_append_own _ rfl _ _ 28 rfl w.heap.size 39 i0 (.agg #[.string .empty, .int .i64 0]) 2 24 HE.out.ut HE.out.info HE.out.zero HE.out.sz HE.out.by_ HE.out.cells HE.out.pos _ _ _ rfl (HO.out.alloc _) ⟨wr.heap.size, 0, none⟩ 1 1 [.string kj, .int .i64 vj] rfl rfl (Law.new_two _ _ _ _) (Law.two_one _ _) (by unfold maxLen; omega) (by omega) (by simp; omega) ?_)
        intro v' w2 hown' hgrow _
        have B2 := Lib.hid ((HB.out.alloc sb (.cells #[.string kj, .int .i64 vj] 39)).grown hgrow (by simp; omega) (fun g hg => (HO.out.lt g hg).1))
        have HO2 : Hid (w2.ownsRow w.heap.size 39 2 v' (os ++ [(kj, vj)]).length (Law.flat (os ++ [(kj, vj)]))) := by
          show World.ownsRow _ _ _ _ _ _ _
          rw [Law.flat_app, show Law.flat [(kj, vj)] = [.string kj, .int .i64 vj] from rfl]
          simpa using hown'
        obtain ⟨g', cap', rfl⟩ := ownsRow_succ hown'
        clear hown' hgrow
        go_wp2_with fail
        go_roundw
        case rel => exact ⟨j + 1, by omega, by go_num, by rw [HT2.out, if_neg hk]; exact HO2.out, B2.out⟩
        case measure => simp [intOf]; omega
    · have e1 : zs.take j = zs := List.take_of_length_le (by omega)
      rw [e1] at HO
      obtain ⟨A1, c1, rfl, _⟩ := Law.own_shape HO.out
      go_wp2_with fail
      go_ret
      exact ⟨A1, c1, rfl, Law.Prs.own HO.out, HB.out⟩

set_option maxRecDepth 100000 in
set_option maxHeartbeats 1600000 in
theorem refWith (k : ByteArray) (v : Int) (zs : List (ByteArray × Int)) (A : Option Addr) (c : Nat) (w : World) (hs : Law.Prs w w.heap.size A zs) (hr : Law.Rises OmapS.lt zs) (hl : zs.length ≤ 900) :
    Calls Try.prog 13 #[.slice A zs.length c, .string k, .int .i64 v] w (Listed w (Law.putK OmapS.lt k v zs)) := by
  obtain ⟨i0, hE⟩ := elemP
  have HE := Lib.hid hE
  have HS := Lib.hid hs
  have HP := Lib.hid (Law.putK_out OmapS.tri k v hr)
  have HR := Lib.hid (Law.outK_rises OmapS.lt (k := k) hr)
  have HN := Lib.hid (fun q (h : q ∈ Law.outK k zs) => Law.outK_no h)
  have hol := Law.outK_length k zs
  clear hE hs hr
  go_enter Try.func13, Try.ntmps13
  go_wp2_with fail
  refine (refWithout k zs A c w HS.out hl).mono ?_
  rintro e w1 ⟨A1, c1, rfl, hs1, hb1⟩
  have HS1 := Lib.hid hs1
  have HB1 := Lib.hid hb1
  have sb1 := hb1.size
  clear hs1 hb1 HS
  generalize Law.outK k zs = rs at *
  have hrl : rs.length ≤ 900 := by omega
  go_wp2_with fail
  go_loopw [7, 8, 10] (fun o p i wr => ∃ (j : Nat) (put : Bool), j ≤ rs.length ∧ i = .int .i64 j ∧ p = .bool put ∧ Below w1.heap.size w1 wr ∧
      ((put = false ∧ (∀ q ∈ rs.take j, OmapS.lt q.1 k) ∧ wr.ownsRow w1.heap.size 39 2 o (rs.take j).length (Law.flat (rs.take j))) ∨
       (put = true ∧ (∃ q ∈ rs.take j, OmapS.lt k q.1) ∧ wr.ownsRow w1.heap.size 39 2 o (Law.putK OmapS.lt k v (rs.take j)).length (Law.flat (Law.putK OmapS.lt k v (rs.take j)))))) (fun _ _ i _ => rs.length - (intOf i).toNat)
  case atStart => exact ⟨0, false, Nat.zero_le _, rfl, rfl, Below.refl _ _, .inl ⟨rfl, by simp, World.ownsRow_nil _ _ _ _⟩⟩
  case round =>
    obtain ⟨j, put, hj, rfl, rfl, hB, hO⟩ := hrel
    have HB := Lib.hid hB
    have sb := hB.size
    clear hB
    by_cases hlt : j < rs.length
    · obtain ⟨b, off, rfl, hb, q00, q11⟩ := HS1.out.at hlt
      have q0 := (HB.out.cell (p := ⟨b, off + j * 2, none⟩) hb).trans q00
      have q1 := (HB.out.cell (p := ⟨b, off + j * 2 + 1, none⟩) hb).trans q11
      have HT := Lib.hid (List.take_succ_eq_append_getElem hlt)
      have hno := HN.out _ (List.getElem_mem hlt)
      have HRT := Lib.hid (HR.out.prefix (List.take_prefix (j + 1) rs))
      rw [HT.out] at HRT
      have htl : (rs.take j).length ≤ 900 := by simp; omega
      generalize rs.take j = ts at *
      generalize hq : rs[j] = q at *
      obtain ⟨kj, vj⟩ := q
      simp only at q0 q1 q00 q11 hno
      have hpl := Law.putK_length OmapS.lt k v ts
      rcases hO with ⟨rfl, hless, hown⟩ | ⟨rfl, hmore, hown⟩
      · have HO := Lib.hid hown
        have HL := Lib.hid hless
        clear hown hless
        rcases OmapS.cmp kj k with ⟨h1, d1, _⟩ | ⟨h1, _⟩ | ⟨h1, d1, d2, _⟩
        · -- it is less: it goes on
          go_wp2_with (at_builtin; refine wpList_append_own _ rfl _ _ 28 rfl w1.heap.size 39 i0 (.agg #[.string .empty, .int .i64 0]) 2 24 HE.out.ut HE.out.info HE.out.zero HE.out.sz HE.out.by_ HE.out.cells HE.out.pos _ _ _ rfl (HO.out.alloc _) ⟨wr.heap.size, 0, none⟩ 1 1 [.string kj, .int .i64 vj] rfl rfl (Law.new_two _ _ _ _) (Law.two_one _ _) (by unfold maxLen; omega) (by omega) (by simp; omega) ?_)
          intro o2 w2 hown2 hgrow2 _
          have B2 := Lib.hid ((HB.out.alloc sb (.cells #[.string kj, .int .i64 vj] 39)).grown hgrow2 (by simp; omega) (fun g hg => (HO.out.lt g hg).1))
          have HO2 : Hid (w2.ownsRow w1.heap.size 39 2 o2 (ts ++ [(kj, vj)]).length (Law.flat (ts ++ [(kj, vj)]))) := by
            show World.ownsRow _ _ _ _ _ _ _
            rw [Law.flat_app, show Law.flat [(kj, vj)] = [.string kj, .int .i64 vj] from rfl]
            simpa using hown2
          obtain ⟨g2, cap2, rfl⟩ := ownsRow_succ hown2
          have sb2 := B2.out.size
          clear hown2 hgrow2
          go_wp2_with fail
          go_roundw
          case rel => exact ⟨j + 1, false, by omega, by go_num, rfl, B2.out, .inl ⟨rfl, fun q hq => by rw [HT.out] at hq; rcases List.mem_append.1 hq with h | h; exact HL.out q h; simp at h; subst h; exact h1, by rw [HT.out]; exact HO2.out⟩⟩
          case measure => simp [intOf]; omega
        · exact absurd h1 hno
        · -- it is more: the key, and it
          have HQ : Hid (Law.putK OmapS.lt k v (ts ++ [(kj, vj)]) = ts ++ [(k, v)] ++ [(kj, vj)]) := by show _ = _; rw [Law.putK_over OmapS.tri HL.out, Law.putK, if_pos h1]; simp
          go_wp2_with (at_builtin; refine wpList_append_own _ rfl _ _ 28 rfl w1.heap.size 39 i0 (.agg #[.string .empty, .int .i64 0]) 2 24 HE.out.ut HE.out.info HE.out.zero HE.out.sz HE.out.by_ HE.out.cells HE.out.pos _ _ _ rfl (HO.out.alloc _) ⟨wr.heap.size, 0, none⟩ 1 1 [.string k, .int .i64 v] rfl rfl (Law.new_two _ _ _ _) (Law.two_one _ _) (by unfold maxLen; omega) (by omega) (by simp; omega) ?_)
          intro o2 w2 hown2 hgrow2 _
          have B2 := Lib.hid ((HB.out.alloc sb (.cells #[.string k, .int .i64 v] 39)).grown hgrow2 (by simp; omega) (fun g hg => (HO.out.lt g hg).1))
          have HO2 : Hid (w2.ownsRow w1.heap.size 39 2 o2 (ts ++ [(k, v)]).length (Law.flat (ts ++ [(k, v)]))) := by
            show World.ownsRow _ _ _ _ _ _ _
            rw [Law.flat_app, show Law.flat [(k, v)] = [.string k, .int .i64 v] from rfl]
            simpa using hown2
          obtain ⟨g2, cap2, rfl⟩ := ownsRow_succ hown2
          have sb2 := B2.out.size
          clear hown2 hgrow2
          have hl2 : (ts ++ [(k, v)]).length ≤ 901 := by simp; omega
          have q0' : w2.cell? ⟨b, off + j * 2, none⟩ = some (.string kj) := (B2.out.cell (p := ⟨b, off + j * 2, none⟩) hb).trans q00
          have q1' : w2.cell? ⟨b, off + j * 2 + 1, none⟩ = some (.int .i64 vj) := (B2.out.cell (p := ⟨b, off + j * 2 + 1, none⟩) hb).trans q11
          go_wp2_with (at_builtin; refine wpList_append_own _ rfl _ _ 28 rfl w1.heap.size 39 i0 (.agg #[.string .empty, .int .i64 0]) 2 24 HE.out.ut HE.out.info HE.out.zero HE.out.sz HE.out.by_ HE.out.cells HE.out.pos _ _ _ rfl (HO2.out.alloc _) ⟨w2.heap.size, 0, none⟩ 1 1 [.string kj, .int .i64 vj] rfl rfl (Law.new_two _ _ _ _) (Law.two_one _ _) (by unfold maxLen; omega) (by omega) (by simp; omega) ?_)
          intro o3 w3 hown3 hgrow3 _
          have B3 := Lib.hid ((B2.out.alloc sb2 (.cells #[.string kj, .int .i64 vj] 39)).grown hgrow3 (by simp; omega) (fun g hg => (HO2.out.lt g hg).1))
          have HO3 : Hid (w3.ownsRow w1.heap.size 39 2 o3 ((ts ++ [(k, v)]) ++ [(kj, vj)]).length (Law.flat ((ts ++ [(k, v)]) ++ [(kj, vj)]))) := by
            show World.ownsRow _ _ _ _ _ _ _
            rw [Law.flat_app, show Law.flat [(kj, vj)] = [.string kj, .int .i64 vj] from rfl]
            simpa using hown3
          obtain ⟨g3, cap3, rfl⟩ := ownsRow_succ hown3
          have sb3 := B3.out.size
          clear hown3 hgrow3
          go_wp2_with fail
          go_roundw
          case rel => exact ⟨j + 1, true, by omega, by go_num, rfl, B3.out, .inr ⟨rfl, ⟨(kj, vj), by rw [HT.out]; simp, h1⟩, by rw [HT.out, HQ.out]; exact HO3.out⟩⟩
          case measure => simp [intOf]; omega
      · have HO := Lib.hid hown
        have HM := Lib.hid hmore
        have HQ := Lib.hid (Law.putK_snoc OmapS.tri (k := k) (v := v) HRT.out hmore)
        clear hown hmore
        generalize Law.putK OmapS.lt k v ts = ps at *
        go_wp2_with (at_builtin; refine wpList_append_own _ rfl _ _ 28 rfl w1.heap.size 39 i0 (.agg #[.string .empty, .int .i64 0]) 2 24 HE.out.ut HE.out.info HE.out.zero HE.out.sz HE.out.by_ HE.out.cells HE.out.pos _ _ _ rfl (HO.out.alloc _) ⟨wr.heap.size, 0, none⟩ 1 1 [.string kj, .int .i64 vj] rfl rfl (Law.new_two _ _ _ _) (Law.two_one _ _) (by unfold maxLen; omega) (by omega) (by simp; omega) ?_)
        intro o2 w2 hown2 hgrow2 _
        have B2 := Lib.hid ((HB.out.alloc sb (.cells #[.string kj, .int .i64 vj] 39)).grown hgrow2 (by simp; omega) (fun g hg => (HO.out.lt g hg).1))
        have HO2 : Hid (w2.ownsRow w1.heap.size 39 2 o2 (ps ++ [(kj, vj)]).length (Law.flat (ps ++ [(kj, vj)]))) := by
          show World.ownsRow _ _ _ _ _ _ _
          rw [Law.flat_app, show Law.flat [(kj, vj)] = [.string kj, .int .i64 vj] from rfl]
          simpa using hown2
        obtain ⟨g2, cap2, rfl⟩ := ownsRow_succ hown2
        have sb2 := B2.out.size
        clear hown2 hgrow2
        go_wp2_with fail
        go_roundw
        case rel => exact ⟨j + 1, true, by omega, by go_num, rfl, B2.out, .inr ⟨rfl, by obtain ⟨q, hq, hk⟩ := HM.out; exact ⟨q, by rw [HT.out]; simp [hq], hk⟩, by rw [HT.out, HQ.out]; exact HO2.out⟩⟩
        case measure => simp [intOf]; omega
    · have e1 : rs.take j = rs := List.take_of_length_le (by omega)
      rw [e1] at hO
      have hpl := Law.putK_length OmapS.lt k v rs
      rcases hO with ⟨rfl, hless, hown⟩ | ⟨rfl, hmore, hown⟩
      · have HO := Lib.hid hown
        have HQ : Hid (Law.putK OmapS.lt k v rs = rs ++ [(k, v)]) := Law.putK_end OmapS.tri hless
        clear hown hless
        go_wp2_with (at_builtin; refine wpList_append_own _ rfl _ _ 28 rfl w1.heap.size 39 i0 (.agg #[.string .empty, .int .i64 0]) 2 24 HE.out.ut HE.out.info HE.out.zero HE.out.sz HE.out.by_ HE.out.cells HE.out.pos _ _ _ rfl (HO.out.alloc _) ⟨wr.heap.size, 0, none⟩ 1 1 [.string k, .int .i64 v] rfl rfl (Law.new_two _ _ _ _) (Law.two_one _ _) (by unfold maxLen; omega) (by omega) (by simp; omega) ?_)
        intro o2 w2 hown2 hgrow2 _
        have B2 := Lib.hid ((HB.out.alloc sb (.cells #[.string k, .int .i64 v] 39)).grown hgrow2 (by simp; omega) (fun g hg => (HO.out.lt g hg).1))
        have HO2 : Hid (w2.ownsRow w1.heap.size 39 2 o2 (rs ++ [(k, v)]).length (Law.flat (rs ++ [(k, v)]))) := by
          show World.ownsRow _ _ _ _ _ _ _
          rw [Law.flat_app, show Law.flat [(k, v)] = [.string k, .int .i64 v] from rfl]
          simpa using hown2
        obtain ⟨g2, cap2, rfl⟩ := ownsRow_succ hown2
        have sb2 := B2.out.size
        clear hown2 hgrow2
        have HF : Hid (Law.Prs w2 w2.heap.size (some ⟨g2, 0, none⟩) (rs ++ [(k, v)])) := Law.Prs.own (c := cap2) (by simpa using HO2.out)
        go_wp2_with fail
        go_ret
        exact ⟨some ⟨g2, 0, none⟩, cap2, by rw [← HP.out, HQ.out]; simp, by rw [← HP.out, HQ.out]; exact HF.out, HB1.out.trans (B2.out.mono sb1)⟩
      · have HO := Lib.hid hown
        clear hown hmore
        obtain ⟨A2, c2, rfl, _⟩ := Law.own_shape HO.out
        have HF := Lib.hid (Law.Prs.own HO.out)
        go_wp2_with fail
        go_ret
        exact ⟨A2, c2, by rw [← HP.out]; rfl, by rw [← HP.out]; exact HF.out, HB1.out.trans (HB.out.mono sb1)⟩
end Omap
end Go.Proofs.Ytekkddejgkmofaa

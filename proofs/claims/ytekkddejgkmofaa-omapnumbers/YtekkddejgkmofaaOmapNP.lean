/-
  What the maps of OmapNumbers hold.
-/
import Derived.Test.YtekkddejgkmofaaOmap01
import Derived.Test.YtekkddejgkmofaaOmapNM
import Derived.Test.YtekkddejgkmofaaNums
import Derived.StillTailTactics
namespace Go.Law
section
variable {κ ν : Type} {lt : κ → κ → Prop} [DecidableRel lt] [DecidableEq κ]
theorem getK_put_same (ht : Tri lt) (k : κ) (v : ν) : ∀ xs : List (κ × ν), getK k (putK lt k v xs) = some v
  | [] => by simp [putK, getK]
  | p :: r => by
    have ih := getK_put_same ht k v r
    unfold putK
    split
    · simp [getK]
    · split
      · rename_i h2
        rw [getK, if_neg (ht.ne h2), ih]
      · simp [getK]
theorem getK_put_other (ht : Tri lt) {k k' : κ} (v : ν) (hk : k' ≠ k) : ∀ xs : List (κ × ν), getK k (putK lt k' v xs) = getK k xs
  | [] => by simp [putK, getK, hk]
  | p :: r => by
    have ih := getK_put_other ht v hk r
    unfold putK
    split
    · rw [getK, if_neg hk]
    · split
      · rw [getK, ih, getK]
      · rename_i h1 h2
        have e : k' = p.1 := by rcases ht.tri k' p.1 with e | e | e; exact absurd e h1; exact e; exact absurd e h2
        rw [getK, if_neg hk, getK, if_neg (e ▸ hk)]
omit [DecidableRel lt] in
theorem getK_mem' (ht : Tri lt) {k : κ} {v : ν} {xs : List (κ × ν)} (hr : Rises lt xs) (hm : (k, v) ∈ xs) : getK k xs = some v := by
  obtain ⟨a, b, rfl⟩ := List.append_of_mem hm
  exact getK_same lt ht hr
omit [DecidableRel lt] in
theorem getK_some_mem {k : κ} {v : ν} : ∀ {xs : List (κ × ν)}, getK k xs = some v → (k, v) ∈ xs
  | [], h => by cases h
  | p :: r, h => by
    unfold getK at h
    split at h
    · rename_i e
      cases h
      subst e
      simp
    · exact List.mem_cons_of_mem _ (getK_some_mem h)
omit [DecidableRel lt] [DecidableEq κ] in
theorem same_len (ht : Tri lt) : ∀ (xs ys : List (κ × ν)), Rises lt xs → Rises lt ys → (∀ k, (∃ v, (k, v) ∈ xs) ↔ ∃ v, (k, v) ∈ ys) → xs.length = ys.length
  | [], [], _, _, _ => rfl
  | [], y :: ys, _, _, h => by obtain ⟨v, hv⟩ := (h y.1).2 ⟨y.2, by simp⟩; cases hv
  | x :: xs, [], _, _, h => by obtain ⟨v, hv⟩ := (h x.1).1 ⟨x.2, by simp⟩; cases hv
  | x :: xs, y :: ys, hx, hy, h => by
    have e : x.1 = y.1 := by
      rcases ht.tri x.1 y.1 with e | e | e
      · obtain ⟨v, hv⟩ := (h x.1).1 ⟨x.2, by simp⟩
        rcases List.mem_cons.1 hv with hv | hv
        · rw [← hv]
        · exact absurd (hy.head _ hv) (ht.asym e)
      · exact e
      · obtain ⟨v, hv⟩ := (h y.1).2 ⟨y.2, by simp⟩
        rcases List.mem_cons.1 hv with hv | hv
        · rw [← hv]
        · exact absurd (hx.head _ hv) (ht.asym e)
    have := same_len ht xs ys hx.tail hy.tail fun k => by
      constructor
      · rintro ⟨v, hv⟩
        obtain ⟨v', hv'⟩ := (h k).1 ⟨v, by simp [hv]⟩
        rcases List.mem_cons.1 hv' with e' | hv'
        · have h1 := hx.head _ hv
          rw [e, ← e'] at h1
          exact absurd h1 (ht.irr _)
        · exact ⟨v', hv'⟩
      · rintro ⟨v, hv⟩
        obtain ⟨v', hv'⟩ := (h k).2 ⟨v, by simp [hv]⟩
        rcases List.mem_cons.1 hv' with e' | hv'
        · have h1 := hy.head _ hv
          rw [← e, ← e'] at h1
          exact absurd h1 (ht.irr _)
        · exact ⟨v', hv'⟩
    simp [this]
end
end Go.Law
namespace Go.Proofs.Ytekkddejgkmofaa.omapNumbers
open Go.ChangeShapes Go.WideShapes Go.ChangeAt Go.RowKit
open Omap

/-- what the first map holds when k numbers were put -/
def mL (zs : List Int) : Nat → List (Int × Int)
  | 0 => []
  | k + 1 => Law.putK OmapN.lt (zs[k]?.getD 0) (k : Int) (mL zs k)
/-- what the second one holds: from the end on -/
def tL (zs : List Int) : Nat → List (Int × Int)
  | 0 => []
  | k + 1 => Law.putK OmapN.lt (zs[zs.length - 1 - k]?.getD 0) ((zs.length - 1 - k : Nat) : Int) (tL zs k)
def lastI (zs : List Int) (x : Int) : Nat → Int
  | 0 => -1
  | j + 1 => if zs[j]?.getD 0 = x then (j : Int) else lastI zs x j
def firstI (zs : List Int) (x : Int) : Nat → Int
  | 0 => -1
  | j + 1 => if zs[j]?.getD 0 = x ∧ firstI zs x j < 0 then (j : Int) else firstI zs x j
theorem firstI_succ (zs : List Int) (x : Int) (j : Nat) : firstI zs x (j + 1) = if zs[j]?.getD 0 = x ∧ firstI zs x j < 0 then (j : Int) else firstI zs x j := rfl
theorem mL_rises (zs : List Int) : ∀ k, Law.Rises OmapN.lt (mL zs k)
  | 0 => Law.Rises.nil
  | k + 1 => Law.putK_rises OmapN.lt OmapN.tri (mL_rises zs k)
theorem tL_rises (zs : List Int) : ∀ k, Law.Rises OmapN.lt (tL zs k)
  | 0 => Law.Rises.nil
  | k + 1 => Law.putK_rises OmapN.lt OmapN.tri (tL_rises zs k)
theorem mL_len (zs : List Int) : ∀ k, (mL zs k).length ≤ k
  | 0 => Nat.le_refl _
  | k + 1 => by have := Law.putK_length OmapN.lt (zs[k]?.getD 0) (k : Int) (mL zs k); have := mL_len zs k; unfold mL; omega
theorem tL_len (zs : List Int) : ∀ k, (tL zs k).length ≤ k
  | 0 => Nat.le_refl _
  | k + 1 => by have := Law.putK_length OmapN.lt (zs[zs.length - 1 - k]?.getD 0) ((zs.length - 1 - k : Nat) : Int) (tL zs k); have := tL_len zs k; unfold tL; omega
theorem lastI_ge (zs : List Int) (x : Int) : ∀ j, -1 ≤ lastI zs x j ∧ lastI zs x j < j
  | 0 => by simp [lastI]
  | j + 1 => by have := lastI_ge zs x j; unfold lastI; split <;> constructor <;> omega
theorem firstI_ge (zs : List Int) (x : Int) : ∀ j, -1 ≤ firstI zs x j ∧ firstI zs x j < j
  | 0 => by simp [firstI]
  | j + 1 => by have := firstI_ge zs x j; unfold firstI; split <;> constructor <;> omega
/-- both are there, or none -/
theorem both (zs : List Int) (x : Int) : ∀ j, lastI zs x j < 0 ↔ firstI zs x j < 0
  | 0 => by simp [lastI, firstI]
  | j + 1 => by
    have := both zs x j
    unfold lastI firstI
    by_cases h1 : zs[j]?.getD 0 = x
    · by_cases h2 : firstI zs x j < 0
      · rw [if_pos h1, if_pos ⟨h1, h2⟩]
      · rw [if_pos h1, if_neg (fun h => h2 h.2)]
        have := firstI_ge zs x j
        omega
    · rw [if_neg h1, if_neg (fun h => h1 h.1)]
      exact this
theorem get_m (zs : List Int) (x : Int) : ∀ k, Law.getK x (mL zs k) = if lastI zs x k < 0 then none else some (lastI zs x k)
  | 0 => by simp [mL, lastI, Law.getK]
  | k + 1 => by
    unfold mL lastI
    by_cases h : zs[k]?.getD 0 = x
    · rw [if_pos h, if_neg (by omega), h, Law.getK_put_same OmapN.tri]
    · rw [if_neg h, Law.getK_put_other OmapN.tri _ h, get_m zs x k]
theorem get_t (zs : List Int) (x : Int) : ∀ j, j ≤ zs.length → Law.getK x (tL zs zs.length) = if firstI zs x j < 0 then Law.getK x (tL zs (zs.length - j)) else some (firstI zs x j)
  | 0, _ => by simp [firstI]
  | j + 1, h => by
    rw [get_t zs x j (by omega)]
    have e : zs.length - j = (zs.length - (j + 1)) + 1 := by omega
    have e2 : zs.length - 1 - (zs.length - (j + 1)) = j := by omega
    have eF := firstI_succ zs x j
    have eT : tL zs (zs.length - j) = Law.putK OmapN.lt (zs[j]?.getD 0) (j : Int) (tL zs (zs.length - (j + 1))) := by rw [e, tL, e2]
    rw [eT]
    by_cases h1 : zs[j]?.getD 0 = x
    · by_cases h2 : firstI zs x j < 0
      · rw [if_pos (show zs[j]?.getD 0 = x ∧ firstI zs x j < 0 from ⟨h1, h2⟩)] at eF
        rw [if_pos h2, eF, if_neg (by omega), h1, Law.getK_put_same OmapN.tri]
      · rw [if_neg (fun h : zs[j]?.getD 0 = x ∧ firstI zs x j < 0 => h2 h.2)] at eF
        rw [if_neg h2, eF, if_neg h2]
    · rw [if_neg (fun h : zs[j]?.getD 0 = x ∧ firstI zs x j < 0 => h1 h.1)] at eF
      rw [Law.getK_put_other OmapN.tri _ h1, eF]
theorem get_all (zs : List Int) (x : Int) : Law.getK x (tL zs zs.length) = if firstI zs x zs.length < 0 then none else some (firstI zs x zs.length) := by
  rw [get_t zs x zs.length (Nat.le_refl _), Nat.sub_self]
  rfl
theorem len_same (zs : List Int) : (tL zs zs.length).length = (mL zs zs.length).length := by
  refine Law.same_len OmapN.tri _ _ (tL_rises _ _) (mL_rises _ _) fun x => ?_
  have h1 := get_m zs x zs.length
  have h2 := get_all zs x
  have hb := both zs x zs.length
  constructor
  · rintro ⟨v, hv⟩
    have := Law.getK_mem' OmapN.tri (tL_rises _ _) hv
    rw [h2] at this
    by_cases h : firstI zs x zs.length < 0
    · rw [if_pos h] at this; cases this
    · rw [if_neg (fun h' => h (hb.1 h'))] at h1
      exact ⟨_, Law.getK_some_mem h1⟩
  · rintro ⟨v, hv⟩
    have := Law.getK_mem' OmapN.tri (mL_rises _ _) hv
    rw [h1] at this
    by_cases h : lastI zs x zs.length < 0
    · rw [if_pos h] at this; cases this
    · rw [if_neg (fun h' => h (hb.2 h'))] at h2
      exact ⟨_, Law.getK_some_mem h2⟩
/-- at a key that is there -/
theorem at_key (zs : List Int) {x : Int} (h : ∃ v, (x, v) ∈ mL zs zs.length) : Law.getK x (mL zs zs.length) = some (lastI zs x zs.length) ∧ Law.getK x (tL zs zs.length) = some (firstI zs x zs.length) := by
  obtain ⟨v, hv⟩ := h
  have h0 := Law.getK_mem' OmapN.tri (mL_rises _ _) hv
  have h1 := get_m zs x zs.length
  have h2 := get_all zs x
  have hb := both zs x zs.length
  by_cases hl : lastI zs x zs.length < 0
  · rw [if_pos hl] at h1
    rw [h1] at h0
    cases h0
  · rw [if_neg hl] at h1
    rw [if_neg (fun h' => hl (hb.2 h'))] at h2
    exact ⟨h1, h2⟩
end Go.Proofs.Ytekkddejgkmofaa.omapNumbers

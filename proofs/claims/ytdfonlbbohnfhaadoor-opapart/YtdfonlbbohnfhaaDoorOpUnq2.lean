/-
  What is cut off a text whose ends are told: quoted texts, numbers, words. Plain.
-/
import Derived.Test.YtdfonlbbohnfhaaDoorOpUnq
import Derived.Laws.BytesArg
import Derived.Lib.Join
import Derived.Lib.PrintData
namespace Go.Law
open Go.Lib
theorem take_bytes (s : ByteArray) (K : Nat) (hK : K ≤ 4) (hs : K ≤ s.size) : (numsB s).take K = ([((s.get! 0).toNat : Int), (s.get! (0 + 1)).toNat, (s.get! (0 + 2)).toNat, (s.get! (0 + 3)).toNat] : List Int).take K := by
  obtain ⟨⟨l⟩⟩ := s
  have hl : K ≤ l.length := hs
  match K, l, hK, hl with
  | 0, _, _, _ => rfl
  | 1, a :: r, _, _ => rfl
  | 2, a :: b :: r, _, _ => rfl
  | 3, a :: b :: c :: r, _, _ => rfl
  | 4, a :: b :: c :: d :: r, _, _ => rfl
theorem nums_rest (s : ByteArray) (K : Nat) : numsB s = (numsB s).take K ++ numsB (s.extract K s.size) := by
  have e : numsB (s.extract K s.size) = (numsB s).drop K := by
    unfold numsB
    rw [ByteArray.data_extract, Array.toList_extract, List.map_drop.symm]
    congr 1
    rw [List.extract_eq_take_drop]
    refine List.take_of_length_le ?_
    rw [List.length_drop, Array.length_toList]
    exact Nat.le_refl _
  rw [e, List.take_append_drop]
theorem step_at (T : PrintTabs) (s : ByteArray) (h : 0 < s.size) : (∀ X, unq (quoteStep T s ++ X) = ((numsB s).take (Utf8.decode s 0).2, (quoteStep T s).length)) ∧ (∃ c l, quoteStep T s = c :: l ∧ c ≠ 34) ∧ ∀ x ∈ quoteStep T s, 0 ≤ x ∧ x < 256 := by
  have b0 := UInt8.toNat_lt (s.get! 0)
  by_cases hg : (Utf8.decode s 0).2 = 1 ∧ (Utf8.decode s 0).1 = 65533
  · have e : quoteStep T s = [92, 120, hexDigit ((s.get! 0).toNat / 16), hexDigit ((s.get! 0).toNat % 16)] := by simp only [quoteStep, if_pos hg]
    have e1 := hexV_digit (x := (s.get! 0).toNat / 16) (by omega)
    have e2 := hexV_digit (x := (s.get! 0).toNat % 16) (by omega)
    have r1 := hexDigit_range (x := (s.get! 0).toNat / 16) (by omega)
    have r2 := hexDigit_range (x := (s.get! 0).toNat % 16) (by omega)
    rw [e, hg.1, take_bytes s 1 (by omega) h]
    refine ⟨fun X => ?_, ⟨92, _, rfl, by decide⟩, fun x hx => by simp at hx; omega⟩
    show unq (92 :: 120 :: hexDigit ((s.get! 0).toNat / 16) :: hexDigit ((s.get! 0).toNat % 16) :: X) = ([((s.get! 0).toNat : Int)], 4)
    unfold unq
    simp only [e1, e2]
    rw [if_pos trivial, if_pos trivial]
    refine Prod.ext ?_ rfl
    show [_] = [_]
    congr 1
    omega
  · have hd := decode_at s 0
    have hk := decode_good (R := (Utf8.decode s 0).1) (K := (Utf8.decode s 0).2) (by omega) b0 (UInt8.toNat_lt (s.get! (0 + 1))) (UInt8.toNat_lt (s.get! (0 + 2))) (UInt8.toNat_lt (s.get! (0 + 3))) hd.symm hg
    obtain ⟨k1, k2, k3, k4, k5⟩ := hk
    rw [quoteStep_good T s hg]
    refine ⟨fun X => ?_, esc_head T k1, esc_byte T k1⟩
    rw [unq_esc T k1, k3, take_bytes s _ k5 (by omega)]
theorem quoteFrom_byte (T : PrintTabs) : ∀ (f : Nat) (s : ByteArray), ∀ x ∈ quoteFrom T f s, 0 ≤ x ∧ x < 256
  | 0, _ => fun x hx => by simp [quoteFrom] at hx
  | f + 1, s => fun x hx => by
    unfold quoteFrom at hx
    split at hx
    · rename_i h
      rcases List.mem_append.1 hx with h1 | h1
      · exact (step_at T s h).2.2 x h1
      · exact quoteFrom_byte T f _ x h1
    · cases hx
theorem quote_cancel (T : PrintTabs) : ∀ (f g : Nat) (s t : ByteArray) (r r' : List Int), s.size ≤ f → t.size ≤ g → quoteFrom T f s ++ 34 :: r = quoteFrom T g t ++ 34 :: r' → s = t ∧ r = r' := by
  have none : ∀ s : ByteArray, ¬ 0 < s.size → numsB s = [] := fun s h => List.eq_nil_of_length_eq_zero (by rw [numsB_length]; omega)
  intro f
  induction f with
  | zero =>
    intro g s t r r' hs ht h
    have n1 := none s (by omega)
    rw [quoteFrom_end T 0 s (by omega)] at h
    by_cases h2 : 0 < t.size
    · obtain ⟨c, l, e, hc⟩ := (step_at T t h2).2.1
      rw [quoteFrom_step T g t h2 ht, e] at h
      injection h with h3 h4
      exact absurd h3.symm hc
    · rw [quoteFrom_end T g t h2] at h
      injection h with h3 h4
      exact ⟨numsB_inj (n1.trans (none t h2).symm), h4⟩
  | succ f ih =>
    intro g s t r r' hs ht h
    by_cases h1 : 0 < s.size
    · by_cases h2 : 0 < t.size
      · rw [quoteFrom_step T (f + 1) s h1 hs, quoteFrom_step T g t h2 ht, List.append_assoc, List.append_assoc] at h
        have u1 := (step_at T s h1).1 (quoteFrom T (f + 1 - 1) (s.extract (Utf8.decode s 0).2 s.size) ++ 34 :: r)
        have u2 := (step_at T t h2).1 (quoteFrom T (g - 1) (t.extract (Utf8.decode t 0).2 t.size) ++ 34 :: r')
        rw [h, u2] at u1
        injection u1 with u3 u4
        obtain ⟨h5, h6⟩ := List.append_inj h u4.symm
        have w1 := width_pos s 0
        have w2 := width_pos t 0
        obtain ⟨h7, h8⟩ := ih (g - 1) _ _ r r' (by rw [size_rest]; omega) (by rw [size_rest]; omega) h6
        refine ⟨numsB_inj ?_, h8⟩
        rw [nums_rest s (Utf8.decode s 0).2, nums_rest t (Utf8.decode t 0).2, u3, h7]
      · obtain ⟨c, l, e, hc⟩ := (step_at T s h1).2.1
        rw [quoteFrom_step T (f + 1) s h1 hs, e, quoteFrom_end T g t h2] at h
        injection h with h3 h4
        exact absurd h3 hc
    · have n1 := none s h1
      rw [quoteFrom_end T (f + 1) s h1] at h
      by_cases h2 : 0 < t.size
      · obtain ⟨c, l, e, hc⟩ := (step_at T t h2).2.1
        rw [quoteFrom_step T g t h2 ht, e] at h
        injection h with h3 h4
        exact absurd h3.symm hc
      · rw [quoteFrom_end T g t h2] at h
        injection h with h3 h4
        exact ⟨numsB_inj (n1.trans (none t h2).symm), h4⟩
/-- a quoted text's bytes -/
def quoteL (u : ByteArray) : List UInt8 := (strOfNums (quoteZ goPrintTabs u)).data.toList
theorem toInt_inj {l l' : List UInt8} (h : l.map (fun b => (b.toNat : Int)) = l'.map (fun b => (b.toNat : Int))) : l = l' :=
  List.map_inj_right (f := fun b : UInt8 => (b.toNat : Int)) (fun a b e => UInt8.toNat_inj.1 (by omega)) |>.1 h
theorem quoteL_nums (u : ByteArray) : (quoteL u).map (fun b => (b.toNat : Int)) = 34 :: (quoteFrom goPrintTabs u.size u ++ [34]) := by
  unfold quoteL strOfNums
  rw [List.toList_toArray]
  rw [List.map_map]
  refine Eq.trans (List.map_congr_left (g := id) fun x hx => ?_) (List.map_id _)
  have hx2 : 0 ≤ x ∧ x < 256 := by
    rcases List.mem_cons.1 hx with rfl | hx
    · omega
    · rcases List.mem_append.1 hx with hx | hx
      · exact quoteFrom_byte _ _ _ x hx
      · simp at hx; omega
  show (((UInt8.ofNat x.toNat).toNat : Nat) : Int) = x
  rw [UInt8.toNat_ofNat']
  omega
theorem quoteL_cancel {u v : ByteArray} {l l' : List UInt8} (h : quoteL u ++ l = quoteL v ++ l') : u = v ∧ l = l' := by
  have h1 := congrArg (List.map fun b : UInt8 => (b.toNat : Int)) h
  rw [List.map_append, List.map_append, quoteL_nums, quoteL_nums] at h1
  simp only [List.cons_append, List.append_assoc, List.nil_append] at h1
  injection h1 with _ h2
  obtain ⟨h3, h4⟩ := quote_cancel goPrintTabs _ _ u v _ _ (Nat.le_refl _) (Nat.le_refl _) h2
  exact ⟨h3, toInt_inj h4⟩
theorem quoteL_head (u : ByteArray) : ∃ l, quoteL u = 34 :: l := by
  have h := quoteL_nums u
  match hq : quoteL u with
  | [] => rw [hq] at h; cases h
  | c :: l =>
    rw [hq] at h
    injection h with h1 _
    have h2 : (c.toNat : Int) = 34 := h1
    exact ⟨l, by rw [show c = 34 from UInt8.toNat_inj.1 (by show c.toNat = 34; omega)]⟩
/-- no byte of that sort at the head -/
def NoMore (p : UInt8 → Bool) (l : List UInt8) : Prop := ∀ c r, l = c :: r → p c = false
theorem cut_eq (p : UInt8 → Bool) {a b l l' : List UInt8} (ha : ∀ x ∈ a, p x = true) (hb : ∀ x ∈ b, p x = true) (hl : NoMore p l) (hl' : NoMore p l') (h : a ++ l = b ++ l') : a = b ∧ l = l' := by
  induction a generalizing b with
  | nil =>
    cases b with
    | nil => exact ⟨rfl, h⟩
    | cons x b => have := hl x _ h; rw [hb x (List.mem_cons_self ..)] at this; cases this
  | cons y a ih =>
    cases b with
    | nil => have := hl' y _ h.symm; rw [ha y (List.mem_cons_self ..)] at this; cases this
    | cons x b =>
      injection h with h1 h2
      subst h1
      obtain ⟨h3, h4⟩ := ih (fun z hz => ha z (List.mem_cons_of_mem _ hz)) (fun z hz => hb z (List.mem_cons_of_mem _ hz)) h2
      exact ⟨by rw [h3], h4⟩
/-- a numeral's bytes -/
def digB (c : UInt8) : Bool := decide (c = 45 ∨ 48 ≤ c.toNat ∧ c.toNat ≤ 57)
theorem dec_byte (u : Nat) : ∀ x ∈ decDigits u, 48 ≤ x.toNat ∧ x.toNat ≤ 57 := by
  induction u using Nat.strongRecOn with
  | _ u ih =>
    intro x hx
    rw [decDigits] at hx
    split at hx
    · rw [List.mem_singleton] at hx
      subst hx
      rw [UInt8.toNat_ofNat']
      omega
    · rcases List.mem_append.1 hx with h | h
      · exact ih _ (by omega) x h
      · rw [List.mem_singleton] at h
        subst h
        rw [UInt8.toNat_ofNat']
        omega
def valD (l : List UInt8) : Nat := l.foldl (fun a d => 10 * a + (d.toNat - 48)) 0
theorem val_dec (u : Nat) : valD (decDigits u) = u := by
  induction u using Nat.strongRecOn with
  | _ u ih =>
    rw [decDigits]
    split
    · show 10 * 0 + ((UInt8.ofNat (48 + u)).toNat - 48) = u
      rw [UInt8.toNat_ofNat']
      omega
    · have := ih (u / 10) (by omega)
      unfold valD at this ⊢
      rw [List.foldl_append, this]
      show 10 * (u / 10) + ((UInt8.ofNat (48 + u % 10)).toNat - 48) = u
      rw [UInt8.toNat_ofNat']
      omega
theorem dec_inj {u v : Nat} (h : decDigits u = decDigits v) : u = v := by rw [← val_dec u, h, val_dec]
theorem dec_ne (u : Nat) : ∃ c l, decDigits u = c :: l ∧ 48 ≤ c.toNat ∧ c.toNat ≤ 57 := by
  match hq : decDigits u with
  | [] => rw [decDigits] at hq; split at hq <;> simp at hq
  | c :: l => exact ⟨c, l, rfl, dec_byte u c (by rw [hq]; exact List.mem_cons_self ..)⟩
theorem dec_dig (u : Nat) : ∀ x ∈ decDigits u, digB x = true := fun x hx => decide_eq_true (.inr (dec_byte u x hx))
theorem itoa_dig (n : Int) : ∀ x ∈ itoa n, digB x = true := by
  intro x hx
  unfold itoa at hx
  split at hx
  · rcases List.mem_cons.1 hx with rfl | hx
    · rfl
    · exact dec_dig _ x hx
  · exact dec_dig _ x hx
theorem itoa_head (n : Int) : ∃ c l, itoa n = c :: l ∧ digB c = true := by
  have h := itoa_dig n
  match hq : itoa n with
  | [] =>
    unfold itoa at hq
    split at hq
    · cases hq
    · obtain ⟨c, l, e, _⟩ := dec_ne n.toNat; rw [e] at hq; cases hq
  | c :: l => exact ⟨c, l, rfl, h c (by rw [hq]; exact List.mem_cons_self ..)⟩
theorem itoa_inj {m n : Int} (h : itoa m = itoa n) : m = n := by
  unfold itoa at h
  split at h <;> split at h
  · injection h with _ h; have := dec_inj h; omega
  · obtain ⟨c, l, e, h1, h2⟩ := dec_ne n.toNat
    rw [e] at h
    injection h with h3 _
    subst h3
    exact absurd h1 (by decide)
  · obtain ⟨c, l, e, h1, h2⟩ := dec_ne m.toNat
    rw [e] at h
    injection h with h3 _
    subst h3
    exact absurd h1 (by decide)
  · have := dec_inj h; omega
theorem itoa_cancel {m n : Int} {l l' : List UInt8} (hl : NoMore digB l) (hl' : NoMore digB l') (h : itoa m ++ l = itoa n ++ l') : m = n ∧ l = l' := by
  obtain ⟨h1, h2⟩ := cut_eq digB (itoa_dig m) (itoa_dig n) hl hl' h
  exact ⟨itoa_inj h1, h2⟩
theorem dec_cancel {m n : Nat} {l l' : List UInt8} (hl : NoMore digB l) (hl' : NoMore digB l') (h : decDigits m ++ l = decDigits n ++ l') : m = n ∧ l = l' := by
  obtain ⟨h1, h2⟩ := cut_eq digB (dec_dig m) (dec_dig n) hl hl' h
  exact ⟨dec_inj h1, h2⟩
theorem ends_cons {p : UInt8 → Bool} {c : UInt8} {l : List UInt8} (h : p c = false) : NoMore p (c :: l) := fun d r e => by injection e with e1 _; rw [← e1]; exact h
theorem ends_nil {p : UInt8 → Bool} : NoMore p [] := fun d r e => by cases e
/-- words, each behind a blank -/
def blankL : List (List UInt8) → List UInt8
  | [] => []
  | x :: xs => 32 :: (x ++ blankL xs)
theorem blankL_ends {p : UInt8 → Bool} (h : p 32 = false) (xs : List (List UInt8)) : NoMore p (blankL xs) := by
  cases xs with
  | nil => exact ends_nil
  | cons x xs => exact ends_cons h
theorem join_blank (x : List UInt8) (xs : List (List UInt8)) : join (x :: xs) [32] = x ++ blankL xs := by
  unfold join
  induction xs generalizing x with
  | nil => simp [List.intercalate, blankL]
  | cons y ys ih =>
    have := ih y
    rw [blankL, ← this]
    simp [List.intercalate, List.intersperse]
theorem blank_app (xs ys : List (List UInt8)) : blankL (xs ++ ys) = blankL xs ++ blankL ys := by
  induction xs with
  | nil => rfl
  | cons x xs ih => simp [blankL, ih]
/-- quoted texts behind blanks -/
theorem quotes_inj {us vs : List ByteArray} (h : blankL (us.map quoteL) = blankL (vs.map quoteL)) : us = vs := by
  induction us generalizing vs with
  | nil =>
    cases vs with
    | nil => rfl
    | cons v vs => cases h
  | cons u us ih =>
    cases vs with
    | nil => cases h
    | cons v vs =>
      injection h with _ h
      obtain ⟨h1, h2⟩ := quoteL_cancel h
      rw [h1, ih h2]
end Go.Law

/-
  What Quote writes tells the text apart, whatever follows it. Plain.
-/
import Derived.Lib.QuoteLoop
import Derived.Lib.DecodeN
import Derived.Lib.ItoaNum
namespace Go.Law
open Go.Lib
/-- a text's bytes as numbers -/
def numsB (s : ByteArray) : List Int := s.data.toList.map fun b => (b.toNat : Int)
theorem numsB_inj {s t : ByteArray} (h : numsB s = numsB t) : s = t := by
  have h1 : s.data.toList = t.data.toList := by
    unfold numsB at h
    refine List.map_inj_right (f := fun b : UInt8 => (b.toNat : Int)) (fun a b e => ?_) |>.1 h
    exact UInt8.toNat_inj.1 (by omega)
  cases s; cases t; congr; exact Array.toList_inj.1 h1
theorem numsB_length (s : ByteArray) : (numsB s).length = s.size := by unfold numsB; rw [List.length_map, Array.length_toList]; rfl
/-- what one coded word stands for, and how many bytes it takes -/
def hexV (x : Int) : Int := if x < 58 then x - 48 else x - 87
def unq (l : List Int) : List Int × Nat :=
  match l with
  | [] => ([], 0)
  | c :: r =>
    if c = 92 then
      match r with
      | [] => ([], 0)
      | e :: r =>
        if e = 120 then (match r with | x :: y :: _ => ([hexV x * 16 + hexV y], 4) | _ => ([], 0))
        else if e = 117 then (match r with | x :: y :: z :: u :: _ => (encodeRuneZ (((hexV x * 16 + hexV y) * 16 + hexV z) * 16 + hexV u), 6) | _ => ([], 0))
        else if e = 85 then (match r with | a :: b :: c :: d :: x :: y :: z :: u :: _ => (encodeRuneZ (((((((hexV a * 16 + hexV b) * 16 + hexV c) * 16 + hexV d) * 16 + hexV x) * 16 + hexV y) * 16 + hexV z) * 16 + hexV u), 10) | _ => ([], 0))
        else if e = 97 then ([7], 2) else if e = 98 then ([8], 2) else if e = 102 then ([12], 2) else if e = 110 then ([10], 2)
        else if e = 114 then ([13], 2) else if e = 116 then ([9], 2) else if e = 118 then ([11], 2) else ([e], 2)
    else if c < 128 then ([c], 1) else if c < 224 then ((c :: r).take 2, 2) else if c < 240 then ((c :: r).take 3, 3) else ((c :: r).take 4, 4)
theorem hexV_digit {x : Nat} (h : x < 16) : hexV (hexDigit x) = (x : Int) := by
  unfold hexV hexDigit
  split <;> split <;> omega
theorem hexDigit_range {x : Nat} (h : x < 16) : 48 ≤ hexDigit x ∧ hexDigit x ≤ 102 := by unfold hexDigit; split <;> omega
/-- runes that are coded -/
def okRune (r : Int) : Prop := 0 ≤ r ∧ r ≤ 1114111 ∧ (r < 55296 ∨ 57343 < r)
theorem valid_ok {r : Int} (h : okRune r) : validRune r = true := by
  unfold okRune at h
  unfold validRune
  simp
  omega
theorem unq_enc {r : Int} (h : okRune r) (h34 : r ≠ 92) (rest : List Int) : unq (encodeRuneZ r ++ rest) = (encodeRuneZ r, (encodeRuneZ r).length) := by
  unfold okRune at h
  unfold encodeRuneZ
  split
  · unfold unq; simp only [List.cons_append, List.nil_append]; rw [if_neg h34, if_pos (by omega)]; rfl
  · split
    · unfold unq; simp only [List.cons_append, List.nil_append]; rw [if_neg (by omega), if_neg (by omega), if_pos (by omega)]; rfl
    · split
      · unfold unq; simp only [List.cons_append, List.nil_append]; rw [if_neg (by omega), if_neg (by omega), if_neg (by omega), if_pos (by omega)]; rfl
      · split
        · unfold unq; simp only [List.cons_append, List.nil_append]; rw [if_neg (by omega), if_neg (by omega), if_neg (by omega), if_neg (by omega)]; rfl
        · omega
theorem unq_two {e v : Int} (rest : List Int) (h : unq (92 :: e :: rest) = ([v], 2)) (hv : 0 ≤ v ∧ v ≤ 127) : unq ([92, e] ++ rest) = (encodeRuneZ v, ([92, e] : List Int).length) := by
  rw [encodeRuneZ_one hv.1 hv.2]
  exact h
theorem unq_esc (T : PrintTabs) {r : Int} (h : okRune r) (rest : List Int) : unq (escRune T r ++ rest) = (encodeRuneZ r, (escRune T r).length) := by
  have hr := h
  unfold okRune at hr
  unfold escRune
  by_cases h0 : r = 34 ∨ r = 92
  · rw [if_pos h0]
    rcases h0 with rfl | rfl <;> rfl
  rw [if_neg h0]
  by_cases h1 : isPrintR T r = true
  · rw [if_pos h1]; exact unq_enc h (by omega) rest
  rw [if_neg h1]
  by_cases c1 : r = 7
  · subst c1; rfl
  rw [if_neg c1]
  by_cases c2 : r = 8
  · subst c2; rfl
  rw [if_neg c2]
  by_cases c3 : r = 12
  · subst c3; rfl
  rw [if_neg c3]
  by_cases c4 : r = 10
  · subst c4; rfl
  rw [if_neg c4]
  by_cases c5 : r = 13
  · subst c5; rfl
  rw [if_neg c5]
  by_cases c6 : r = 9
  · subst c6; rfl
  rw [if_neg c6]
  by_cases c7 : r = 11
  · subst c7; rfl
  rw [if_neg c7]
  obtain ⟨n, rfl⟩ := Int.eq_ofNat_of_zero_le hr.1
  by_cases c8 : (n : Int) < 32 ∨ (n : Int) = 127
  · rw [if_pos c8]
    have e1 := hexV_digit (x := n / 16) (by omega)
    have e2 := hexV_digit (x := n % 16) (by omega)
    show unq (92 :: 120 :: hexDigit (n / 16) :: hexDigit (n % 16) :: rest) = _
    rw [encodeRuneZ_one (by omega) (by omega)]
    unfold unq
    simp only [if_pos, e1, e2]
    simp
    omega
  rw [if_neg c8, if_neg (by rw [valid_ok h]; decide)]
  by_cases c9 : (n : Int) < 65536
  · rw [if_pos c9]
    have e1 := hexV_digit (x := n / 16 ^ 3 % 16) (by omega)
    have e2 := hexV_digit (x := n / 16 ^ 2 % 16) (by omega)
    have e3 := hexV_digit (x := n / 16 ^ 1 % 16) (by omega)
    have e4 := hexV_digit (x := n / 16 ^ 0 % 16) (by omega)
    show unq (92 :: 117 :: hexDigit (n / 16 ^ 3 % 16) :: hexDigit (n / 16 ^ 2 % 16) :: hexDigit (n / 16 ^ 1 % 16) :: hexDigit (n / 16 ^ 0 % 16) :: rest) = _
    unfold unq
    simp only [e1, e2, e3, e4]
    rw [if_pos trivial, if_neg (by decide), if_pos trivial]
    refine Prod.ext ?_ rfl
    show encodeRuneZ _ = encodeRuneZ _
    congr 1
    omega
  · rw [if_neg c9]
    have e1 := hexV_digit (x := n / 16 ^ 7 % 16) (by omega)
    have e2 := hexV_digit (x := n / 16 ^ 6 % 16) (by omega)
    have e3 := hexV_digit (x := n / 16 ^ 5 % 16) (by omega)
    have e4 := hexV_digit (x := n / 16 ^ 4 % 16) (by omega)
    have e5 := hexV_digit (x := n / 16 ^ 3 % 16) (by omega)
    have e6 := hexV_digit (x := n / 16 ^ 2 % 16) (by omega)
    have e7 := hexV_digit (x := n / 16 ^ 1 % 16) (by omega)
    have e8 := hexV_digit (x := n / 16 ^ 0 % 16) (by omega)
    show unq (92 :: 85 :: hexDigit (n / 16 ^ 7 % 16) :: hexDigit (n / 16 ^ 6 % 16) :: hexDigit (n / 16 ^ 5 % 16) :: hexDigit (n / 16 ^ 4 % 16) :: hexDigit (n / 16 ^ 3 % 16) :: hexDigit (n / 16 ^ 2 % 16) :: hexDigit (n / 16 ^ 1 % 16) :: hexDigit (n / 16 ^ 0 % 16) :: rest) = _
    unfold unq
    simp only [e1, e2, e3, e4, e5, e6, e7, e8]
    rw [if_pos trivial, if_neg (by decide), if_neg (by decide), if_pos trivial]
    refine Prod.ext ?_ rfl
    show encodeRuneZ _ = encodeRuneZ _
    congr 1
    omega
/-- no coded word begins with a quotation mark -/
theorem esc_head (T : PrintTabs) {r : Int} (h : okRune r) : ∃ c l, escRune T r = c :: l ∧ c ≠ 34 := by
  have hr := h
  unfold okRune at hr
  unfold escRune
  by_cases h0 : r = 34 ∨ r = 92
  · rw [if_pos h0]; exact ⟨92, _, rfl, by decide⟩
  rw [if_neg h0]
  by_cases h1 : isPrintR T r = true
  · rw [if_pos h1]
    unfold encodeRuneZ
    split
    · exact ⟨r, [], rfl, by omega⟩
    · split
      · exact ⟨_, _, rfl, by omega⟩
      · split
        · exact ⟨_, _, rfl, by omega⟩
        · split
          · exact ⟨_, _, rfl, by omega⟩
          · exact ⟨_, _, rfl, by decide⟩
  rw [if_neg h1]
  by_cases c0 : r = 7
  · rw [if_pos c0]; exact ⟨92, _, rfl, by decide⟩
  rw [if_neg c0]
  by_cases c1 : r = 8
  · rw [if_pos c1]; exact ⟨92, _, rfl, by decide⟩
  rw [if_neg c1]
  by_cases c2 : r = 12
  · rw [if_pos c2]; exact ⟨92, _, rfl, by decide⟩
  rw [if_neg c2]
  by_cases c3 : r = 10
  · rw [if_pos c3]; exact ⟨92, _, rfl, by decide⟩
  rw [if_neg c3]
  by_cases c4 : r = 13
  · rw [if_pos c4]; exact ⟨92, _, rfl, by decide⟩
  rw [if_neg c4]
  by_cases c5 : r = 9
  · rw [if_pos c5]; exact ⟨92, _, rfl, by decide⟩
  rw [if_neg c5]
  by_cases c6 : r = 11
  · rw [if_pos c6]; exact ⟨92, _, rfl, by decide⟩
  rw [if_neg c6]
  by_cases c7 : r < 32 ∨ r = 127
  · rw [if_pos c7]; exact ⟨92, _, rfl, by decide⟩
  rw [if_neg c7]
  by_cases c8 : validRune r = false
  · rw [if_pos c8]; exact ⟨92, _, rfl, by decide⟩
  rw [if_neg c8]
  by_cases c9 : r < 65536
  · rw [if_pos c9]; exact ⟨92, _, rfl, by decide⟩
  rw [if_neg c9]
  exact ⟨92, _, rfl, by decide⟩
/-- each number of a coded word is a byte's -/
theorem esc_byte (T : PrintTabs) {r : Int} (h : okRune r) : ∀ x ∈ escRune T r, 0 ≤ x ∧ x < 256 := by
  have hr := h
  unfold okRune at hr
  have hx : ∀ (n k : Nat), ∀ x ∈ hexDigits n k, 0 ≤ x ∧ x < 256 := fun n k => by
    induction k with
    | zero => intro x hx; cases hx
    | succ k ih =>
      intro x hx
      rcases List.mem_cons.1 hx with rfl | hx
      · have := hexDigit_range (x := n / 16 ^ k % 16) (by omega); omega
      · exact ih x hx
  have two : ∀ e : Int, 0 ≤ e → e < 256 → ∀ x ∈ ([92, e] : List Int), 0 ≤ x ∧ x < 256 := fun e h1 h2 x hx => by simp at hx; omega
  unfold escRune
  by_cases h0 : r = 34 ∨ r = 92
  · rw [if_pos h0]; exact two r (by omega) (by omega)
  rw [if_neg h0]
  by_cases h1 : isPrintR T r = true
  · rw [if_pos h1]; exact encodeRuneZ_byte r
  rw [if_neg h1]
  by_cases c0 : r = 7
  · rw [if_pos c0]; exact two _ (by decide) (by decide)
  rw [if_neg c0]
  by_cases c1 : r = 8
  · rw [if_pos c1]; exact two _ (by decide) (by decide)
  rw [if_neg c1]
  by_cases c2 : r = 12
  · rw [if_pos c2]; exact two _ (by decide) (by decide)
  rw [if_neg c2]
  by_cases c3 : r = 10
  · rw [if_pos c3]; exact two _ (by decide) (by decide)
  rw [if_neg c3]
  by_cases c4 : r = 13
  · rw [if_pos c4]; exact two _ (by decide) (by decide)
  rw [if_neg c4]
  by_cases c5 : r = 9
  · rw [if_pos c5]; exact two _ (by decide) (by decide)
  rw [if_neg c5]
  by_cases c6 : r = 11
  · rw [if_pos c6]; exact two _ (by decide) (by decide)
  rw [if_neg c6]
  by_cases c8 : r < 32 ∨ r = 127
  · rw [if_pos c8]
    have e1 := hexDigit_range (x := r.toNat / 16) (by omega)
    have e2 := hexDigit_range (x := r.toNat % 16) (by omega)
    intro x hx
    simp at hx
    omega
  rw [if_neg c8, if_neg (by rw [valid_ok h]; decide)]
  by_cases c9 : r < 65536
  · rw [if_pos c9]
    intro x hx2
    rcases List.mem_cons.1 hx2 with rfl | hx2
    · omega
    · rcases List.mem_cons.1 hx2 with rfl | hx2
      · omega
      · exact hx _ _ x hx2
  · rw [if_neg c9]
    intro x hx2
    rcases List.mem_cons.1 hx2 with rfl | hx2
    · omega
    · rcases List.mem_cons.1 hx2 with rfl | hx2
      · omega
      · exact hx _ _ x hx2
/-- what decode answers of a good rune: its bytes are those that code it -/
theorem decode_good {n b0 b1 b2 b3 R K : Nat} (hn : 1 ≤ n) (h0 : b0 < 256) (h1 : b1 < 256) (_h2 : b2 < 256) (h3 : b3 < 256) (h : decodeN n b0 b1 b2 b3 = (R, K)) (hg : ¬ (K = 1 ∧ R = 65533)) :
    okRune (R : Int) ∧ K ≤ n ∧ encodeRuneZ (R : Int) = ([(b0 : Int), b1, b2, b3].take K) ∧ 1 ≤ K ∧ K ≤ 4 := by
  unfold decodeN at h
  unfold okRune
  split at h
  · cases h
    refine ⟨by omega, hn, ?_, by omega, by omega⟩
    rw [encodeRuneZ_one (by omega) (by omega)]; rfl
  · split at h
    · split at h
      · rename_i k1 k2 k3
        cases h
        refine ⟨by omega, by omega, ?_, by omega, by omega⟩
        rw [encodeRuneZ_two (by omega) (by omega)]
        show [_, _] = [(b0 : Int), (b1 : Int)]
        congr 1
        · omega
        · congr 1; omega
      · cases h; exact absurd ⟨rfl, rfl⟩ hg
    · split at h
      · split at h
        · rename_i k1 k2 k3 k4
          cases h
          refine ⟨by omega, by omega, ?_, by omega, by omega⟩
          rw [encodeRuneZ_three (by omega)]
          show [_, _, _] = [(b0 : Int), (b1 : Int), (b2 : Int)]
          congr 1
          · omega
          · congr 1
            · omega
            · congr 1; omega
        · cases h; exact absurd ⟨rfl, rfl⟩ hg
      · split at h
        · split at h
          · rename_i k1 k2 k3 k4 k5
            cases h
            refine ⟨by omega, by omega, ?_, by omega, by omega⟩
            rw [encodeRuneZ_four (by omega) (by omega)]
            show [_, _, _, _] = [(b0 : Int), (b1 : Int), (b2 : Int), (b3 : Int)]
            congr 1
            · omega
            · congr 1
              · omega
              · congr 1
                · omega
                · congr 1; omega
          · cases h; exact absurd ⟨rfl, rfl⟩ hg
        · cases h; exact absurd ⟨rfl, rfl⟩ hg
end Go.Law

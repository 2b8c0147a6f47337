/-
  Scripts that bytes tell (layer 12), plain: what stands at each place of the bytes.
-/
import Derived.Test.YtlkbfnpncomifaaDoorSlices
namespace Go.Law
open Go.RowKit
/-- the byte at a place; 0 behind the end -/
def at_ (b : List Int) (i : Nat) : Int := b.getD i 0
def Bytes (b : List Int) : Prop := ∀ x ∈ b, 0 ≤ x ∧ x ≤ 255
theorem Bytes.at {b : List Int} (h : Bytes b) (i : Nat) : 0 ≤ at_ b i ∧ at_ b i ≤ 255 := by
  unfold at_
  rcases Nat.lt_or_ge i b.length with hi | hi
  · rw [List.getD_eq_getElem?_getD, List.getElem?_eq_getElem hi]; exact h _ (List.getElem_mem hi)
  · rw [List.getD_eq_getElem?_getD, List.getElem?_eq_none hi]; simp
theorem at_drop (b : List Int) (i k : Nat) : at_ (b.drop i) k = at_ b (i + k) := by
  unfold at_; rw [List.getD_eq_getElem?_getD, List.getD_eq_getElem?_getD, List.getElem?_drop]
theorem at_behind {b : List Int} {i : Nat} (h : b.length ≤ i) : at_ b i = 0 := by
  unfold at_; rw [List.getD_eq_getElem?_getD, List.getElem?_eq_none h]; rfl
def userL : List ByteArray := [⟨#[117, 48]⟩, ⟨#[117, 49]⟩, ⟨#[117, 50]⟩, ⟨#[117, 51]⟩, ⟨#[117, 52]⟩, ⟨#[117, 53]⟩, ⟨#[117, 54]⟩, ⟨#[117, 55]⟩, ⟨#[]⟩, ⟨#[115, 101, 118, 101, 110, 116, 101, 101, 110, 32, 98, 121, 116, 101, 115, 46, 46]⟩]
def userB (x : Int) : ByteArray := userL.getD (x % 10).toNat ⟨#[]⟩
def longI (n : Int) : Int := if n < 192 then n else 18446744073709551615 - (255 - n)
theorem longI_ok {n : Int} (h : 0 ≤ n ∧ n ≤ 255) : 0 ≤ longI n ∧ longI n ≤ 18446744073709551615 := by unfold longI; split <;> omega
abbrev Pk := Int × Int × Int
def pickP (a c : Int) : Pk := if a % 16 < 8 then (0, a % 16, 0) else if a % 16 ≤ 12 then (1, 0, 0) else (2, 0, longI c)
def cellsPk (q : Pk) : List Value := [.int .i64 q.1, .int .i64 q.2.1, .int .u64 q.2.2]
/-- an op that bytes tell -/
structure OpP where
  kind : Int
  user : ByteArray
  id : Int
  st : Int
  pr : Int
  ttl : Int
  us : List ByteArray
def usersAt (b : List Int) (i n : Nat) : List ByteArray := (List.range n).map fun k => userB (at_ b (i + k))
def opAt (b : List Int) (i : Nat) : OpP :=
  if at_ b i % 11 = 1 then ⟨at_ b i % 11, userB (at_ b (i + 1)), at_ b (i + 2) % 4, at_ b (i + 3) % 11, at_ b (i + 4) % 10, longI (at_ b (i + 5)), []⟩
  else if at_ b i % 11 = 2 then ⟨at_ b i % 11, userB (at_ b (i + 1)), at_ b (i + 2) % 4, 0, 0, longI (at_ b (i + 3)), []⟩
  else if at_ b i % 11 = 3 then ⟨at_ b i % 11, userB (at_ b (i + 1)), at_ b (i + 2) % 4, 0, 0, 0, []⟩
  else if at_ b i % 11 = 5 then ⟨at_ b i % 11, userB (at_ b (i + 1)), 0, 0, 0, 0, usersAt b (i + 3) (at_ b (i + 2) % 10).toNat⟩
  else ⟨at_ b i % 11, userB (at_ b (i + 1)), 0, 0, 0, 0, []⟩
def opLen (b : List Int) (i : Nat) : Nat :=
  if at_ b i % 11 = 1 then 6 else if at_ b i % 11 = 2 then 4 else if at_ b i % 11 = 3 then 3 else if at_ b i % 11 = 5 then 3 + (at_ b (i + 2) % 10).toNat else 2
def opsPos (b : List Int) (i : Nat) : Nat → Nat
  | 0 => i
  | k + 1 => opsPos b i k + opLen b (opsPos b i k)
def opsTo (b : List Int) (i k : Nat) : List OpP := (List.range k).map fun n => opAt b (opsPos b i n)
def manyAt (b : List Int) (i : Nat) : Nat := (at_ b i % 41).toNat
def opsAt (b : List Int) (i : Nat) : List OpP := opsTo b (i + 1) (manyAt b i)
def opsEnd (b : List Int) (i : Nat) : Nat := opsPos b (i + 1) (manyAt b i)
def clPos (b : List Int) : Nat → Nat
  | 0 => 8
  | k + 1 => opsEnd b (clPos b k)
def clTo (b : List Int) (k : Nat) : List (List OpP) := (List.range k).map fun n => opsAt b (clPos b n)
def clN (b : List Int) : Nat := (1 + at_ b 7 % 8).toNat
def clients (b : List Int) : List (List OpP) := clTo b (clN b)
def clEnd (b : List Int) : Nat := clPos b (clN b)
def pkN (b : List Int) (i : Nat) : Nat := min 20000 ((b.length - i + 1) / 2)
def pkTo (b : List Int) (i k : Nat) : List Pk := (List.range k).map fun n => pickP (at_ b (i + 2 * n)) (at_ b (i + 2 * n + 1))
def picks (b : List Int) : List Pk := pkTo b (clEnd b) (pkN b (clEnd b))
theorem pkN_iff (b : List Int) (i k : Nat) : k < pkN b i ↔ i + 2 * k < b.length ∧ k < 20000 := by unfold pkN; omega
/-- the sizes -/
def confB (b : List Int) : List Value := [.int .i64 (1 + at_ b 0 % 8), .int .i64 (1 + at_ b 1 % 8), .int .i64 (1 + at_ b 2 % 16), .int .i64 (1 + at_ b 3 % 8), .int .i64 (at_ b 4 % 5), .int .u64 (at_ b 5), .int .u64 (longI (at_ b 6))]
theorem usersAt_snoc (b : List Int) (i n : Nat) : usersAt b i (n + 1) = usersAt b i n ++ [userB (at_ b (i + n))] := by simp [usersAt, List.range_succ]
theorem opsTo_snoc (b : List Int) (i n : Nat) : opsTo b i (n + 1) = opsTo b i n ++ [opAt b (opsPos b i n)] := by simp [opsTo, List.range_succ]
theorem clTo_snoc (b : List Int) (n : Nat) : clTo b (n + 1) = clTo b n ++ [opsAt b (clPos b n)] := by simp [clTo, List.range_succ]
theorem pkTo_snoc (b : List Int) (i n : Nat) : pkTo b i (n + 1) = pkTo b i n ++ [pickP (at_ b (i + 2 * n)) (at_ b (i + 2 * n + 1))] := by simp [pkTo, List.range_succ]
theorem usersAt_len (b : List Int) (i n : Nat) : (usersAt b i n).length = n := by simp [usersAt]
theorem opsTo_len (b : List Int) (i n : Nat) : (opsTo b i n).length = n := by simp [opsTo]
theorem clTo_len (b : List Int) (n : Nat) : (clTo b n).length = n := by simp [clTo]
theorem pkTo_len (b : List Int) (i n : Nat) : (pkTo b i n).length = n := by simp [pkTo]
theorem manyAt_le {b : List Int} (h : Bytes b) (i : Nat) : manyAt b i ≤ 40 := by unfold manyAt; have := h.at i; omega
theorem clN_le {b : List Int} (h : Bytes b) : 1 ≤ clN b ∧ clN b ≤ 8 := by unfold clN; have := h.at 7; omega
theorem opLen_le {b : List Int} (h : Bytes b) (i : Nat) : opLen b i ≤ 12 := by
  have := h.at (i + 2)
  unfold opLen
  split
  · omega
  · split
    · omega
    · split
      · omega
      · split
        · omega
        · omega
theorem userB_size (x : Int) : (userB x).size ≤ 17 := by
  have : ∀ k : Fin 10, (userL.getD (k : Nat) ⟨#[]⟩).size ≤ 17 := by decide +kernel
  exact this ⟨(x % 10).toNat, by omega⟩
end Go.Law

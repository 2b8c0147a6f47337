/-
  What OpLost needs of the joined words, plain.
-/
import Derived.Test.YtdfonlbbohnfhaaDoorOpRep
namespace Go.Proofs.YtdfonlbbohnfhaaDoor
open Go.RowKit Go.Shelf Go.Lib
namespace Opx
open Go.Law
theorem join_snoc (x : ByteArray) (xs : List ByteArray) (y : ByteArray) : joinB ((x :: xs) ++ [y]) = joinB (x :: xs) ++ ((⟨#[32]⟩ : ByteArray) ++ y) := by
  have aux : ∀ (l : List (List UInt8)) (a b : List UInt8), Lib.join ((a :: l) ++ [b]) [32] = Lib.join (a :: l) [32] ++ ([32] ++ b) := fun l => by
    induction l with
    | nil => intro a b; simp [Lib.join, List.intercalate]
    | cons c r ih =>
      intro a b
      have e1 : Lib.join ((a :: c :: r) ++ [b]) [32] = a ++ ([32] ++ Lib.join ((c :: r) ++ [b]) [32]) := by simp [Lib.join, List.intercalate]
      have e2 : Lib.join (a :: c :: r) [32] = a ++ ([32] ++ Lib.join (c :: r) [32]) := by simp [Lib.join, List.intercalate]
      rw [e1, e2, ih]
      simp
  have h := aux (xs.map (·.data.toList)) x.data.toList y.data.toList
  show (⟨(Lib.join (((x :: xs) ++ [y]).map (·.data.toList)) [32]).toArray⟩ : ByteArray) = _
  have e : ((x :: xs) ++ [y]).map (·.data.toList) = (x.data.toList :: xs.map (·.data.toList)) ++ [y.data.toList] := by simp
  rw [e, h]
  apply ByteArray.ext
  rw [ByteArray.data_append, ByteArray.data_append]
  show _ = (Lib.join ((x :: xs).map (·.data.toList)) [32]).toArray ++ _
  simp
/-- lost tells one word more -/
theorem told_lost (err : Int) (A : Option Addr) (cA : Nat) (vs : List P3) (E : Option Addr) (cE : Nat) (es : List Ev) :
    joinB (toldB ⟨err, A, cA, vs, E, cE, es, true⟩) = joinB (toldB ⟨err, A, cA, vs, E, cE, es, false⟩) ++ ⟨#[32, 108, 111, 115, 116]⟩ := by
  have e : toldB ⟨err, A, cA, vs, E, cE, es, true⟩ = (intB err :: (vs.map pB ++ es.map eB)) ++ [⟨#[108, 111, 115, 116]⟩] := by simp [toldB]
  have e' : toldB ⟨err, A, cA, vs, E, cE, es, false⟩ = intB err :: (vs.map pB ++ es.map eB) := by simp [toldB]
  rw [e, e', join_snoc]
  congr 1
/-- an error alone -/
theorem told_err (k : Nat) (hk : k < 10) (A E : Option Addr) (cA cE : Nat) : joinB (toldB ⟨(k : Int), A, cA, [], E, cE, [], false⟩) = ⟨#[UInt8.ofNat (48 + k)]⟩ := by
  have e : toldB ⟨(k : Int), A, cA, [], E, cE, [], false⟩ = [intB k] := by simp [toldB]
  rw [e]
  have h : ∀ k : Nat, k < 10 → joinB [intB (k : Int)] = ⟨#[UInt8.ofNat (48 + k)]⟩ := by
    intro k hk
    have hj : joinB [intB (k : Int)] = intB (k : Int) := by
      show (⟨(Lib.join ([intB (k : Int)].map (·.data.toList)) [32]).toArray⟩ : ByteArray) = _
      apply ByteArray.ext
      simp [Lib.join, List.intercalate]
    rw [hj]
    have : ∀ k : Fin 10, intB ((k : Nat) : Int) = ⟨#[UInt8.ofNat (48 + (k : Nat))]⟩ := by decide +kernel
    exact this ⟨k, hk⟩
  exact h k hk
theorem RepW.In.below {q : RepW} {w w' : World} (h : q.In w) (hb : Below w.heap.size w w') : q.In w' := ⟨(h.vs.below hb).more hb.size, (h.es.below hb).more hb.size, h.pv, h.ev, h.err, h.lv, h.le⟩
theorem told_word {q : RepW} {w : World} (h : q.In w) : ∀ x ∈ toldB q, x.size ≤ 1300 := by
  intro x hx
  unfold toldB at hx
  rcases List.mem_append.1 hx with hx | hx
  · rcases List.mem_append.1 hx with hx | hx
    · rcases List.mem_cons.1 hx with rfl | hx
      · have := intB_size q.err h.err; omega
      · obtain ⟨p, hp, rfl⟩ := List.mem_map.1 hx
        have h := h.pv p hp
        have := presB_size p.1 p.2.1 p.2.2 h.1 h.2.1 h.2.2
        show (presB _ _ _).size ≤ 1300
        omega
    · obtain ⟨p, hp, rfl⟩ := List.mem_map.1 hx
      obtain ⟨h0, h1, h2, h3, h4, h5, h6, h7, h8⟩ := h.ev p hp
      have i0 := quoteB_size p.us
      have i1 := presB_size p.o1 p.o2 p.o3 h1 h2 h3
      have i2 := presB_size p.n1 p.n2 p.n3 h4 h5 h6
      have i3 := decB_size p.sq.toNat (by omega)
      have e1 : (⟨#[58]⟩ : ByteArray).size = 1 := rfl
      have e2 : (⟨#[62]⟩ : ByteArray).size = 1 := rfl
      have e3 : (⟨#[64]⟩ : ByteArray).size = 1 := rfl
      show (eventB _ _ _ _ _ _ _ _).size ≤ 1300
      unfold eventB
      simp only [ByteArray.size_append, e1, e2, e3]
      omega
  · split at hx
    · obtain rfl := List.mem_singleton.1 hx; decide
    · cases hx
theorem told_size {q : RepW} {w : World} (h : q.In w) : (joinB (toldB q)).size ≤ 1050000 := by
  have h1 := join_le _ 1300 (told_word h)
  have h2 : (toldB q).length ≤ 802 := by
    have hv := h.lv
    have he := h.le
    unfold toldB
    split <;> simp <;> omega
  have := Nat.mul_le_mul_right (1300 + 1) h2
  omega
end Opx
end Go.Proofs.YtdfonlbbohnfhaaDoor

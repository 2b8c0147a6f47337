/-
  What the calls of a queue (layer 3) of numbers come to: New, Put, Len, Lost.
-/
import Derived.Test.YtcpaenoennlboaaBase
import Derived.Test.YtcpaenoennlboaaRings
import Derived.WalkKit
import Derived.WalkSpells
import Derived.WalkLawsBesides
import Derived.Lib.Hide
import Derived.Deep.QuietTactic
import Derived.BigQuiet
import Derived.Deep.RegionLaw
import Derived.Deep.DeepCutAuto
namespace Go.Proofs.Ytcpaenoennlboaa
open Go.RowKit
namespace RingI
/-- block b is a queue of these numbers -/
abbrev At (w : World) (base : Nat) (S : Nat → Prop) (b room : Nat) (zs : List Int) (lost : Bool) : Prop := Law.Ring 51 3 w base S b room (zs.map (.int .i64)) lost
theorem elem : ∃ i, Law.Elem Try.prog 26 3 i (.int .i64 0) 1 8 := Law.Elem.of Try.underlying26 (by kernel_rfl) rfl (by decide)
/-- behind a Put -/
def Put (w : World) (base : Nat) (S : Nat → Prop) (b room : Nat) (zs : List Int) (lost : Bool) (x : Int) (e : Ending) (w' : World) : Prop :=
  e = .returned (.bool (decide (zs.length < room))) ∧ ∃ S', At w' base S' b room (Law.putL room zs x) (lost || decide (room ≤ zs.length)) ∧ Law.Touch w w' S ∧ ∀ k, S' k → S k ∨ w.heap.size ≤ k

set_option maxHeartbeats 400000 in
theorem new (room : Int) (w : World) : Calls Try.prog 9 #[.int .i64 room] w fun e w' => e = .returned (.pointer (some ⟨w.heap.size, 0, none⟩)) ∧ w.alloc (.cells #[.int .i64 (room.toNat : Int), .slice none 0 0, .bool false] 51) = w' := by
  have hm : ((room.toNat : Nat) : Int) = max room 0 := by omega
  have HM := Lib.hid hm
  clear hm
  go_enter Try.func9, Try.ntmps9
  go_wp2_with fail
  · have e1 : max room 0 = 0 := by omega
    go_ret
    exact ⟨rfl, by rw [e1]⟩
  · have e1 : max room 0 = room := by omega
    go_ret
    exact ⟨rfl, by rw [e1]⟩

set_option maxHeartbeats 800000 in
theorem put (x : Int) (zs : List Int) (lost : Bool) (w : World) (base : Nat) (S : Nat → Prop) (b room : Nat) (h : At w base S b room zs lost) (hb : base ≤ w.heap.size) (hl : zs.length ≤ 1000) :
    Calls Try.prog 13 #[.pointer (some ⟨b, 0, none⟩), .int .i64 x] w (Put w base S b room zs lost x) := by
  obtain ⟨v, hv⟩ := h
  obtain ⟨i0, hE⟩ := elem
  have HE := Lib.hid hE
  have c0 := hv.box.cell 0
  have c1 := hv.box.cell 1
  have f1 := hv.box.frozen 1
  have f2 := hv.box.frozen 2
  have c2 := hv.box.cell 2
  have l0 := hv.box.lt
  have HV := Lib.hid hv
  obtain ⟨A, c, rfl, hc⟩ := Law.own_shape hv.row
  clear hv hE
  simp only [List.length_map] at c1 hc HV
  simp only [List.getElem?_toArray, List.getElem?_cons_zero, List.getElem?_cons_succ] at c0 c1 c2
  by_cases hlt : zs.length < room
  · have d1 : decide ((room : Int) ≤ (zs.length : Int)) = false := by simp; omega
    have HP : Hid (decide (zs.length < room) = true ∧ decide (room ≤ zs.length) = false ∧ Law.putL room zs x = zs ++ [x]) := by exact ⟨by simp; omega, by simp; omega, Law.putL_yes hlt⟩
    have HR := Lib.hid (HV.out.row.alloc (.cells #[.int .i64 x] 3))
    go_enter Try.func13, Try.ntmps13
    go_wp2_with fail
    go_quiet (fail)
    go_wp2_with (at_builtin; refine wpList_append_own_at _ rfl _ _ 26 rfl 0 3 i0 (.int .i64 0) 1 8 HE.out.ut HE.out.info HE.out.zero HE.out.sz HE.out.by_ HE.out.cells HE.out.pos _ _ _ rfl (by exact ((HV.out.drewN nq).row.alloc _)) ⟨w.heap.size, 0, none⟩ 1 1 [.int .i64 x] rfl rfl (Law.new_one _ _ _) (Law.one_int _ _) (by simp [maxLen]; omega) (by simp; omega) (Nat.zero_le _) ?_)
    intro v' w1 hown hg _ hv'
    have ⟨R1, R2, R3⟩ := (HV.out.drewN nq).next (by decide) hb (v' := v') (u := .int .i64 x) (by simpa using hown) hg (by simpa using hv')
    have f1' := R1.frozen 1
    have c1' := R1.cell 1
    have l1' := R1.lt
    simp only [List.getElem?_toArray, List.getElem?_cons_zero, List.getElem?_cons_succ] at c1'
    have HR2 := Lib.hid R2
    have HR3 := Lib.hid R3
    obtain ⟨g', cap', rfl⟩ := ownsRow_succ hown
    clear hown hg hv' R1 R2 R3
    go_wp2_with fail
    go_ret
    exact ⟨by rw [HP.out.1]; rfl, (fun k => S k ∨ w.heap.size ≤ k ∧ k < w1.heap.size), by rw [HP.out.2.1, HP.out.2.2, Bool.or_false]; unfold At; rw [List.map_append]; exact HR2.out, (Law.Touch.drewN w nq S).trans HR3.out (fun k hk => .inl hk), fun k hk => hk.imp id And.left⟩
  · have d1 : decide ((room : Int) ≤ (zs.length : Int)) = true := by simp; omega
    have HP : Hid (decide (zs.length < room) = false ∧ decide (room ≤ zs.length) = true ∧ Law.putL room zs x = zs) := by exact ⟨by simp; omega, by simp; omega, Law.putL_no hlt⟩
    go_enter Try.func13, Try.ntmps13
    go_wp2_with fail
    go_quiet (fail)
    go_wp2_with fail
    go_ret
    exact ⟨by rw [HP.out.1]; rfl, S, by rw [HP.out.2.1, HP.out.2.2, Bool.or_true]; exact (HV.out.drewN nq).mark (by decide), (Law.Touch.drewN w nq S).trans (Law.Touch.store _ _ _ HV.out.inn) (fun k hk => .inl hk), fun k hk => .inl hk⟩
set_option maxHeartbeats 400000 in
theorem len {w : World} {base : Nat} {S : Nat → Prop} {b room : Nat} {zs : List Int} {lost : Bool} (h : At w base S b room zs lost) :
    Calls Try.prog 16 #[.pointer (some ⟨b, 0, none⟩)] w fun e w' => e = .returned (.int .i64 (zs.length : Int)) ∧ w = w' := by
  obtain ⟨v, hv⟩ := h
  have c1 := hv.box.cell 1
  obtain ⟨A, c, rfl, hc⟩ := Law.own_shape hv.row
  clear hv
  simp only [List.getElem?_toArray, List.getElem?_cons_zero, List.getElem?_cons_succ, List.length_map] at c1
  go_enter Try.func16, Try.ntmps16
  go_wp2
  go_ret
  exact ⟨rfl, rfl⟩
set_option maxHeartbeats 400000 in
theorem lost {w : World} {base : Nat} {S : Nat → Prop} {b room : Nat} {zs : List Int} {lost : Bool} (h : At w base S b room zs lost) :
    Calls Try.prog 17 #[.pointer (some ⟨b, 0, none⟩)] w fun e w' => e = .returned (.bool lost) ∧ w = w' := by
  obtain ⟨v, hv⟩ := h
  have c1 := hv.box.cell 2
  clear hv
  simp only [List.getElem?_toArray, List.getElem?_cons_zero, List.getElem?_cons_succ] at c1
  go_enter Try.func17, Try.ntmps17
  go_wp2
  go_ret
  exact ⟨rfl, rfl⟩
end RingI
end Go.Proofs.Ytcpaenoennlboaa

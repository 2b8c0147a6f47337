/-
  What the calls of a queue (layer 3) of events come to: New, Put, Len, Lost.
-/
import Derived.Test.YtdkjcheannehhaaGreatBase
import Derived.Test.YtdkjcheannehhaaGreatFeedL
import Derived.WalkKit
import Derived.WalkSpells
import Derived.WalkLawsBesides
import Derived.Lib.Hide
import Derived.StillTailTactics
import Derived.Deep.QuietTactic
import Derived.BigQuiet
import Derived.Deep.RegionLaw
import Derived.Deep.DeepCutAuto
namespace Go.Proofs.YtdkjcheannehhaaGreat
open Go.RowKit
namespace RingE
open Go.Law (Ev flatE cellsE new_E one_E)
/-- block b is a queue of these events -/
abbrev At (w : World) (base : Nat) (S : Nat → Prop) (b room : Nat) (zs : List Ev) (lost : Bool) : Prop := Law.Ringz 168 67 8 w base S b room zs.length (flatE zs) lost
theorem elem : ∃ i, Law.Elem Tryz.prog 41 67 i (.agg #[.string ⟨#[]⟩, .int .i64 0, .int .i64 0, .int .i64 0, .int .i64 0, .int .i64 0, .int .i64 0, .int .u64 0]) 8 72 := Law.Elem.of Tryz.underlying41 (by kernel_rfl) rfl (by decide)
/-- behind a Put -/
def Put (w : World) (base : Nat) (S : Nat → Prop) (b room : Nat) (zs : List Ev) (lost : Bool) (x : Ev) (e : Ending) (w' : World) : Prop :=
  e = .returned (.bool (decide (zs.length < room))) ∧ ∃ S', At w' base S' b room (Law.putL room zs x) (lost || decide (room ≤ zs.length)) ∧ Law.Touch w w' S ∧ (∀ k, S' k → S k ∨ w.heap.size ≤ k) ∧ ∀ t, t ≠ 168 → t ≠ 67 → Law.Keeps t w w'

set_option maxHeartbeats 400000 in
theorem new (room : Int) (w : World) : Calls Tryz.prog 66 #[.int .i64 room] w fun e w' => e = .returned (.pointer (some ⟨w.heap.size, 0, none⟩)) ∧ w.alloc (.cells #[.int .i64 (room.toNat : Int), .slice none 0 0, .bool false] 168) = w' := by
  have hm : ((room.toNat : Nat) : Int) = max room 0 := by omega
  have HM := Lib.hid hm
  clear hm
  go_enter Tryz.func66, Tryz.ntmps66
  go_wp2_with fail
  · have e1 : max room 0 = 0 := by omega
    go_ret
    exact ⟨rfl, by rw [e1]⟩
  · have e1 : max room 0 = room := by omega
    go_ret
    exact ⟨rfl, by rw [e1]⟩

theorem Evs.of {w : World} {g : Nat} {t : TypeId} {x : Ev} (h : Law.Is w g t x.box) : Law.EvAt w g 0 x := ⟨h.cell' rfl, h.cell' rfl, h.cell' rfl, h.cell' rfl, h.cell' rfl, h.cell' rfl, h.cell' rfl, h.cell' rfl⟩
set_option maxRecDepth 100000 in
set_option maxHeartbeats 1600000 in
theorem put (x : Ev) (zs : List Ev) (lost : Bool) (w : World) (base : Nat) (S : Nat → Prop) (b room : Nat) (h : At w base S b room zs lost) (hb : base ≤ w.heap.size) (hl : zs.length ≤ 1000) :
    Calls Tryz.prog 109 #[.pointer (some ⟨b, 0, none⟩), x.val] w (Put w base S b room zs lost x) := by
  obtain ⟨v, hv⟩ := h
  obtain ⟨i0, hE⟩ := elem
  have HE := Lib.hid hE
  have b1 : Below w.heap.size w (w.alloc (.cells x.box 67)) := (Below.refl _ w).alloc (Nat.le_refl _) _
  have hv1 := hv.below b1
  have hi1 : Law.Is (w.alloc (.cells x.box 67)) w.heap.size 67 x.box := Law.Is.new _ _ _ rfl
  have hs1 : w.heap.size < (w.alloc (.cells x.box 67)).heap.size := by simp
  have T1 := Lib.hid (Law.Touch.of_below b1 S)
  have K1 : Hid (∀ t, Law.Keeps t w (w.alloc (.cells x.box 67))) := fun t => Law.Keeps.alloc _
  have HV := Lib.hid hv1
  have HI := Lib.hid hi1
  obtain ⟨A, c, rfl, hc⟩ := Law.own_shape hv.row
  have c0 := hv1.box.cell 0
  have c1 := hv1.box.cell 1
  simp only [List.getElem?_toArray, List.getElem?_cons_zero, List.getElem?_cons_succ] at c0 c1
  clear hv hE b1 hv1 hi1
  by_cases hlt : zs.length < room
  · have d1 : decide ((room : Int) ≤ (zs.length : Int)) = false := by simp; omega
    have HP : Hid (decide (zs.length < room) = true ∧ decide (room ≤ zs.length) = false ∧ Law.putL room zs x = zs ++ [x]) := by exact ⟨by simp; omega, by simp; omega, Law.putL_yes hlt⟩
    go_enter Tryz.func109, Tryz.ntmps109
    go_wp2_with fail
    generalize w.alloc (.cells x.box 67) = W1 at *
    go_quiet (fail)
    go_wp2_with fail
    have V2 := Lib.hid (HV.out.drewN nq)
    have I2 := Lib.hid (HI.out.drewN nq)
    have T2 := Lib.hid (T1.out.trans (Law.Touch.drewN W1 nq S) (fun k hk => .inl hk))
    have K2 : Hid (∀ t, Law.Keeps t w (W1.drewN nq)) := fun t => (K1.out t).trans (Law.Keeps.drewN t W1 nq)
    have hs2 : w.heap.size < (W1.drewN nq).heap.size := hs1
    clear HV HI T1 K1 hs1 c0 c1
    generalize W1.drewN nq = W2 at *
    have c1 := V2.out.box.cell 1
    simp only [List.getElem?_toArray, List.getElem?_cons_zero, List.getElem?_cons_succ] at c1
    obtain ⟨e0, e1, e2, e3, e4, e5, e6, e7⟩ := Evs.of I2.out
    simp only [Nat.zero_add] at e1 e2 e3 e4 e5 e6 e7
    have O2 := Lib.hid (V2.out.row.alloc (.cells x.box 67))
    have V3 : Hid (Law.RingzV _ _ _ W2.drew _ _ _ _ _ _ _ _) := V2.out.drewN 1
    have T3 : Hid (Law.Touch w W2.drew S) := T2.out.trans (Law.Touch.drewN W2 1 S) (fun k hk => .inl hk)
    have K3 : Hid (∀ t, Law.Keeps t w W2.drew) := fun t => (K2.out t).trans (Law.Keeps.drewN t W2 1)
    have hs3 : w.heap.size < W2.drew.heap.size := hs2
    have l0 := V2.out.box.lt
    have c1a : (W2.alloc (.cells x.box 67)).cell? ⟨b, 1, none⟩ = some (.slice A zs.length c) := (World.cell?_alloc_lt W2 _ ⟨b, 1, none⟩ l0).trans c1
    go_region_law (refine Law.step_append_at (base := 0) (t := 41) rfl (.tmp 22) (.tmp 24) rfl HE.out (.slice A zs.length c) zs.length (flatE zs) (by simp [Act.eval]) (by exact O2.out) ⟨W2.heap.size, 0, none⟩ 1 1 (cellsE x) (by simp [Act.eval]) (by rfl) (by exact new_E W2 x _ rfl) (one_E x) (by unfold maxLen; omega) (by omega) (by omega) ?_; intro v' w1 hown hg hv'; have ⟨R1, R2, R3⟩ := V3.out.next (by decide) (by omega) (v' := v') (us := cellsE x) hown hg (by simpa using hv'); have f1' := R1.frozen 1; have c1' := R1.cell 1; have l1' := R1.lt; simp only [List.getElem?_toArray, List.getElem?_cons_zero, List.getElem?_cons_succ] at c1'; have HR2 := Lib.hid R2; have HR3 := Lib.hid R3; have HK : Hid (∀ t, t ≠ 168 → t ≠ 67 → Law.Keeps t w (w1.setCell ⟨b, 1, none⟩ v')) := fun t h1 h2 => (((K3.out t).trans (Law.Keeps.alloc _)).trans (Law.Keeps.grown (V3.out.row.alloc _) hg (Ne.symm h2))).trans (Law.Keeps.store R1 h1 _); obtain ⟨g', cap', rfl⟩ := ownsRow_succ hown; clear hown hg hv' R1 R2 R3)
    all_goals
      go_wp2_with fail
      go_ret
      exact ⟨by rw [HP.out.1]; rfl, (fun k => S k ∨ W2.drew.heap.size ≤ k ∧ k < w1.heap.size), by rw [HP.out.2.1, HP.out.2.2, Bool.or_false]; unfold At; rw [Law.flatE_snoc, List.length_append]; exact HR2.out, T3.out.trans HR3.out (fun k hk => .inl hk), fun k hk => hk.imp id (fun h => by omega), HK.out⟩
  · have d1 : decide ((room : Int) ≤ (zs.length : Int)) = true := by simp; omega
    have HP : Hid (decide (zs.length < room) = false ∧ decide (room ≤ zs.length) = true ∧ Law.putL room zs x = zs) := by exact ⟨by simp; omega, by simp; omega, Law.putL_no hlt⟩
    go_enter Tryz.func109, Tryz.ntmps109
    go_wp2_with fail
    generalize w.alloc (.cells x.box 67) = W1 at *
    go_quiet (fail)
    have c2 := (HV.out.drewN nq).box.cell 2
    have f2 := (HV.out.drewN nq).box.frozen 2
    have l0 := (HV.out.drewN nq).box.lt
    simp only [List.getElem?_toArray, List.getElem?_cons_zero, List.getElem?_cons_succ] at c2
    go_wp2_with fail
    go_ret
    exact ⟨by rw [HP.out.1]; rfl, S, by rw [HP.out.2.1, HP.out.2.2, Bool.or_true]; exact (HV.out.drewN nq).mark (by decide), (T1.out.trans (Law.Touch.drewN W1 nq S) (fun k hk => .inl hk)).trans (Law.Touch.store _ _ _ HV.out.inn) (fun k hk => .inl hk), fun k hk => .inl hk,
      fun t h1 _ => ((K1.out t).trans (Law.Keeps.drewN t W1 nq)).trans (Law.Keeps.store (HV.out.drewN nq).box h1 _)⟩
end RingE
end Go.Proofs.YtdkjcheannehhaaGreat

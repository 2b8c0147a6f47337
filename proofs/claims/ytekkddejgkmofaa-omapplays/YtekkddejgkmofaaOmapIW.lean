/-
  What with, without, least and find of an ordered map (layer 4) of numbers (to texts) come to.
-/
import Derived.Test.YtekkddejgkmofaaOmapI
namespace Go.Proofs.Ytekkddejgkmofaa
open Go.RowKit
namespace OmapI
/-- numbers in their order -/
abbrev lt (a b : Int) : Prop := a < b
theorem tri : Law.Tri lt where
  irr := fun a => Int.lt_irrefl a
  tr := fun h h' => Int.lt_trans h h'
  tri := fun a b => by unfold lt; omega
/-- how two keys lie to each other, as the program asks -/
theorem cmp (k a : Int) : (lt k a ∧ decide (k < a) = true ∧ (a != k) = true) ∨ (k = a ∧ decide (k < k) = false) ∨ (lt a k ∧ decide (k < a) = false ∧ decide (a < k) = true ∧ (a != k) = true) := by
  rcases tri.tri k a with h | h | h
  · exact .inl ⟨h, by simpa using h, by simpa using fun e => tri.ne h e.symm⟩
  · subst h
    exact .inr (.inl ⟨rfl, by simp⟩)
  · exact .inr (.inr ⟨h, by simpa using tri.asym h, by simpa using h, by simpa using fun e => tri.ne h e⟩)

set_option maxRecDepth 100000 in
set_option maxHeartbeats 4000000 in
theorem with_ (k : Int) (v : ByteArray) : ∀ (n : Nat) (w : World) (B : Nat) (p : Option Addr) (xs : List (Int × ByteArray)), xs.length ≤ n → At w B p xs → B ≤ w.heap.size → Law.Rises lt xs → xs.length ≤ 999 →
    Calls Try.prog 40 #[.pointer p, .int .i64 k, .string v] w (Made w (Law.putK lt k v xs)) := by
  intro n
  induction n with
  | zero =>
    intro w B p xs hn h hB _ _
    obtain rfl := List.eq_nil_of_length_eq_zero (by omega : xs.length = 0)
    obtain rfl := h.is_nil
    clear h
    go_enter Try.func40, Try.ntmps40
    go_wp2_with fail
    go_ret
    exact ⟨_, rfl, Law.Tree.new (ls := []) (rs := []) .nil .nil rfl rfl, (Below.refl _ w).alloc (Nat.le_refl _) _⟩
  | succ n ih =>
    intro w B p xs hn h hB hR hx
    cases p with
    | none =>
      obtain rfl := h.of_nil
      exact ih w B none [] (Nat.zero_le _) h hB hR hx
    | some ad =>
      obtain ⟨b, l, r, ls, rs, a, u, rfl, rfl, hb, hi, hl, hr⟩ := (h.wide hB).of_some
      have c0 := hi.cell 0
      have c1 := hi.cell 1
      have c2 := hi.cell 2
      have c3 := hi.cell 3
      have c4 := hi.cell 4
      simp only [List.getElem?_toArray, List.getElem?_cons_zero, List.getElem?_cons_succ] at c0 c1 c2 c3 c4
      have HN : Hid ((ls ++ (a, u) :: rs).length = ls.length + (rs.length + 1)) := by show _ = _; simp
      rw [HN.out] at hn hx
      have HK : Hid (∀ w', Kept w w' → w'.cell? ⟨b, 2, none⟩ = some (.pointer l) ∧ w'.cell? ⟨b, 3, none⟩ = some (.pointer r) ∧ Kept w w') := fun w' K => ⟨K.cell hb c2, K.cell hb c3, K⟩
      have K0 : Kept w (w.drewN 1) := Kept.drew w
      have pl := Law.putK_length lt k v ls
      have pr := Law.putK_length lt k v rs
      rcases cmp k a with ⟨hlt, d1, _⟩ | ⟨rfl, d1⟩ | ⟨hgt, d1, d2, _⟩
      · have HI : Hid (∀ w', Kept w w' → Calls Try.prog 40 #[.pointer l, .int .i64 k, .string v] w' (Next w w' (Law.putK lt k v ls))) := fun w' K =>
          Made.next K (ih w' _ l ls (by omega) (K.after hl) (Nat.le_refl _) hR.left (by omega))
        have HA : Hid (∀ w' p1, Kept w w' → At w' w'.heap.size p1 (Law.putK lt k v ls) → Calls Try.prog 48 #[.pointer (some ⟨b, 0, none⟩), .pointer p1, .pointer r] w' (Next w w' (Law.putK lt k v ls ++ (a, u) :: rs))) := fun w' p1 K t1 =>
          balanced_next c0 c1 hb K t1 (K.after hr) (by omega)
        have HE := Lib.hid (Law.putK_left lt hlt (v := v) (b := u) (ys := rs) ls)
        clear ih h hR hi hl hr hlt c1 c4 pl pr
        go_enter Try.func40, Try.ntmps40
        go_wp2_with fail
        go_region_held3 (fun w' => w'.cell? ⟨b, 2, none⟩ = some (.pointer l) ∧ w'.cell? ⟨b, 3, none⟩ = some (.pointer r) ∧ Kept w w') (exact HK.out _ (by assumption)) (first
          | (go_at_call 40; refine (HI.out _ (by assumption)).mono ?_; rintro e w1 ⟨p1, rfl, t1, K1, _⟩; have T1 := Lib.hid t1; clear t1)
          | (go_at_call 48; refine (HA.out _ _ (by assumption) T1.out).mono ?_; rintro e w2 ⟨p2, rfl, t2, K2, _⟩; have T2 := Lib.hid t2; clear t2))
        go_wp2_with fail
        go_ret
        exact ⟨_, rfl, by rw [HE.out]; exact T2.out, K2⟩
      · have HE := Lib.hid (Law.putK_same lt tri (v := v) (b := u) (ys := rs) ls hR)
        have HL := Lib.hid hl
        have HR := Lib.hid hr
        have HZ : Hid (((ls ++ (k, u) :: rs).length : Int) = ((ls ++ (k, v) :: rs).length : Int)) := by show _ = _; simp
        clear ih h hR hi hl hr pl pr HK K0 HN c1
        generalize (ls ++ (k, u) :: rs).length = m at *
        go_enter Try.func40, Try.ntmps40
        go_wp2_with fail
        go_region_held3 (fun w' => w'.cell? ⟨b, 2, none⟩ = some (.pointer l) ∧ w'.cell? ⟨b, 3, none⟩ = some (.pointer r) ∧ w'.cell? ⟨b, 4, none⟩ = some (.int .i64 (m : Int))) (go_keep) (fail)
        go_wp2_with fail
        go_ret
        exact ⟨_, rfl, by rw [HE.out]; exact Law.Tree.new (HL.out.drewN 1) (HR.out.drewN 1) rfl HZ.out, (Law.below_drewN (Below.refl _ w) 1).alloc (Nat.le_refl _) _⟩
      · have HI : Hid (∀ w', Kept w w' → Calls Try.prog 40 #[.pointer r, .int .i64 k, .string v] w' (Next w w' (Law.putK lt k v rs))) := fun w' K =>
          Made.next K (ih w' _ r rs (by omega) (K.after hr) (Nat.le_refl _) hR.right (by omega))
        have HA : Hid (∀ w' p1, Kept w w' → At w' w'.heap.size p1 (Law.putK lt k v rs) → Calls Try.prog 48 #[.pointer (some ⟨b, 0, none⟩), .pointer l, .pointer p1] w' (Next w w' (ls ++ (a, u) :: Law.putK lt k v rs))) := fun w' p1 K t1 =>
          balanced_next c0 c1 hb K (K.after hl) t1 (by omega)
        have HE := Lib.hid (Law.putK_right lt tri hgt (v := v) (b := u) (ys := rs) ls hR)
        clear ih h hR hi hl hr hgt c1 c4 pl pr
        go_enter Try.func40, Try.ntmps40
        go_wp2_with fail
        go_region_held3 (fun w' => w'.cell? ⟨b, 2, none⟩ = some (.pointer l) ∧ w'.cell? ⟨b, 3, none⟩ = some (.pointer r) ∧ Kept w w') (exact HK.out _ (by assumption)) (first
          | (go_at_call 40; refine (HI.out _ (by assumption)).mono ?_; rintro e w1 ⟨p1, rfl, t1, K1, _⟩; have T1 := Lib.hid t1; clear t1)
          | (go_at_call 48; refine (HA.out _ _ (by assumption) T1.out).mono ?_; rintro e w2 ⟨p2, rfl, t2, K2, _⟩; have T2 := Lib.hid t2; clear t2))
        go_wp2_with fail
        go_ret
        exact ⟨_, rfl, by rw [HE.out]; exact T2.out, K2⟩

end OmapI
end Go.Proofs.Ytekkddejgkmofaa

/-
  What with, without, least and find of an ordered map (layer 4) of texts to entries come to.
-/
import Derived.Test.YtohdlnefgieenaaGreatJ4
import Derived.Test.YtohdlnefgieenaaGreatJ0
import Derived.RangeFuncBox
import Derived.Maps.AppendAt
import Derived.RangeFuncNested
import Derived.RangeFuncLeaves
import Derived.RangeFuncBound
import Derived.RangeFuncCalls
import Derived.Shelf.Abstract
import Derived.OwnWalkIn
import Derived.TacticsInMore
import Derived.LoopNIn
import Derived.LoopIn
import Derived.OrdersIn
namespace Go.Proofs.YtohdlnefgieenaaGreat
open Go.RowKit
namespace OmapB
open Go.Law (EnV)
/-- texts in the order of their bytes -/
abbrev lt (a b : ByteArray) : Prop := a.toList < b.toList
theorem less_eq : ∀ (x y : List UInt8), Op.bytesLess x y = decide (x < y)
  | [], [] => by simp [Op.bytesLess]
  | _ :: _, [] => by simp [Op.bytesLess]
  | [], _ :: _ => by simp [Op.bytesLess]
  | a :: x, b :: y => by
    rw [Op.bytesLess, less_eq x y, Bool.eq_iff_iff]
    simp [List.cons_lt_cons_iff]
theorem ext {a b : ByteArray} (h : a.toList = b.toList) : a = b := by
  rw [ByteArray.toList_eq, ByteArray.toList_eq] at h
  exact ByteArray.ext (Array.toList_inj.1 h)
theorem tri : Law.Tri lt where
  irr := fun a => List.lt_irrefl a.toList
  tr := fun h h' => List.lt_trans h h'
  tri := fun a b => by
    by_cases h : a.toList < b.toList
    · exact .inl h
    · by_cases h' : b.toList < a.toList
      · exact .inr (.inr h')
      · exact .inr (.inl (ext (List.le_antisymm h' h)))
/-- how two keys lie to each other, as the program asks -/
theorem cmp (k a : ByteArray) : (lt k a ∧ Op.bytesLess k.toList a.toList = true ∧ (a.toList == k.toList) = false) ∨ (k = a ∧ Op.bytesLess k.toList k.toList = false) ∨ (lt a k ∧ Op.bytesLess k.toList a.toList = false ∧ (k.toList == a.toList) = false ∧ (a.toList == k.toList) = false) := by
  rcases tri.tri k a with h | h | h
  · exact .inl ⟨h, by rw [less_eq]; simpa using h, by simpa using fun e => tri.ne h (ext e.symm)⟩
  · subst h
    exact .inr (.inl ⟨rfl, by rw [less_eq]; simp⟩)
  · exact .inr (.inr ⟨h, by rw [less_eq]; simpa using tri.asym h, by simpa using fun e => tri.ne h (ext e.symm), by simpa using fun e => tri.ne h (ext e)⟩)

set_option maxRecDepth 100000 in
set_option maxHeartbeats 4000000 in
theorem with_ (k : ByteArray) (v : EnV) : ∀ (n : Nat) (w : World) (B : Nat) (p : Option Addr) (xs : List (ByteArray × EnV)), xs.length ≤ n → At w B p xs → B ≤ w.heap.size → Law.Rises lt xs → xs.length ≤ 999 →
    Calls Tryz.prog 122 #[.pointer p, .string k, .agg #[.slice v.A v.n v.c, .int .i64 v.st, .int .i64 v.pr, .int .i64 v.lv]] w (Made w (Law.putK lt k v xs)) := by
  intro n
  induction n with
  | zero =>
    intro w B p xs hn h hB _ _
    obtain rfl := List.eq_nil_of_length_eq_zero (by omega : xs.length = 0)
    obtain rfl := h.is_nil
    clear h
    go_enter Tryz.func122, Tryz.ntmps122
    go_wp2_with fail
    go_ret
    exact ⟨_, rfl, Law.Tree4.new (ls := []) (rs := []) .nil .nil (by simp) rfl, ((Below.refl _ w).alloc (Nat.le_refl _) _).alloc (by simp) _⟩
  | succ n ih =>
    intro w B p xs hn h hB hR hx
    cases p with
    | none =>
      obtain rfl := h.of_nil
      exact ih w B none [] (Nat.zero_le _) h hB hR hx
    | some ad =>
      obtain ⟨b, l, r, ls, rs, a, u, rfl, rfl, hb, hi, hl, hr⟩ := (h.wide hB).of_some
      have c0 := hi.cell 0
      have c5 := hi.cell 5
      have c6 := hi.cell 6
      have c7 := hi.cell 7
      simp only [List.getElem?_toArray, List.getElem?_cons_zero, List.getElem?_cons_succ] at c0 c5 c6 c7
      have HN : Hid ((ls ++ (a, u) :: rs).length = ls.length + (rs.length + 1)) := by show _ = _; simp
      rw [HN.out] at hn hx
      obtain ⟨W1, hW⟩ : ∃ W1, w.alloc (.cells #[.slice v.A v.n v.c, .int .i64 v.st, .int .i64 v.pr, .int .i64 v.lv] 145) = W1 := ⟨_, rfl⟩
      have KW : Kept w W1 := by rw [← hW]; exact (Below.refl _ w).alloc (Nat.le_refl _) _
      have iB : Law.Is W1 w.heap.size 145 #[.slice v.A v.n v.c, .int .i64 v.st, .int .i64 v.pr, .int .i64 v.lv] := by rw [← hW]; exact Law.Is.new _ _ _ rfl
      have hg : w.heap.size < W1.heap.size := by rw [← hW]; simp
      have hb1 : b < W1.heap.size := by omega
      have d0 := KW.cell hb c0
      have d1 := KW.val hb (val_of hi)
      have hl1 := KW.after hl
      have hr1 := KW.after hr
      have HW := Lib.hid hW
      have HKW := Lib.hid KW
      have HK : Hid (∀ w', Kept W1 w' → (w'.cell? ⟨b, 5, none⟩ = some (.pointer l) ∧ w'.cell? ⟨b, 6, none⟩ = some (.pointer r) ∧ w'.cell? ⟨b, 7, none⟩ = some (.int .i64 ((ls ++ (a, u) :: rs).length : Int)) ∧ w'.cell? ⟨w.heap.size, 0, none⟩ = some (.slice v.A v.n v.c) ∧ w'.cell? ⟨w.heap.size, 1, none⟩ = some (.int .i64 v.st) ∧ w'.cell? ⟨w.heap.size, 2, none⟩ = some (.int .i64 v.pr) ∧ w'.cell? ⟨w.heap.size, 3, none⟩ = some (.int .i64 v.lv)) ∧ Kept W1 w') := fun w' K => ⟨⟨K.cell hb1 (KW.cell hb c5), K.cell hb1 (KW.cell hb c6), K.cell hb1 (KW.cell hb c7), K.cell hg (iB.cell' rfl), K.cell hg (iB.cell' rfl), K.cell hg (iB.cell' rfl), K.cell hg (iB.cell' rfl)⟩, K⟩
      have K0 : Kept W1 (W1.drewN 1) := Kept.drew W1
      have pl := Law.putK_length lt k v ls
      have pr := Law.putK_length lt k v rs
      clear KW hW iB
      rcases cmp k a with ⟨hlt, e1, _⟩ | ⟨rfl, e1⟩ | ⟨hgt, e1, e2, _⟩
      · have HI : Hid (∀ w', Kept W1 w' → Calls Tryz.prog 122 #[.pointer l, .string k, .agg #[.slice v.A v.n v.c, .int .i64 v.st, .int .i64 v.pr, .int .i64 v.lv]] w' (Next W1 w' (Law.putK lt k v ls))) := fun w' K =>
          Made.next K (ih w' _ l ls (by omega) (K.after hl1) (Nat.le_refl _) hR.left (by omega))
        have HA : Hid (∀ w' p1, Kept W1 w' → At w' w'.heap.size p1 (Law.putK lt k v ls) → Calls Tryz.prog 135 #[.pointer (some ⟨b, 0, none⟩), .pointer p1, .pointer r] w' (Next W1 w' (Law.putK lt k v ls ++ (a, u) :: rs))) := fun w' p1 K t1 =>
          balanced_next d0 d1 hb1 K t1 (K.after hr1) (by omega)
        have HE := Lib.hid (Law.putK_left lt hlt (v := v) (b := u) (ys := rs) ls)
        clear ih h hR hi hl hr hlt c5 c6 c7 pl pr hl1 hr1 d0 d1
        generalize (ls ++ (a, u) :: rs).length = m at *
        go_enter Tryz.func122, Tryz.ntmps122
        go_wp2_with fail
        rw [HW.out]
        go_region_held3 (fun w' => (w'.cell? ⟨b, 5, none⟩ = some (.pointer l) ∧ w'.cell? ⟨b, 6, none⟩ = some (.pointer r) ∧ w'.cell? ⟨b, 7, none⟩ = some (.int .i64 (m : Int)) ∧ w'.cell? ⟨w.heap.size, 0, none⟩ = some (.slice v.A v.n v.c) ∧ w'.cell? ⟨w.heap.size, 1, none⟩ = some (.int .i64 v.st) ∧ w'.cell? ⟨w.heap.size, 2, none⟩ = some (.int .i64 v.pr) ∧ w'.cell? ⟨w.heap.size, 3, none⟩ = some (.int .i64 v.lv)) ∧ Kept W1 w') (exact HK.out _ (by assumption)) (first
          | (go_at_call 122; refine (HI.out _ (by assumption)).mono ?_; rintro e w1 ⟨p1, rfl, t1, K1, _⟩; have T1 := Lib.hid t1; clear t1)
          | (go_at_call 135; refine (HA.out _ _ (by assumption) T1.out).mono ?_; rintro e w2 ⟨p2, rfl, t2, K2, _⟩; have T2 := Lib.hid t2; clear t2))
        go_wp2_with fail
        go_ret
        exact ⟨_, rfl, by rw [HE.out]; exact T2.out, Below.trans HKW.out (Below.mono K2 HKW.out.size)⟩
      · have HE := Lib.hid (Law.putK_same lt tri (v := v) (b := u) (ys := rs) ls hR)
        have HL := Lib.hid hl1
        have HR := Lib.hid hr1
        have HZ : Hid (((ls ++ (k, u) :: rs).length : Int) = ((ls ++ (k, v) :: rs).length : Int)) := by show _ = _; simp
        clear ih h hR hi hl hr pl pr HN hl1 hr1 d0 d1 c5 c6 c7
        obtain ⟨z0, z1, z2, z3, z4, z5, z6⟩ := (HK.out W1 (Below.refl _ _)).1
        clear HK K0
        generalize (ls ++ (k, u) :: rs).length = m at *
        go_enter Tryz.func122, Tryz.ntmps122
        go_wp2_with fail
        rw [HW.out]
        go_region_held3 (fun w' => w'.cell? ⟨b, 5, none⟩ = some (.pointer l) ∧ w'.cell? ⟨b, 6, none⟩ = some (.pointer r) ∧ w'.cell? ⟨b, 7, none⟩ = some (.int .i64 (m : Int)) ∧ w'.cell? ⟨w.heap.size, 0, none⟩ = some (.slice v.A v.n v.c) ∧ w'.cell? ⟨w.heap.size, 1, none⟩ = some (.int .i64 v.st) ∧ w'.cell? ⟨w.heap.size, 2, none⟩ = some (.int .i64 v.pr) ∧ w'.cell? ⟨w.heap.size, 3, none⟩ = some (.int .i64 v.lv)) (go_keep) (fail)
        go_wp2_with fail
        go_ret
        exact ⟨_, rfl, by rw [HE.out]; exact Law.Tree4.new (HL.out.drewN 1) (HR.out.drewN 1) rfl HZ.out, (Law.below_drewN HKW.out 1).alloc (by simp; omega) _⟩
      · have HI : Hid (∀ w', Kept W1 w' → Calls Tryz.prog 122 #[.pointer r, .string k, .agg #[.slice v.A v.n v.c, .int .i64 v.st, .int .i64 v.pr, .int .i64 v.lv]] w' (Next W1 w' (Law.putK lt k v rs))) := fun w' K =>
          Made.next K (ih w' _ r rs (by omega) (K.after hr1) (Nat.le_refl _) hR.right (by omega))
        have HA : Hid (∀ w' p1, Kept W1 w' → At w' w'.heap.size p1 (Law.putK lt k v rs) → Calls Tryz.prog 135 #[.pointer (some ⟨b, 0, none⟩), .pointer l, .pointer p1] w' (Next W1 w' (ls ++ (a, u) :: Law.putK lt k v rs))) := fun w' p1 K t1 =>
          balanced_next d0 d1 hb1 K (K.after hl1) t1 (by omega)
        have HE := Lib.hid (Law.putK_right lt tri hgt (v := v) (b := u) (ys := rs) ls hR)
        clear ih h hR hi hl hr hgt c5 c6 c7 pl pr hl1 hr1 d0 d1
        generalize (ls ++ (a, u) :: rs).length = m at *
        go_enter Tryz.func122, Tryz.ntmps122
        go_wp2_with fail
        rw [HW.out]
        go_region_held3 (fun w' => (w'.cell? ⟨b, 5, none⟩ = some (.pointer l) ∧ w'.cell? ⟨b, 6, none⟩ = some (.pointer r) ∧ w'.cell? ⟨b, 7, none⟩ = some (.int .i64 (m : Int)) ∧ w'.cell? ⟨w.heap.size, 0, none⟩ = some (.slice v.A v.n v.c) ∧ w'.cell? ⟨w.heap.size, 1, none⟩ = some (.int .i64 v.st) ∧ w'.cell? ⟨w.heap.size, 2, none⟩ = some (.int .i64 v.pr) ∧ w'.cell? ⟨w.heap.size, 3, none⟩ = some (.int .i64 v.lv)) ∧ Kept W1 w') (exact HK.out _ (by assumption)) (first
          | (go_at_call 122; refine (HI.out _ (by assumption)).mono ?_; rintro e w1 ⟨p1, rfl, t1, K1, _⟩; have T1 := Lib.hid t1; clear t1)
          | (go_at_call 135; refine (HA.out _ _ (by assumption) T1.out).mono ?_; rintro e w2 ⟨p2, rfl, t2, K2, _⟩; have T2 := Lib.hid t2; clear t2))
        go_wp2_with fail
        go_ret
        exact ⟨_, rfl, by rw [HE.out]; exact T2.out, Below.trans HKW.out (Below.mono K2 HKW.out.size)⟩

set_option maxHeartbeats 1000000 in
theorem least {w : World} {B : Nat} {p : Option Addr} {k : ByteArray} {v : EnV} {xs : List (ByteArray × EnV)} (h : At w B p ((k, v) :: xs)) :
    Calls Tryz.prog 136 #[.pointer p] w fun e w' => ∃ b, e = .returned (.pointer (some ⟨b, 0, none⟩)) ∧ w = w' ∧ b < B ∧ w.cell? ⟨b, 0, none⟩ = some (.string k) ∧ Val w b v := by
  have H := Lib.hid h
  clear h
  go_enter Tryz.func136, Tryz.ntmps136
  go_wp2_with fail
  go_loop [0] (fun q => ∃ p' zs, q = .pointer p' ∧ At w B p' ((k, v) :: zs)) (fun q => Law.sizeAt4 w q)
  case atStart => exact ⟨p, xs, rfl, H.out⟩
  case round =>
    obtain ⟨p', zs, rfl, hz⟩ := hrel
    obtain ⟨b, l, r, ls, rs, a, u, rfl, hzs, hb, hi, hl, _⟩ := hz.full (by simp)
    have HM : Hid (Law.sizeAt4 w (.pointer (some ⟨b, 0, none⟩)) = ls.length + (rs.length + 1)) := by show _ = _; rw [hz.size, hzs]; simp
    have HL := Lib.hid hl
    have c0 := hi.cell 0
    have c1 := val_of hi
    have c2 := hi.cell 5
    simp only [List.getElem?_toArray, List.getElem?_cons_zero, List.getElem?_cons_succ] at c0 c1 c2
    have HZ := Lib.hid hzs
    clear hz hi hl hzs H
    cases l with
    | none =>
      obtain rfl := HL.out.of_nil
      have e1 : k = a ∧ v = u := by have := HZ.out; simp at this; exact ⟨this.1.1, this.1.2⟩
      obtain ⟨rfl, rfl⟩ := e1
      go_wp2_with fail
      go_ret
      exact ⟨b, rfl, rfl, hb, c0, c1⟩
    | some ad =>
      obtain ⟨b', l', r', ls', rs', a', u', rfl, rfl, _⟩ := HL.out.of_some
      have HN : Hid (∃ zs', At w B (some ⟨b', 0, none⟩) ((k, v) :: zs')) := by
        have h1 := HL.out
        have h2 := HZ.out
        show ∃ zs', _
        cases ls' with
        | nil =>
          simp at h1 h2
          rw [h2.1.1, h2.1.2]
          exact ⟨_, h1⟩
        | cons q ls' =>
          simp at h1 h2
          rw [← h2.1] at h1
          exact ⟨_, h1⟩
      have HS := Lib.hid HL.out.size
      clear HL HZ
      go_wp2_with fail
      go_round
      case rel =>
        obtain ⟨zs', h'⟩ := HN.out
        exact ⟨_, zs', rfl, h'⟩
      case measure =>
        rw [HS.out, HM.out]
        omega

/-- behind a look for a key -/
def Found (w : World) (B : Nat) (o : Option EnV) (e : Ending) (w' : World) : Prop :=
  w = w' ∧ ((e = .returned (.pointer none) ∧ o = none) ∨ ∃ b u, e = .returned (.pointer (some ⟨b, 0, none⟩)) ∧ b < B ∧ Val w b u ∧ o = some u)

set_option maxHeartbeats 1000000 in
theorem find {w : World} {B : Nat} {p : Option Addr} (k : ByteArray) {xs : List (ByteArray × EnV)} (h : At w B p xs) (hR : Law.Rises lt xs) :
    Calls Tryz.prog 87 #[.pointer p, .string k] w (Found w B (Law.getK k xs)) := by
  have H := Lib.hid h
  have HR := Lib.hid hR
  clear h hR
  go_enter Tryz.func87, Tryz.ntmps87
  go_wp2_with fail
  go_loop [0] (fun q => ∃ p' zs, q = .pointer p' ∧ At w B p' zs ∧ Law.Rises lt zs ∧ Law.getK k zs = Law.getK k xs) (fun q => Law.sizeAt4 w q)
  case atStart => exact ⟨p, xs, rfl, H.out, HR.out, rfl⟩
  case round =>
    obtain ⟨p', zs, rfl, hz, hrz, hg⟩ := hrel
    have HG := Lib.hid hg
    clear H HR hg
    cases p' with
    | none =>
      obtain rfl := hz.of_nil
      clear hz hrz
      go_wp2_with fail
      go_ret
      exact ⟨rfl, .inl ⟨rfl, HG.out.symm⟩⟩
    | some ad =>
      obtain ⟨b, l, r, ls, rs, a, u, rfl, rfl, hb, hi, hl, hr⟩ := hz.of_some
      have HM : Hid (Law.sizeAt4 w (.pointer (some ⟨b, 0, none⟩)) = ls.length + (rs.length + 1)) := by show _ = _; rw [hz.size]; simp
      have c0 := hi.cell 0
      have c1 := val_of hi
      have c2 := hi.cell 5
      have c3 := hi.cell 6
      simp only [List.getElem?_toArray, List.getElem?_cons_zero, List.getElem?_cons_succ] at c0 c1 c2 c3
      have HZ := Lib.hid hrz
      have HL := Lib.hid hl
      have HR := Lib.hid hr
      clear hz hrz hi hl hr
      rcases cmp k a with ⟨hlt, d1, d2⟩ | ⟨rfl, d1⟩ | ⟨hgt, d1, d2, d3⟩
      · have HE := Lib.hid ((Law.getK_left lt tri hlt HZ.out).symm.trans HG.out)
        have HS := Lib.hid HL.out.size
        clear hlt
        go_wp2_with fail
        go_round
        case rel => exact ⟨_, ls, rfl, HL.out, HZ.out.left, HE.out⟩
        case measure => rw [HS.out, HM.out]; omega
      · have HE := Lib.hid ((Law.getK_same lt tri HZ.out).symm.trans HG.out)
        go_wp2_with fail
        go_ret
        exact ⟨rfl, .inr ⟨b, u, rfl, hb, c1, HE.out.symm⟩⟩
      · have HE := Lib.hid ((Law.getK_right lt tri hgt HZ.out).symm.trans HG.out)
        have HS := Lib.hid HR.out.size
        clear hgt
        go_wp2_with fail
        go_round
        case rel => exact ⟨_, rs, rfl, HR.out, HZ.out.right, HE.out⟩
        case measure => rw [HS.out, HM.out]; omega

set_option maxRecDepth 100000 in
set_option maxHeartbeats 4000000 in
theorem without : ∀ (n : Nat) (k : ByteArray) (w : World) (B : Nat) (p : Option Addr) (xs : List (ByteArray × EnV)), xs.length ≤ n → At w B p xs → B ≤ w.heap.size → Law.Rises lt xs → xs.length ≤ 999 →
    Calls Tryz.prog 121 #[.pointer p, .string k] w (Made w (Law.outK k xs)) := by
  intro n
  induction n with
  | zero =>
    intro k w B p xs hn h hB _ _
    obtain rfl := List.eq_nil_of_length_eq_zero (by omega : xs.length = 0)
    obtain rfl := h.is_nil
    clear h
    go_enter Tryz.func121, Tryz.ntmps121
    go_wp2_with fail
    go_ret
    exact ⟨_, rfl, .nil, Below.refl _ w⟩
  | succ n ih =>
    intro k w B p xs hn h hB hR hx
    cases p with
    | none =>
      obtain rfl := h.of_nil
      exact ih k w B none [] (Nat.zero_le _) h hB hR hx
    | some ad =>
      obtain ⟨b, l, r, ls, rs, a, u, rfl, rfl, hb, hi, hl, hr⟩ := (h.wide hB).of_some
      have c0 := hi.cell 0
      have c1 := val_of hi
      have c2 := hi.cell 5
      have c3 := hi.cell 6
      simp only [List.getElem?_toArray, List.getElem?_cons_zero, List.getElem?_cons_succ] at c0 c1 c2 c3
      have HN : Hid ((ls ++ (a, u) :: rs).length = ls.length + (rs.length + 1)) := by show _ = _; simp
      rw [HN.out] at hn hx
      have HK : Hid (∀ w', Kept w w' → w'.cell? ⟨b, 5, none⟩ = some (.pointer l) ∧ w'.cell? ⟨b, 6, none⟩ = some (.pointer r) ∧ Kept w w') := fun w' K => ⟨K.cell hb c2, K.cell hb c3, K⟩
      have K0 : Kept w (w.drewN 1) := Kept.drew w
      have pl := Law.outK_length k ls
      have pr := Law.outK_length k rs
      rcases cmp k a with ⟨hlt, d1, _⟩ | ⟨rfl, d1⟩ | ⟨hgt, d1, d2, _⟩
      · have HI : Hid (∀ w', Kept w w' → Calls Tryz.prog 121 #[.pointer l, .string k] w' (Next w w' (Law.outK k ls))) := fun w' K =>
          Made.next K (ih k w' _ l ls (by omega) (K.after hl) (Nat.le_refl _) hR.left (by omega))
        have HA : Hid (∀ w' p1, Kept w w' → At w' w'.heap.size p1 (Law.outK k ls) → Calls Tryz.prog 135 #[.pointer (some ⟨b, 0, none⟩), .pointer p1, .pointer r] w' (Next w w' (Law.outK k ls ++ (a, u) :: rs))) := fun w' p1 K t1 =>
          balanced_next c0 c1 hb K t1 (K.after hr) (by omega)
        have HE := Lib.hid (Law.outK_left lt tri hlt hR)
        clear ih h hR hi hl hr hlt c1 pl pr
        go_enter Tryz.func121, Tryz.ntmps121
        go_wp2_with fail
        go_region_held3 (fun w' => w'.cell? ⟨b, 5, none⟩ = some (.pointer l) ∧ w'.cell? ⟨b, 6, none⟩ = some (.pointer r) ∧ Kept w w') (exact HK.out _ (by assumption)) (first
          | (go_at_call 121; refine (HI.out _ (by assumption)).mono ?_; rintro e w1 ⟨p1, rfl, t1, K1, _⟩; have T1 := Lib.hid t1; clear t1)
          | (go_at_call 135; refine (HA.out _ _ (by assumption) T1.out).mono ?_; rintro e w2 ⟨p2, rfl, t2, K2, _⟩; have T2 := Lib.hid t2; clear t2))
        go_wp2_with fail
        go_ret
        exact ⟨_, rfl, by rw [HE.out]; exact T2.out, K2⟩
      · have HE := Lib.hid (Law.outK_same lt tri hR)
        have HL := Lib.hid hl
        have HR := Lib.hid hr
        cases l with
        | none =>
          obtain rfl := HL.out.of_nil
          clear ih h hR hi hl hr pl pr HK K0 HN c1
          go_enter Tryz.func121, Tryz.ntmps121
          go_wp2_with fail
          go_ret
          exact ⟨_, rfl, by have := HE.out; simp only [List.nil_append] at this; rw [this]; exact HR.out, Below.refl _ w⟩
        | some la =>
          cases r with
          | none =>
            obtain rfl := HR.out.of_nil
            clear ih h hR hi hl hr pl pr HK K0 HN c1
            go_enter Tryz.func121, Tryz.ntmps121
            go_wp2_with fail
            go_ret
            exact ⟨_, rfl, by rw [HE.out, List.append_nil]; exact HL.out, Below.refl _ w⟩
          | some ra =>
            obtain ⟨nk, nv, rt, rfl⟩ : ∃ nk nv rt, rs = (nk, nv) :: rt := by
              cases rs with
              | nil => have := hr.is_nil; cases this
              | cons q rt => exact ⟨q.1, q.2, rt, rfl⟩
            have hrt : Law.outK nk ((nk, nv) :: rt) = rt := Law.outK_same (xs := []) lt tri hR.right
            have HI : Hid (∀ w', Kept w w' → Calls Tryz.prog 121 #[.pointer (some ra), .string nk] w' (Next w w' rt)) := fun w' K => by
              have := Made.next K (ih nk w' _ (some ra) ((nk, nv) :: rt) (by omega) (K.after hr) (Nat.le_refl _) hR.right (by omega))
              rwa [hrt] at this
            have HA : Hid (∀ b' w' p1, b' < w.heap.size → w.cell? ⟨b', 0, none⟩ = some (.string nk) → Val w b' nv → Kept w w' → At w' w'.heap.size p1 rt →
                Calls Tryz.prog 135 #[.pointer (some ⟨b', 0, none⟩), .pointer (some la), .pointer p1] w' (Next w w' (ls ++ (nk, nv) :: rt))) := fun b' w' p1 hb' e0 e1 K t1 =>
              balanced_next e0 e1 hb' K (K.after hl) t1 (by simp at hx; omega)
            clear ih h hR hi hl hr pl pr HK HN c1 hrt HL
            go_enter Tryz.func121, Tryz.ntmps121
            go_wp2_with fail
            refine (least HR.out).mono ?_
            rintro e w' ⟨nb, rfl, rfl, hnb, n0, n1⟩
            have HB := Lib.hid (HA.out nb · · hnb n0 n1)
            have HK : Hid (∀ w', Kept w w' → w'.cell? ⟨b, 5, none⟩ = some (.pointer (some la)) ∧ w'.cell? ⟨b, 6, none⟩ = some (.pointer (some ra)) ∧ w'.cell? ⟨nb, 0, none⟩ = some (.string nk) ∧ Kept w w') := fun w' K => ⟨K.cell hb c2, K.cell hb c3, K.cell hnb n0, K⟩
            clear HA n1
            go_wp2_with fail
            go_region_held3 (fun w' => w'.cell? ⟨b, 5, none⟩ = some (.pointer (some la)) ∧ w'.cell? ⟨b, 6, none⟩ = some (.pointer (some ra)) ∧ w'.cell? ⟨nb, 0, none⟩ = some (.string nk) ∧ Kept w w') (exact HK.out _ (by assumption)) (first
              | (go_at_call 121; refine (HI.out _ (by assumption)).mono ?_; rintro e w1 ⟨p1, rfl, t1, K1, _⟩; have T1 := Lib.hid t1; clear t1)
              | (go_at_call 135; refine (HB.out _ _ (by assumption) T1.out).mono ?_; rintro e w2 ⟨p2, rfl, t2, K2, _⟩; have T2 := Lib.hid t2; clear t2))
            go_wp2_with fail
            go_ret
            exact ⟨_, rfl, by rw [HE.out]; exact T2.out, K2⟩
      · have HI : Hid (∀ w', Kept w w' → Calls Tryz.prog 121 #[.pointer r, .string k] w' (Next w w' (Law.outK k rs))) := fun w' K =>
          Made.next K (ih k w' _ r rs (by omega) (K.after hr) (Nat.le_refl _) hR.right (by omega))
        have HA : Hid (∀ w' p1, Kept w w' → At w' w'.heap.size p1 (Law.outK k rs) → Calls Tryz.prog 135 #[.pointer (some ⟨b, 0, none⟩), .pointer l, .pointer p1] w' (Next w w' (ls ++ (a, u) :: Law.outK k rs))) := fun w' p1 K t1 =>
          balanced_next c0 c1 hb K (K.after hl) t1 (by omega)
        have HE := Lib.hid (Law.outK_right lt tri hgt hR)
        clear ih h hR hi hl hr hgt c1 pl pr
        go_enter Tryz.func121, Tryz.ntmps121
        go_wp2_with fail
        go_region_held3 (fun w' => w'.cell? ⟨b, 5, none⟩ = some (.pointer l) ∧ w'.cell? ⟨b, 6, none⟩ = some (.pointer r) ∧ Kept w w') (exact HK.out _ (by assumption)) (first
          | (go_at_call 121; refine (HI.out _ (by assumption)).mono ?_; rintro e w1 ⟨p1, rfl, t1, K1, _⟩; have T1 := Lib.hid t1; clear t1)
          | (go_at_call 135; refine (HA.out _ _ (by assumption) T1.out).mono ?_; rintro e w2 ⟨p2, rfl, t2, K2, _⟩; have T2 := Lib.hid t2; clear t2))
        go_wp2_with fail
        go_ret
        exact ⟨_, rfl, by rw [HE.out]; exact T2.out, K2⟩
end OmapB
end Go.Proofs.YtohdlnefgieenaaGreat
/-
  A queue in memory: a block of three cells (its room, its items' slice, whether something was lost) and the slice's own row; which blocks a call may turn. General over programs.
-/
namespace Go.Law
open Go.RowKit

/-- of the blocks that lay in w only those of T may have turned -/
structure Touch (w w' : World) (T : Nat → Prop) : Prop where
  os : w'.os = w.os
  tape : w'.tape = w.tape
  output : w'.output = w.output
  size : w.heap.size ≤ w'.heap.size
  block : ∀ k, k < w.heap.size → ¬ T k → w'.heap[k]? = w.heap[k]?
section
variable {w w' w'' : World} {T T' : Nat → Prop}
theorem Touch.refl (w : World) (T : Nat → Prop) : Touch w w T := ⟨rfl, rfl, rfl, Nat.le_refl _, fun _ _ _ => rfl⟩
theorem Touch.trans (h : Touch w w' T) (h' : Touch w' w'' T') (hT : ∀ k, T' k → T k ∨ w.heap.size ≤ k) : Touch w w'' T :=
  ⟨h'.os.trans h.os, h'.tape.trans h.tape, h'.output.trans h.output, Nat.le_trans h.size h'.size, fun k hk hn =>
    (h'.block k (Nat.lt_of_lt_of_le hk h.size) (fun e => by rcases hT k e with e | e; exact hn e; omega)).trans (h.block k hk hn)⟩
theorem Touch.mono (h : Touch w w' T) (hT : ∀ k, T k → T' k) : Touch w w' T' := ⟨h.os, h.tape, h.output, h.size, fun k hk hn => h.block k hk fun e => hn (hT k e)⟩
theorem Touch.grown {row : Option Nat} (hg : w.grownBy w' row) (h : ∀ k, row = some k → T k) : Touch w w' T :=
  ⟨hg.os, hg.tape, hg.output, hg.size, fun k hk hn => hg.block k hk fun e => hn (h k e.symm)⟩
theorem Touch.alloc (w : World) (o : Obj) (T : Nat → Prop) : Touch w (w.alloc o) T := Touch.grown (World.grownBy_alloc w o none) (fun _ h => by cases h)
theorem Touch.store (w : World) (p : Addr) (u : Value) (h : T p.block) : Touch w (w.setCell p u) T :=
  ⟨rfl, rfl, rfl, by simp, fun k _ hn => Below.heap_setCell w p u k (fun e => hn (by rw [e]; exact h))⟩
theorem Touch.of_below (hb : Below w.heap.size w w') (T : Nat → Prop) : Touch w w' T := ⟨hb.os, hb.tape, hb.output, hb.size, fun k hk _ => hb.block k hk⟩
theorem Touch.below {B : Nat} {a : World} (h : Touch w w' T) (hb : Below B a w) (hT : ∀ k, T k → B ≤ k) (hs : B ≤ w.heap.size) : Below B a w' :=
  hb.trans ⟨h.os, h.tape, h.output, h.size, fun k hk => h.block k (by omega) (fun e => by have := hT k e; omega)⟩
theorem Touch.is {g : Nat} {t : TypeId} {cs : Array Value} (h : Touch w w' T) (hi : Is w g t cs) (hg : ¬ T g) : Is w' g t cs := (h.block g hi.lt hg).trans hi
theorem Touch.own {base : Nat} {e : TypeId} {size n : Nat} {v : Value} {xs : List Value} (h : Touch w w' T) (ho : w.ownsRow base e size v n xs) (hg : ∀ g, v.ownBlock = some g → ¬ T g) : w'.ownsRow base e size v n xs := by
  refine ⟨ho.1, ?_⟩
  rcases ho.2 with hn | ⟨g, cap, cur, rfl, hb, hgg, rest⟩
  · exact .inl hn
  · exact .inr ⟨g, cap, cur, rfl, hb, (h.block g (Array.getElem?_eq_some_iff.1 hgg).1 (hg g rfl)).trans hgg, rest⟩
theorem Touch.seq {lo B : Nat} {A : Option Addr} {xs : List Value} (h : Touch w w' T) (hs : Seq w lo B A xs) (hB : B ≤ w.heap.size) (hT : ∀ k, T k → k < lo ∨ B ≤ k) : Seq w' lo B A xs :=
  hs.keep fun p h1 h2 => World.cell?_of_block (h.block p.block (by omega) fun e => by have := hT _ e; omega)
end

/-- block b is a queue with room for so many, and v is its items' slice; all its blocks are of S -/
structure RingV (t e : TypeId) (w : World) (base : Nat) (S : Nat → Prop) (b room : Nat) (v : Value) (xs : List Value) (lost : Bool) : Prop where
  box : Is w b t #[.int .i64 (room : Int), v, .bool lost]
  row : w.ownsRow 0 e 1 v xs.length xs
  inn : S b
  own : ∀ g, v.ownBlock = some g → S g
  ok : ∀ k, S k → base ≤ k ∧ k < w.heap.size
def Ring (t e : TypeId) (w : World) (base : Nat) (S : Nat → Prop) (b room : Nat) (xs : List Value) (lost : Bool) : Prop := ∃ v, RingV t e w base S b room v xs lost
section
variable {t e : TypeId} {w w' : World} {base b room : Nat} {S T : Nat → Prop} {v : Value} {xs : List Value} {lost : Bool}
theorem Ring.touch (h : Ring t e w base S b room xs lost) (ht : Touch w w' T) (hd : ∀ k, S k → ¬ T k) : Ring t e w' base S b room xs lost := by
  obtain ⟨v, h⟩ := h
  exact ⟨v, ht.is h.box (hd _ h.inn), ht.own h.row (fun g hg => hd _ (h.own g hg)), h.inn, h.own, fun k hk => ⟨(h.ok k hk).1, Nat.lt_of_lt_of_le (h.ok k hk).2 ht.size⟩⟩
theorem Ring.below (h : Ring t e w base S b room xs lost) (hb : Below w.heap.size w w') : Ring t e w' base S b room xs lost := h.touch (Touch.of_below hb fun _ => False) (fun _ _ h => h)
theorem Ring.ok (h : Ring t e w base S b room xs lost) : ∀ k, S k → base ≤ k ∧ k < w.heap.size := by obtain ⟨v, h⟩ := h; exact h.ok
theorem Ring.lt (h : Ring t e w base S b room xs lost) : b < w.heap.size := by obtain ⟨v, h⟩ := h; exact h.box.lt
theorem Ring.inn (h : Ring t e w base S b room xs lost) : S b := by obtain ⟨v, h⟩ := h; exact h.inn
/-- a new queue -/
theorem Ring.new (t e : TypeId) (w : World) (base room : Nat) (hb : base ≤ w.heap.size) {g : Nat} (hg : g = w.heap.size) : Ring t e (w.alloc (.cells #[.int .i64 (room : Int), .slice none 0 0, .bool false] t)) base (fun k => k = g) g room [] false := by
  subst hg
  exact ⟨.slice none 0 0, Is.new _ _ _ rfl, World.ownsRow_nil _ _ _ _, rfl, fun g h => by simp [Value.ownBlock] at h, fun k hk => by subst hk; simp; omega⟩
/-- nothing more went in: it is marked -/
theorem RingV.mark (h : RingV t e w base S b room v xs lost) (hte : e ≠ t) : Ring t e (w.setCell ⟨b, 2, none⟩ (.bool true)) base S b room xs true :=
  ⟨v, h.box.set 2 _ rfl, (Touch.store (T := fun k => k = b) w ⟨b, 2, none⟩ _ rfl).own h.row (fun g hg e' => own_ne h.row h.box hte (e' ▸ hg)), h.inn, h.own, fun k hk => by have := h.ok k hk; simpa using this⟩
/-- one more went in -/
theorem RingV.next (h : RingV t e w base S b room v xs lost) (hte : e ≠ t) (hb : base ≤ w.heap.size) {w1 : World} {v' u : Value} {o : Obj} (hown : w1.ownsRow 0 e 1 v' (xs.length + 1) (xs ++ [u])) (hg : (w.alloc o).grownBy w1 v.ownBlock)
    (hv : v'.ownBlock = v.ownBlock ∨ v'.ownBlock = some (w.alloc o).heap.size) :
    Is w1 b t #[.int .i64 (room : Int), v, .bool lost] ∧ Ring t e (w1.setCell ⟨b, 1, none⟩ v') base (fun k => S k ∨ w.heap.size ≤ k ∧ k < w1.heap.size) b room (xs ++ [u]) lost ∧ Touch w (w1.setCell ⟨b, 1, none⟩ v') S := by
  have hne := own_ne h.row h.box hte
  have hI : Is w1 b t #[.int .i64 (room : Int), v, .bool lost] := (h.box.alloc o).grown hg hne
  have hne' := own_ne hown hI hte
  have ht : Touch w (w1.setCell ⟨b, 1, none⟩ v') S := ((Touch.alloc w o S).trans (Touch.grown hg h.own) (fun k hk => .inl hk)).trans (Touch.store w1 ⟨b, 1, none⟩ v' h.inn) (fun k hk => .inl hk)
  have hs1 : w.heap.size ≤ w1.heap.size := by have := hg.size; simp at this; omega
  refine ⟨hI, ⟨v', hI.set 1 v' rfl, ?_, .inl h.inn, ?_, ?_⟩, ht⟩
  · have := (Touch.store (T := fun k => k = b) w1 ⟨b, 1, none⟩ v' rfl).own hown (fun g hg e' => hne' (e' ▸ hg))
    simpa using this
  · intro g hg'
    rcases hv with hv | hv
    · exact .inl (h.own g (hv ▸ hg'))
    · right
      have e1 : (w.alloc o).heap.size = g := Option.some.inj (hv.symm.trans hg')
      have := (hown.lt g hg').2
      simp at e1
      omega
  · intro k hk
    have : (w1.setCell ⟨b, 1, none⟩ v').heap.size = w1.heap.size := by simp
    rw [this]
    rcases hk with hk | ⟨hk, hk'⟩
    · have := h.ok k hk; omega
    · omega
/-- it was emptied -/
theorem RingV.emptied (h : RingV t e w base S b room v xs lost) : Ring t e ((w.setCell ⟨b, 1, none⟩ (.slice none 0 0)).setCell ⟨b, 2, none⟩ (.bool false)) base S b room [] false :=
  ⟨.slice none 0 0, (h.box.set 1 (.slice none 0 0) rfl).set 2 (.bool false) rfl, World.ownsRow_nil _ _ _ _, h.inn, fun g h => by simp [Value.ownBlock] at h, fun k hk => by have := h.ok k hk; simpa using this⟩
theorem RingV.below (h : RingV t e w base S b room v xs lost) (hb : Below w.heap.size w w') : RingV t e w' base S b room v xs lost :=
  ⟨h.box.below hb h.box.lt, own_below h.row hb, h.inn, h.own, fun k hk => ⟨(h.ok k hk).1, Nat.lt_of_lt_of_le (h.ok k hk).2 hb.size⟩⟩
theorem Touch.putObj (w : World) (l : Nat) (o : Obj) : Touch w (w.putObj l o) (fun k => k = l) := Touch.grown (grownBy_putObj' w l o) (fun _ h => Option.some.inj h.symm)
theorem Touch.drewN (w : World) (n : Nat) (T : Nat → Prop) : Touch w (w.drewN n) T := ⟨rfl, rfl, rfl, Nat.le_refl _, fun _ _ _ => rfl⟩
theorem RingV.drewN (h : RingV t e w base S b room v xs lost) (n : Nat) : RingV t e (w.drewN n) base S b room v xs lost := ⟨h.box, h.row, h.inn, h.own, h.ok⟩
end
theorem one_str (s : ByteArray) : ∀ u ∈ [Value.string s], u.oneCell' = true := by
  intro u hu; simp at hu; subst hu; rfl
/-- what Put makes of what lies in a queue -/
def putL {α : Type} (room : Nat) (zs : List α) (x : α) : List α := if zs.length < room then zs ++ [x] else zs
theorem putL_yes {α : Type} {room : Nat} {zs : List α} {x : α} (h : zs.length < room) : putL room zs x = zs ++ [x] := by simp [putL, h]
theorem putL_no {α : Type} {room : Nat} {zs : List α} {x : α} (h : ¬ zs.length < room) : putL room zs x = zs := by simp [putL, h]
end Go.Law
/-
  What walk of an ordered map (layer 4) of texts to entries comes to at the body of a range; what All and Keys come to. (The steps of the drawn statement are laid by a script.)
-/
namespace Go.Proofs.YtohdlnefgieenaaGreat
open Go.RowKit Go.Shelf
attribute [local go_sem] Oper.semAt_some
namespace OmapB
open Go.Law (EnV)
theorem room_none {F : Fence} (hd : F.depth = none) (k : Nat) : F.room k := fun d h => by rw [hd] at h; cases h
theorem yield_deep {F : Fence} (hd : F.depth = none) {m : Nat} (m' : Nat) {P : Program} {l : Nat} {args : Array Value} {W : World} {R : Ending → World → Prop} (h : YieldAt F m P l args W R) : YieldAt F m' P l args W R := by
  obtain ⟨fn, tmps, assign, body, hy, hR⟩ := h
  exact ⟨fn, tmps, assign, body, hy, hR.1, fun c cs _ => hR.2 c cs (room_none hd _)⟩
/-- behind a walk at the body of a range -/
def Through (J Jx : List (ByteArray × EnV) → World → Prop) (n₀ : Nat) (pre xs : List (ByteArray × EnV)) (W : World) (e : Ending) (W' : World) : Prop :=
  (e = .returned (.bool true) ∧ J (pre ++ xs) W' ∧ Below n₀ W W') ∨ (e = .returned (.bool false) ∧ ∃ q, q <+: xs ∧ Jx (pre ++ q) W')

set_option linter.unusedSimpArgs false in
set_option maxRecDepth 100000 in
set_option maxHeartbeats 16000000 in
theorem walk_in (F : Fence) (hd : F.depth = none) (hF : ∀ f, F.fn f) (hro : F.round = none) (l n₀ N : Nat) (J Jx : List (ByteArray × EnV) → World → Prop) (hD : ∀ pre W, J pre W → J pre W.drew)
    (G : ByteArray × EnV → Prop) (hY : ∀ m pre x W, J pre W → G x → pre.length < N → YieldAt F m Tryz.prog l #[.string x.1, .agg #[.slice x.2.A x.2.n x.2.c, .int .i64 x.2.st, .int .i64 x.2.pr, .int .i64 x.2.lv]] W fun e W' =>
      (e = .returned (.bool true) ∧ J (pre ++ [x]) W' ∧ Below n₀ W W') ∨ (e = .returned (.bool false) ∧ Jx (pre ++ [x]) W')) :
    ∀ (sz n : Nat) (p : Option Addr) (pre xs : List (ByteArray × EnV)) (W : World), xs.length ≤ sz → At W n₀ p xs → J pre W → pre.length + xs.length ≤ N → (∀ q ∈ xs, G q) →
      CallsIn F n Tryz.prog 92 #[.pointer p, .func (.yield l) #[] #[]] W (Through J Jx n₀ pre xs W) := by
  have hdd : ∀ k : Nat, (F.depth.isSome = true → 1 ≤ k) := fun k h => by rw [hd] at h; cases h
  intro sz
  induction sz with
  | zero =>
    intro n p pre xs W hn h hJ _ _
    obtain rfl := List.eq_nil_of_length_eq_zero (by omega : xs.length = 0)
    obtain rfl := h.is_nil
    clear h
    have HJ := Lib.hid (hD pre W hJ)
    clear hJ hD hY
    refine callsIn_of_wp Tryz.func92 rfl (hF _) ?_ hro
    simp only [Tryz.ntmps92, List.size_toArray, List.length_cons, List.length_nil, Nat.reduceAdd, Nat.reduceSub, Array.replicate_succ, Array.replicate_zero, List.push_toArray, List.append_toArray, List.nil_append, List.cons_append]
    gi_wp2
    refine wpIn_region_any (by kernel_rfl) ?_
    change wpAnyIn _ _ _ _ _ _ _ _ _ W.drew
    refine wpAnyIn_take (i := 0) (oi := { dst := some 5, op := .move (.tmp 0), type := _, pos := _, after := _, guard := _ }) (v := .pointer none) hro rfl (by kernel_rfl) (by kernel_rfl) (by kernel_rfl) (fun _ _ _ h => h) ⟨Or.inl ⟨by rfl, ?_⟩, fun _ => rfl⟩ ?_
    · intro w'
      go_simp
    try simp only [Act.put, List.setIfInBounds_toArray, List.set_cons_zero, List.set_cons_succ]
    refine wpAnyIn_take (i := 1) (oi := { dst := some 6, op := .binOp .eql 70 (.tmp 5) (.const (.pointer none)) 70, type := _, pos := _, after := _, guard := _ }) (v := .bool true) hro rfl (by kernel_rfl) (by kernel_rfl) (by kernel_rfl) (fun _ _ _ h => h) ⟨Or.inl ⟨by rfl, ?_⟩, fun _ => rfl⟩ ?_
    · intro w'
      go_simp
    try simp only [Act.put, List.setIfInBounds_toArray, List.set_cons_zero, List.set_cons_succ]
    refine wpAnyIn_take (i := 2) (oi := { dst := some 7, op := .move (.tmp 6), type := _, pos := _, after := _, guard := _ }) (v := .bool true) hro rfl (by kernel_rfl) (by kernel_rfl) (by kernel_rfl) (fun _ _ _ h => h) ⟨Or.inl ⟨by rfl, ?_⟩, fun _ => rfl⟩ ?_
    · intro w'
      go_simp
    try simp only [Act.put, List.setIfInBounds_toArray, List.set_cons_zero, List.set_cons_succ]
    refine wpAnyIn_take (i := 3) (oi := { dst := some 8, op := .move (.tmp 0), type := _, pos := _, after := _, guard := _ }) (v := undef) hro rfl (by kernel_rfl) (by kernel_rfl) (by kernel_rfl) (fun _ _ _ h => h) ⟨Or.inr ⟨by rfl, rfl⟩, fun _ => rfl⟩ ?_
    try simp only [Act.put, List.setIfInBounds_toArray, List.set_cons_zero, List.set_cons_succ]
    refine wpAnyIn_take (i := 4) (oi := { dst := some 9, op := .nilCheck (.tmp 8), type := _, pos := _, after := _, guard := _ }) (v := undef) hro rfl (by kernel_rfl) (by kernel_rfl) (by kernel_rfl) (fun _ _ _ h => h) ⟨Or.inr ⟨by rfl, rfl⟩, fun _ => rfl⟩ ?_
    try simp only [Act.put, List.setIfInBounds_toArray, List.set_cons_zero, List.set_cons_succ]
    refine wpAnyIn_take (i := 5) (oi := { dst := some 10, op := .fieldAddr 168 (.tmp 9) 2, type := _, pos := _, after := _, guard := _ }) (v := undef) hro rfl (by kernel_rfl) (by kernel_rfl) (by kernel_rfl) (fun _ _ _ h => h) ⟨Or.inr ⟨by rfl, rfl⟩, fun _ => rfl⟩ ?_
    try simp only [Act.put, List.setIfInBounds_toArray, List.set_cons_zero, List.set_cons_succ]
    refine wpAnyIn_take (i := 6) (oi := { dst := some 11, op := .load 70 (.tmp 10), type := _, pos := _, after := _, guard := _ }) (v := undef) hro rfl (by kernel_rfl) (by kernel_rfl) (by kernel_rfl) (fun _ _ _ h => h) ⟨Or.inr ⟨by rfl, rfl⟩, fun _ => rfl⟩ ?_
    try simp only [Act.put, List.setIfInBounds_toArray, List.set_cons_zero, List.set_cons_succ]
    refine wpAnyIn_take (i := 7) (oi := { dst := some 12, op := .move (.tmp 1), type := _, pos := _, after := _, guard := _ }) (v := undef) hro rfl (by kernel_rfl) (by kernel_rfl) (by kernel_rfl) (fun _ _ _ h => h) ⟨Or.inr ⟨by rfl, rfl⟩, fun _ => rfl⟩ ?_
    try simp only [Act.put, List.setIfInBounds_toArray, List.set_cons_zero, List.set_cons_succ]
    refine wpAnyIn_ready (rs := [8]) (by kernel_rfl) (by simp) ?_
    refine AllReadyIn.cons (o := { dst := some 13, op := .call { callee := .value (.func 92), args := #[.tmp 11, .tmp 12], argTypes := #[70, 173] }, type := _, pos := _, after := _, guard := _ }) rfl (fun K hK => ?_) AllReadyIn.nil
    refine (show (∀ f, _ → F.fn f) ∧ K _ _ from ⟨fun f _ => hF f, hK _ _ ?_⟩)
    clear hK K
    try simp only [Act.put, List.setIfInBounds_toArray, List.set_cons_zero, List.set_cons_succ]
    refine wpAnyIn_take (i := 9) (oi := { dst := some 14, op := .move (.tmp 13), type := _, pos := _, after := _, guard := _ }) (v := undef) hro rfl (by kernel_rfl) (by kernel_rfl) (by kernel_rfl) (fun _ _ _ h => h) ⟨Or.inr ⟨by rfl, rfl⟩, fun _ => rfl⟩ ?_
    try simp only [Act.put, List.setIfInBounds_toArray, List.set_cons_zero, List.set_cons_succ]
    refine wpAnyIn_take (i := 10) (oi := { dst := some 15, op := .move (.tmp 1), type := _, pos := _, after := _, guard := _ }) (v := undef) hro rfl (by kernel_rfl) (by kernel_rfl) (by kernel_rfl) (fun _ _ _ h => h) ⟨Or.inr ⟨by rfl, rfl⟩, fun _ => rfl⟩ ?_
    try simp only [Act.put, List.setIfInBounds_toArray, List.set_cons_zero, List.set_cons_succ]
    refine wpAnyIn_take (i := 11) (oi := { dst := some 16, op := .move (.tmp 0), type := _, pos := _, after := _, guard := _ }) (v := undef) hro rfl (by kernel_rfl) (by kernel_rfl) (by kernel_rfl) (fun _ _ _ h => h) ⟨Or.inr ⟨by rfl, rfl⟩, fun _ => rfl⟩ ?_
    try simp only [Act.put, List.setIfInBounds_toArray, List.set_cons_zero, List.set_cons_succ]
    refine wpAnyIn_take (i := 12) (oi := { dst := some 17, op := .nilCheck (.tmp 16), type := _, pos := _, after := _, guard := _ }) (v := undef) hro rfl (by kernel_rfl) (by kernel_rfl) (by kernel_rfl) (fun _ _ _ h => h) ⟨Or.inr ⟨by rfl, rfl⟩, fun _ => rfl⟩ ?_
    try simp only [Act.put, List.setIfInBounds_toArray, List.set_cons_zero, List.set_cons_succ]
    refine wpAnyIn_take (i := 13) (oi := { dst := some 18, op := .fieldAddr 168 (.tmp 17) 0, type := _, pos := _, after := _, guard := _ }) (v := undef) hro rfl (by kernel_rfl) (by kernel_rfl) (by kernel_rfl) (fun _ _ _ h => h) ⟨Or.inr ⟨by rfl, rfl⟩, fun _ => rfl⟩ ?_
    try simp only [Act.put, List.setIfInBounds_toArray, List.set_cons_zero, List.set_cons_succ]
    refine wpAnyIn_take (i := 14) (oi := { dst := some 19, op := .load 9 (.tmp 18), type := _, pos := _, after := _, guard := _ }) (v := undef) hro rfl (by kernel_rfl) (by kernel_rfl) (by kernel_rfl) (fun _ _ _ h => h) ⟨Or.inr ⟨by rfl, rfl⟩, fun _ => rfl⟩ ?_
    try simp only [Act.put, List.setIfInBounds_toArray, List.set_cons_zero, List.set_cons_succ]
    refine wpAnyIn_take (i := 15) (oi := { dst := some 20, op := .move (.tmp 0), type := _, pos := _, after := _, guard := _ }) (v := undef) hro rfl (by kernel_rfl) (by kernel_rfl) (by kernel_rfl) (fun _ _ _ h => h) ⟨Or.inr ⟨by rfl, rfl⟩, fun _ => rfl⟩ ?_
    try simp only [Act.put, List.setIfInBounds_toArray, List.set_cons_zero, List.set_cons_succ]
    refine wpAnyIn_take (i := 16) (oi := { dst := some 21, op := .nilCheck (.tmp 20), type := _, pos := _, after := _, guard := _ }) (v := undef) hro rfl (by kernel_rfl) (by kernel_rfl) (by kernel_rfl) (fun _ _ _ h => h) ⟨Or.inr ⟨by rfl, rfl⟩, fun _ => rfl⟩ ?_
    try simp only [Act.put, List.setIfInBounds_toArray, List.set_cons_zero, List.set_cons_succ]
    refine wpAnyIn_take (i := 17) (oi := { dst := some 22, op := .fieldAddr 168 (.tmp 21) 1, type := _, pos := _, after := _, guard := _ }) (v := undef) hro rfl (by kernel_rfl) (by kernel_rfl) (by kernel_rfl) (fun _ _ _ h => h) ⟨Or.inr ⟨by rfl, rfl⟩, fun _ => rfl⟩ ?_
    try simp only [Act.put, List.setIfInBounds_toArray, List.set_cons_zero, List.set_cons_succ]
    refine wpAnyIn_take (i := 18) (oi := { dst := some 23, op := .load 145 (.tmp 22), type := _, pos := _, after := _, guard := _ }) (v := undef) hro rfl (by kernel_rfl) (by kernel_rfl) (by kernel_rfl) (fun _ _ _ h => h) ⟨Or.inr ⟨by rfl, rfl⟩, fun _ => rfl⟩ ?_
    try simp only [Act.put, List.setIfInBounds_toArray, List.set_cons_zero, List.set_cons_succ]
    refine wpAnyIn_take (i := 19) (oi := { dst := some 24, op := .call { callee := .value (.tmp 15), args := #[.tmp 19, .tmp 23], argTypes := #[9, 145] }, type := _, pos := _, after := _, guard := _ }) (v := undef) hro rfl (by kernel_rfl) (by kernel_rfl) (by kernel_rfl) (fun _ _ _ h => h) ⟨Or.inr ⟨by rfl, rfl⟩, fun _ => rfl⟩ ?_
    try simp only [Act.put, List.setIfInBounds_toArray, List.set_cons_zero, List.set_cons_succ]
    refine wpAnyIn_take (i := 20) (oi := { dst := some 25, op := .pick (.tmp 14) (.tmp 24) (.const (.bool false)), type := _, pos := _, after := _, guard := _ }) (v := undef) hro rfl (by kernel_rfl) (by kernel_rfl) (by kernel_rfl) (fun _ _ _ h => h) ⟨Or.inr ⟨by rfl, rfl⟩, fun _ => rfl⟩ ?_
    try simp only [Act.put, List.setIfInBounds_toArray, List.set_cons_zero, List.set_cons_succ]
    refine wpAnyIn_take (i := 21) (oi := { dst := some 26, op := .move (.tmp 25), type := _, pos := _, after := _, guard := _ }) (v := undef) hro rfl (by kernel_rfl) (by kernel_rfl) (by kernel_rfl) (fun _ _ _ h => h) ⟨Or.inr ⟨by rfl, rfl⟩, fun _ => rfl⟩ ?_
    try simp only [Act.put, List.setIfInBounds_toArray, List.set_cons_zero, List.set_cons_succ]
    refine wpAnyIn_take (i := 22) (oi := { dst := some 27, op := .move (.tmp 0), type := _, pos := _, after := _, guard := _ }) (v := undef) hro rfl (by kernel_rfl) (by kernel_rfl) (by kernel_rfl) (fun _ _ _ h => h) ⟨Or.inr ⟨by rfl, rfl⟩, fun _ => rfl⟩ ?_
    try simp only [Act.put, List.setIfInBounds_toArray, List.set_cons_zero, List.set_cons_succ]
    refine wpAnyIn_take (i := 23) (oi := { dst := some 28, op := .nilCheck (.tmp 27), type := _, pos := _, after := _, guard := _ }) (v := undef) hro rfl (by kernel_rfl) (by kernel_rfl) (by kernel_rfl) (fun _ _ _ h => h) ⟨Or.inr ⟨by rfl, rfl⟩, fun _ => rfl⟩ ?_
    try simp only [Act.put, List.setIfInBounds_toArray, List.set_cons_zero, List.set_cons_succ]
    refine wpAnyIn_take (i := 24) (oi := { dst := some 29, op := .fieldAddr 168 (.tmp 28) 3, type := _, pos := _, after := _, guard := _ }) (v := undef) hro rfl (by kernel_rfl) (by kernel_rfl) (by kernel_rfl) (fun _ _ _ h => h) ⟨Or.inr ⟨by rfl, rfl⟩, fun _ => rfl⟩ ?_
    try simp only [Act.put, List.setIfInBounds_toArray, List.set_cons_zero, List.set_cons_succ]
    refine wpAnyIn_take (i := 25) (oi := { dst := some 30, op := .load 70 (.tmp 29), type := _, pos := _, after := _, guard := _ }) (v := undef) hro rfl (by kernel_rfl) (by kernel_rfl) (by kernel_rfl) (fun _ _ _ h => h) ⟨Or.inr ⟨by rfl, rfl⟩, fun _ => rfl⟩ ?_
    try simp only [Act.put, List.setIfInBounds_toArray, List.set_cons_zero, List.set_cons_succ]
    refine wpAnyIn_take (i := 26) (oi := { dst := some 31, op := .move (.tmp 1), type := _, pos := _, after := _, guard := _ }) (v := undef) hro rfl (by kernel_rfl) (by kernel_rfl) (by kernel_rfl) (fun _ _ _ h => h) ⟨Or.inr ⟨by rfl, rfl⟩, fun _ => rfl⟩ ?_
    try simp only [Act.put, List.setIfInBounds_toArray, List.set_cons_zero, List.set_cons_succ]
    refine wpAnyIn_ready (rs := [27]) (by kernel_rfl) (by simp) ?_
    refine AllReadyIn.cons (o := { dst := some 32, op := .call { callee := .value (.func 92), args := #[.tmp 30, .tmp 31], argTypes := #[70, 173] }, type := _, pos := _, after := _, guard := _ }) rfl (fun K hK => ?_) AllReadyIn.nil
    refine (show (∀ f, _ → F.fn f) ∧ K _ _ from ⟨fun f _ => hF f, hK _ _ ?_⟩)
    clear hK K
    try simp only [Act.put, List.setIfInBounds_toArray, List.set_cons_zero, List.set_cons_succ]
    refine wpAnyIn_take (i := 28) (oi := { dst := some 33, op := .pick (.tmp 26) (.tmp 32) (.const (.bool false)), type := _, pos := _, after := _, guard := _ }) (v := undef) hro rfl (by kernel_rfl) (by kernel_rfl) (by kernel_rfl) (fun _ _ _ h => h) ⟨Or.inr ⟨by rfl, rfl⟩, fun _ => rfl⟩ ?_
    try simp only [Act.put, List.setIfInBounds_toArray, List.set_cons_zero, List.set_cons_succ]
    refine wpAnyIn_take (i := 29) (oi := { dst := some 34, op := .pick (.tmp 7) (.const (.bool true)) (.tmp 33), type := _, pos := _, after := _, guard := _ }) (v := .bool true) hro rfl (by kernel_rfl) (by kernel_rfl) (by kernel_rfl) (fun _ _ _ h => h) ⟨Or.inl ⟨by rfl, ?_⟩, fun _ => rfl⟩ ?_
    · intro w'
      go_simp
    try simp only [Act.put, List.setIfInBounds_toArray, List.set_cons_zero, List.set_cons_succ]
    refine wpAnyIn_take (i := 30) (oi := { dst := some 4, op := .assign (.tmp 34), type := _, pos := _, after := _, guard := _ }) (v := .bool true) hro rfl (by kernel_rfl) (by kernel_rfl) (by kernel_rfl) (fun _ _ _ h => h) ⟨Or.inl ⟨by rfl, ?_⟩, fun _ => rfl⟩ ?_
    · intro w'
      go_simp
    try simp only [Act.put, List.setIfInBounds_toArray, List.set_cons_zero, List.set_cons_succ]
    refine wpAnyIn_done (by kernel_rfl) ?_ _
    gi_wp2
    go_ret
    exact .inl ⟨rfl, by simpa using HJ.out, Law.below_drewN (Below.refl _ W) 1⟩
  | succ sz ih =>
    intro n p pre xs W hn h hJ hN hG
    cases p with
    | none =>
      obtain rfl := h.of_nil
      exact ih n none pre [] W (Nat.zero_le _) h hJ (by simp at hN ⊢; omega) (fun _ h => by cases h)
    | some ad =>
      obtain ⟨b, pl, pr, ls, rs, k, v, rfl, rfl, hb, hi, hl, hr⟩ := h.of_some
      have c2 : W.drew.cell? ⟨b, 5, none⟩ = some (.pointer pl) := (hi.cell 5).trans rfl
      have c0 : W.cell? ⟨b, 0, none⟩ = some (.string k) := (hi.cell 0).trans rfl
      have c1 : W.cell? ⟨b, 1, none⟩ = some (.slice v.A v.n v.c) ∧ W.cell? ⟨b, 2, none⟩ = some (.int .i64 v.st) ∧ W.cell? ⟨b, 3, none⟩ = some (.int .i64 v.pr) ∧ W.cell? ⟨b, 4, none⟩ = some (.int .i64 v.lv) := val_of hi
      have c3 : W.cell? ⟨b, 6, none⟩ = some (.pointer pr) := (hi.cell 6).trans rfl
      simp only [List.length_append, List.length_cons] at hn hN
      have HQ : Hid (ls <+: ls ++ (k, v) :: rs) := List.prefix_append _ _
      have HP : Hid (ls ++ [(k, v)] <+: ls ++ (k, v) :: rs) := ⟨rs, by simp⟩
      have hr2 : ∀ W2, J (pre ++ ls ++ [(k, v)]) W2 → Below n₀ W W2 → CallsIn F (n - 1) Tryz.prog 92 #[.pointer pr, .func (.yield l) #[] #[]] W2 fun e W3 =>
          (e = .returned (.bool true) ∧ J (pre ++ (ls ++ (k, v) :: rs)) W3 ∧ Below n₀ W W3) ∨ (e = .returned (.bool false) ∧ ∃ q, q <+: ls ++ (k, v) :: rs ∧ Jx (pre ++ q) W3) := fun W2 hj hb2 =>
        (ih (n - 1) pr (pre ++ ls ++ [(k, v)]) rs W2 (by omega) (hr.under hb2) hj (by simp; omega) (fun q hq => hG q (by simp [hq]))).mono fun _ _ h => h.elim
          (fun ⟨he, hj3, hb3⟩ => .inl ⟨he, by simpa using hj3, hb2.trans hb3⟩) (fun ⟨he, q, hq, hx⟩ => .inr ⟨he, ls ++ (k, v) :: q, by obtain ⟨t, ht⟩ := hq; exact ⟨t, by simp [← ht]⟩, by simpa using hx⟩)
      have hy2 : ∀ W1, J (pre ++ ls) W1 → Below n₀ W W1 → YieldAt F (n - 1) Tryz.prog l #[.string k, .agg #[.slice v.A v.n v.c, .int .i64 v.st, .int .i64 v.pr, .int .i64 v.lv]] W1 fun e W2 =>
          (e = .returned (.bool true) ∧ W2.cell? ⟨b, 6, none⟩ = some (.pointer pr) ∧ CallsIn F (n - 1) Tryz.prog 92 #[.pointer pr, .func (.yield l) #[] #[]] W2 fun e W3 =>
            (e = .returned (.bool true) ∧ J (pre ++ (ls ++ (k, v) :: rs)) W3 ∧ Below n₀ W W3) ∨ (e = .returned (.bool false) ∧ ∃ q, q <+: ls ++ (k, v) :: rs ∧ Jx (pre ++ q) W3)) ∨
          (e = .returned (.bool false) ∧ Jx (pre ++ (ls ++ [(k, v)])) W2) := fun W1 hj1 hb1 =>
        YieldAt.mono (hY (n - 1) (pre ++ ls) (k, v) W1 hj1 (hG _ (by simp)) (by simp; omega)) fun e W2 h => h.elim
          (fun ⟨he, hj, hb2⟩ => .inl ⟨he, ((hb1.trans hb2).cell (p := ⟨b, 6, none⟩) hb).trans c3, hr2 W2 hj (hb1.trans hb2)⟩) (fun ⟨he, hx⟩ => .inr ⟨he, by simpa using hx⟩)
      have hb0 : Below n₀ W W.drew := Law.below_drewN (Below.refl _ W) 1
      have HI := Lib.hid ((ih (n - 1) pl pre ls W.drew (by omega) (hl.under hb0) (hD pre W hJ) (by omega) (fun q hq => hG q (by simp [hq]))).mono (R' := fun e W1 =>
          (e = .returned (.bool true) ∧ J (pre ++ ls) W1 ∧ Below n₀ W W1 ∧ W1.cell? ⟨b, 0, none⟩ = some (.string k) ∧ W1.cell? ⟨b, 1, none⟩ = some (.slice v.A v.n v.c) ∧ W1.cell? ⟨b, 2, none⟩ = some (.int .i64 v.st) ∧ W1.cell? ⟨b, 3, none⟩ = some (.int .i64 v.pr) ∧ W1.cell? ⟨b, 4, none⟩ = some (.int .i64 v.lv) ∧ YieldAt F (n - 1) Tryz.prog l #[.string k, .agg #[.slice v.A v.n v.c, .int .i64 v.st, .int .i64 v.pr, .int .i64 v.lv]] W1 fun e W2 =>
            (e = .returned (.bool true) ∧ W2.cell? ⟨b, 6, none⟩ = some (.pointer pr) ∧ CallsIn F (n - 1) Tryz.prog 92 #[.pointer pr, .func (.yield l) #[] #[]] W2 fun e W3 =>
              (e = .returned (.bool true) ∧ J (pre ++ (ls ++ (k, v) :: rs)) W3 ∧ Below n₀ W W3) ∨ (e = .returned (.bool false) ∧ ∃ q, q <+: ls ++ (k, v) :: rs ∧ Jx (pre ++ q) W3)) ∨
            (e = .returned (.bool false) ∧ Jx (pre ++ (ls ++ [(k, v)])) W2)) ∨
          (e = .returned (.bool false) ∧ ∃ q, q <+: ls ∧ Jx (pre ++ q) W1))
        (fun e W1 h => h.elim (fun ⟨he, hj, hb1⟩ => .inl ⟨he, hj, hb0.trans hb1, ((hb0.trans hb1).cell (p := ⟨b, 0, none⟩) hb).trans c0, ((hb0.trans hb1).cell (p := ⟨b, 1, none⟩) hb).trans c1.1, ((hb0.trans hb1).cell (p := ⟨b, 2, none⟩) hb).trans c1.2.1, ((hb0.trans hb1).cell (p := ⟨b, 3, none⟩) hb).trans c1.2.2.1, ((hb0.trans hb1).cell (p := ⟨b, 4, none⟩) hb).trans c1.2.2.2, hy2 W1 hj (hb0.trans hb1)⟩) .inr))
      clear hG hy2 hr2 ih hJ hD hY hi h hl hr c0 c1 c3 hb0
      refine callsIn_of_wp Tryz.func92 rfl (hF _) ?_ hro
      simp only [Tryz.ntmps92, List.size_toArray, List.length_cons, List.length_nil, Nat.reduceAdd, Nat.reduceSub, Array.replicate_succ, Array.replicate_zero, List.push_toArray, List.append_toArray, List.nil_append, List.cons_append]
      gi_wp2
      refine wpIn_region_any (by kernel_rfl) ?_
      change wpAnyIn _ _ _ _ _ _ _ _ _ W.drew
      refine wpAnyIn_take (i := 0) (oi := { dst := some 5, op := .move (.tmp 0), type := _, pos := _, after := _, guard := _ }) (v := .pointer (some ⟨b, 0, none⟩)) hro rfl (by kernel_rfl) (by kernel_rfl) (by kernel_rfl) (fun _ _ _ h => h) ⟨Or.inl ⟨by rfl, ?_⟩, fun _ => rfl⟩ ?_
      · intro w'
        go_simp
      try simp only [Act.put, List.setIfInBounds_toArray, List.set_cons_zero, List.set_cons_succ]
      refine wpAnyIn_take (i := 1) (oi := { dst := some 6, op := .binOp .eql 70 (.tmp 5) (.const (.pointer none)) 70, type := _, pos := _, after := _, guard := _ }) (v := .bool false) hro rfl (by kernel_rfl) (by kernel_rfl) (by kernel_rfl) (fun _ _ _ h => h) ⟨Or.inl ⟨by rfl, ?_⟩, fun _ => rfl⟩ ?_
      · intro w'
        go_simp
      try simp only [Act.put, List.setIfInBounds_toArray, List.set_cons_zero, List.set_cons_succ]
      refine wpAnyIn_take (i := 2) (oi := { dst := some 7, op := .move (.tmp 6), type := _, pos := _, after := _, guard := _ }) (v := .bool false) hro rfl (by kernel_rfl) (by kernel_rfl) (by kernel_rfl) (fun _ _ _ h => h) ⟨Or.inl ⟨by rfl, ?_⟩, fun _ => rfl⟩ ?_
      · intro w'
        go_simp
      try simp only [Act.put, List.setIfInBounds_toArray, List.set_cons_zero, List.set_cons_succ]
      refine wpAnyIn_take (i := 3) (oi := { dst := some 8, op := .move (.tmp 0), type := _, pos := _, after := _, guard := _ }) (v := .pointer (some ⟨b, 0, none⟩)) hro rfl (by kernel_rfl) (by kernel_rfl) (by kernel_rfl) (fun _ _ _ h => h) ⟨Or.inl ⟨by rfl, ?_⟩, fun _ => rfl⟩ ?_
      · intro w'
        go_simp
      try simp only [Act.put, List.setIfInBounds_toArray, List.set_cons_zero, List.set_cons_succ]
      refine wpAnyIn_take (i := 4) (oi := { dst := some 9, op := .nilCheck (.tmp 8), type := _, pos := _, after := _, guard := _ }) (v := .pointer (some ⟨b, 0, none⟩)) hro rfl (by kernel_rfl) (by kernel_rfl) (by kernel_rfl) (fun _ _ _ h => h) ⟨Or.inl ⟨by rfl, ?_⟩, fun _ => rfl⟩ ?_
      · intro w'
        go_simp
      try simp only [Act.put, List.setIfInBounds_toArray, List.set_cons_zero, List.set_cons_succ]
      refine wpAnyIn_take (i := 5) (oi := { dst := some 10, op := .fieldAddr 168 (.tmp 9) 2, type := _, pos := _, after := _, guard := _ }) (v := .pointer (some ⟨b, 5, none⟩)) hro rfl (by kernel_rfl) (by kernel_rfl) (by kernel_rfl) (fun _ _ _ h => h) ⟨Or.inl ⟨by rfl, ?_⟩, fun _ => rfl⟩ ?_
      · intro w'
        go_simp
      try simp only [Act.put, List.setIfInBounds_toArray, List.set_cons_zero, List.set_cons_succ]
      refine wpAnyIn_take (i := 7) (oi := { dst := some 12, op := .move (.tmp 1), type := _, pos := _, after := _, guard := _ }) (v := (.func (.yield l) #[] #[])) hro rfl (by kernel_rfl) (by kernel_rfl) (by kernel_rfl) (fun _ _ _ h => h) ⟨Or.inl ⟨by rfl, ?_⟩, fun _ => rfl⟩ ?_
      · intro w'
        go_simp
      try simp only [Act.put, List.setIfInBounds_toArray, List.set_cons_zero, List.set_cons_succ]
      refine wpAnyIn_ready (rs := [6]) (by kernel_rfl) (by simp) ?_
      refine AllReadyIn.cons (o := { dst := some 11, op := .load 70 (.tmp 10), type := _, pos := _, after := _, guard := _ }) rfl (fun K hK => ?_) AllReadyIn.nil
      go_simp
      refine hK _ _ ?_
      clear hK K
      try simp only [Act.put, List.setIfInBounds_toArray, List.set_cons_zero, List.set_cons_succ]
      refine wpAnyIn_ready (rs := [8]) (by kernel_rfl) (by simp) ?_
      refine AllReadyIn.cons (o := { dst := some 13, op := .call { callee := .value (.func 92), args := #[.tmp 11, .tmp 12], argTypes := #[70, 173] }, type := _, pos := _, after := _, guard := _ }) rfl (fun K hK => ?_) AllReadyIn.nil
      go_simp
      refine HI.out.mono ?_
      rintro e W1 (⟨rfl, j1, K1, d0, d1, d2, d3, d4, fn, tmps, assign, body, hy, hR⟩ | ⟨rfl, q, hq, hx⟩)
      · clear j1
        gi_wp2
        try simp only [Act.put, List.setIfInBounds_toArray, List.set_cons_zero, List.set_cons_succ]
        refine wpAnyIn_take (i := 9) (oi := { dst := some 14, op := .move (.tmp 13), type := _, pos := _, after := _, guard := _ }) (v := .bool true) hro rfl (by kernel_rfl) (by kernel_rfl) (by kernel_rfl) (fun _ _ _ h => h) ⟨Or.inl ⟨by rfl, ?_⟩, fun _ => rfl⟩ ?_
        · intro w'
          go_simp
        try simp only [Act.put, List.setIfInBounds_toArray, List.set_cons_zero, List.set_cons_succ]
        refine wpAnyIn_take (i := 10) (oi := { dst := some 15, op := .move (.tmp 1), type := _, pos := _, after := _, guard := _ }) (v := (.func (.yield l) #[] #[])) hro rfl (by kernel_rfl) (by kernel_rfl) (by kernel_rfl) (fun _ _ _ h => h) ⟨Or.inl ⟨by rfl, ?_⟩, fun _ => rfl⟩ ?_
        · intro w'
          go_simp
        try simp only [Act.put, List.setIfInBounds_toArray, List.set_cons_zero, List.set_cons_succ]
        refine wpAnyIn_take (i := 11) (oi := { dst := some 16, op := .move (.tmp 0), type := _, pos := _, after := _, guard := _ }) (v := .pointer (some ⟨b, 0, none⟩)) hro rfl (by kernel_rfl) (by kernel_rfl) (by kernel_rfl) (fun _ _ _ h => h) ⟨Or.inl ⟨by rfl, ?_⟩, fun _ => rfl⟩ ?_
        · intro w'
          go_simp
        try simp only [Act.put, List.setIfInBounds_toArray, List.set_cons_zero, List.set_cons_succ]
        refine wpAnyIn_take (i := 12) (oi := { dst := some 17, op := .nilCheck (.tmp 16), type := _, pos := _, after := _, guard := _ }) (v := .pointer (some ⟨b, 0, none⟩)) hro rfl (by kernel_rfl) (by kernel_rfl) (by kernel_rfl) (fun _ _ _ h => h) ⟨Or.inl ⟨by rfl, ?_⟩, fun _ => rfl⟩ ?_
        · intro w'
          go_simp
        try simp only [Act.put, List.setIfInBounds_toArray, List.set_cons_zero, List.set_cons_succ]
        refine wpAnyIn_take (i := 13) (oi := { dst := some 18, op := .fieldAddr 168 (.tmp 17) 0, type := _, pos := _, after := _, guard := _ }) (v := .pointer (some ⟨b, 0, none⟩)) hro rfl (by kernel_rfl) (by kernel_rfl) (by kernel_rfl) (fun _ _ _ h => h) ⟨Or.inl ⟨by rfl, ?_⟩, fun _ => rfl⟩ ?_
        · intro w'
          go_simp
        try simp only [Act.put, List.setIfInBounds_toArray, List.set_cons_zero, List.set_cons_succ]
        refine wpAnyIn_take (i := 15) (oi := { dst := some 20, op := .move (.tmp 0), type := _, pos := _, after := _, guard := _ }) (v := .pointer (some ⟨b, 0, none⟩)) hro rfl (by kernel_rfl) (by kernel_rfl) (by kernel_rfl) (fun _ _ _ h => h) ⟨Or.inl ⟨by rfl, ?_⟩, fun _ => rfl⟩ ?_
        · intro w'
          go_simp
        try simp only [Act.put, List.setIfInBounds_toArray, List.set_cons_zero, List.set_cons_succ]
        refine wpAnyIn_take (i := 16) (oi := { dst := some 21, op := .nilCheck (.tmp 20), type := _, pos := _, after := _, guard := _ }) (v := .pointer (some ⟨b, 0, none⟩)) hro rfl (by kernel_rfl) (by kernel_rfl) (by kernel_rfl) (fun _ _ _ h => h) ⟨Or.inl ⟨by rfl, ?_⟩, fun _ => rfl⟩ ?_
        · intro w'
          go_simp
        try simp only [Act.put, List.setIfInBounds_toArray, List.set_cons_zero, List.set_cons_succ]
        refine wpAnyIn_take (i := 17) (oi := { dst := some 22, op := .fieldAddr 168 (.tmp 21) 1, type := _, pos := _, after := _, guard := _ }) (v := .pointer (some ⟨b, 1, none⟩)) hro rfl (by kernel_rfl) (by kernel_rfl) (by kernel_rfl) (fun _ _ _ h => h) ⟨Or.inl ⟨by rfl, ?_⟩, fun _ => rfl⟩ ?_
        · intro w'
          go_simp
        try simp only [Act.put, List.setIfInBounds_toArray, List.set_cons_zero, List.set_cons_succ]
        refine wpAnyIn_ready (rs := [14, 18]) (by kernel_rfl) (by simp) ?_
        refine AllReadyIn.cons (o := { dst := some 19, op := .load 9 (.tmp 18), type := _, pos := _, after := _, guard := _ }) rfl (fun K hK => ?_) ?_
        · go_simp
          refine hK _ _ ?_
          clear hK K
          try simp only [Act.put, List.setIfInBounds_toArray, List.set_cons_zero, List.set_cons_succ]
          refine wpAnyIn_ready (rs := [18]) (by kernel_rfl) (by simp) ?_
          refine AllReadyIn.cons (o := { dst := some 23, op := .load 145 (.tmp 22), type := _, pos := _, after := _, guard := _ }) rfl (fun K hK => ?_) AllReadyIn.nil
          go_simp
          refine hK _ _ ?_
          clear hK K
          try simp only [Act.put, List.setIfInBounds_toArray, List.set_cons_zero, List.set_cons_succ]
          refine wpAnyIn_ready (rs := [19]) (by kernel_rfl) (by simp) ?_
          refine AllReadyIn.cons (o := { dst := some 24, op := .call { callee := .value (.tmp 15), args := #[.tmp 19, .tmp 23], argTypes := #[9, 145] }, type := _, pos := _, after := _, guard := _ }) rfl (fun K hK => ?_) AllReadyIn.nil
          go_simp
          refine hR.mono ?_
          rintro e W2 (⟨rfl, d2, h3⟩ | ⟨rfl, hx2⟩)
          · have H3 := Lib.hid h3
            clear h3 hR hy
            gi_wp2
            try simp only [Act.put, List.setIfInBounds_toArray, List.set_cons_zero, List.set_cons_succ]
            refine wpAnyIn_take (i := 20) (oi := { dst := some 25, op := .pick (.tmp 14) (.tmp 24) (.const (.bool false)), type := _, pos := _, after := _, guard := _ }) (v := .bool true) hro rfl (by kernel_rfl) (by kernel_rfl) (by kernel_rfl) (fun _ _ _ h => h) ⟨Or.inl ⟨by rfl, ?_⟩, fun _ => rfl⟩ ?_
            · intro w'
              go_simp
            try simp only [Act.put, List.setIfInBounds_toArray, List.set_cons_zero, List.set_cons_succ]
            refine wpAnyIn_take (i := 21) (oi := { dst := some 26, op := .move (.tmp 25), type := _, pos := _, after := _, guard := _ }) (v := .bool true) hro rfl (by kernel_rfl) (by kernel_rfl) (by kernel_rfl) (fun _ _ _ h => h) ⟨Or.inl ⟨by rfl, ?_⟩, fun _ => rfl⟩ ?_
            · intro w'
              go_simp
            try simp only [Act.put, List.setIfInBounds_toArray, List.set_cons_zero, List.set_cons_succ]
            refine wpAnyIn_take (i := 22) (oi := { dst := some 27, op := .move (.tmp 0), type := _, pos := _, after := _, guard := _ }) (v := .pointer (some ⟨b, 0, none⟩)) hro rfl (by kernel_rfl) (by kernel_rfl) (by kernel_rfl) (fun _ _ _ h => h) ⟨Or.inl ⟨by rfl, ?_⟩, fun _ => rfl⟩ ?_
            · intro w'
              go_simp
            try simp only [Act.put, List.setIfInBounds_toArray, List.set_cons_zero, List.set_cons_succ]
            refine wpAnyIn_take (i := 23) (oi := { dst := some 28, op := .nilCheck (.tmp 27), type := _, pos := _, after := _, guard := _ }) (v := .pointer (some ⟨b, 0, none⟩)) hro rfl (by kernel_rfl) (by kernel_rfl) (by kernel_rfl) (fun _ _ _ h => h) ⟨Or.inl ⟨by rfl, ?_⟩, fun _ => rfl⟩ ?_
            · intro w'
              go_simp
            try simp only [Act.put, List.setIfInBounds_toArray, List.set_cons_zero, List.set_cons_succ]
            refine wpAnyIn_take (i := 24) (oi := { dst := some 29, op := .fieldAddr 168 (.tmp 28) 3, type := _, pos := _, after := _, guard := _ }) (v := .pointer (some ⟨b, 6, none⟩)) hro rfl (by kernel_rfl) (by kernel_rfl) (by kernel_rfl) (fun _ _ _ h => h) ⟨Or.inl ⟨by rfl, ?_⟩, fun _ => rfl⟩ ?_
            · intro w'
              go_simp
            try simp only [Act.put, List.setIfInBounds_toArray, List.set_cons_zero, List.set_cons_succ]
            refine wpAnyIn_take (i := 26) (oi := { dst := some 31, op := .move (.tmp 1), type := _, pos := _, after := _, guard := _ }) (v := (.func (.yield l) #[] #[])) hro rfl (by kernel_rfl) (by kernel_rfl) (by kernel_rfl) (fun _ _ _ h => h) ⟨Or.inl ⟨by rfl, ?_⟩, fun _ => rfl⟩ ?_
            · intro w'
              go_simp
            try simp only [Act.put, List.setIfInBounds_toArray, List.set_cons_zero, List.set_cons_succ]
            refine wpAnyIn_ready (rs := [25]) (by kernel_rfl) (by simp) ?_
            refine AllReadyIn.cons (o := { dst := some 30, op := .load 70 (.tmp 29), type := _, pos := _, after := _, guard := _ }) rfl (fun K hK => ?_) AllReadyIn.nil
            go_simp
            refine hK _ _ ?_
            clear hK K
            try simp only [Act.put, List.setIfInBounds_toArray, List.set_cons_zero, List.set_cons_succ]
            refine wpAnyIn_ready (rs := [27]) (by kernel_rfl) (by simp) ?_
            refine AllReadyIn.cons (o := { dst := some 32, op := .call { callee := .value (.func 92), args := #[.tmp 30, .tmp 31], argTypes := #[70, 173] }, type := _, pos := _, after := _, guard := _ }) rfl (fun K hK => ?_) AllReadyIn.nil
            go_simp
            refine H3.out.mono ?_
            rintro e W3 (⟨rfl, j3, K3⟩ | ⟨rfl, q, hq, hx⟩)
            · gi_wp2
              try simp only [Act.put, List.setIfInBounds_toArray, List.set_cons_zero, List.set_cons_succ]
              refine wpAnyIn_take (i := 28) (oi := { dst := some 33, op := .pick (.tmp 26) (.tmp 32) (.const (.bool false)), type := _, pos := _, after := _, guard := _ }) (v := .bool true) hro rfl (by kernel_rfl) (by kernel_rfl) (by kernel_rfl) (fun _ _ _ h => h) ⟨Or.inl ⟨by rfl, ?_⟩, fun _ => rfl⟩ ?_
              · intro w'
                go_simp
              try simp only [Act.put, List.setIfInBounds_toArray, List.set_cons_zero, List.set_cons_succ]
              refine wpAnyIn_take (i := 29) (oi := { dst := some 34, op := .pick (.tmp 7) (.const (.bool true)) (.tmp 33), type := _, pos := _, after := _, guard := _ }) (v := .bool true) hro rfl (by kernel_rfl) (by kernel_rfl) (by kernel_rfl) (fun _ _ _ h => h) ⟨Or.inl ⟨by rfl, ?_⟩, fun _ => rfl⟩ ?_
              · intro w'
                go_simp
              try simp only [Act.put, List.setIfInBounds_toArray, List.set_cons_zero, List.set_cons_succ]
              refine wpAnyIn_take (i := 30) (oi := { dst := some 4, op := .assign (.tmp 34), type := _, pos := _, after := _, guard := _ }) (v := .bool true) hro rfl (by kernel_rfl) (by kernel_rfl) (by kernel_rfl) (fun _ _ _ h => h) ⟨Or.inl ⟨by rfl, ?_⟩, fun _ => rfl⟩ ?_
              · intro w'
                go_simp
              try simp only [Act.put, List.setIfInBounds_toArray, List.set_cons_zero, List.set_cons_succ]
              refine wpAnyIn_done (by kernel_rfl) ?_ _
              gi_wp2
              go_ret
              exact .inl ⟨rfl, j3, K3⟩
            · gi_wp2
              try simp only [Act.put, List.setIfInBounds_toArray, List.set_cons_zero, List.set_cons_succ]
              refine wpAnyIn_take (i := 28) (oi := { dst := some 33, op := .pick (.tmp 26) (.tmp 32) (.const (.bool false)), type := _, pos := _, after := _, guard := _ }) (v := .bool false) hro rfl (by kernel_rfl) (by kernel_rfl) (by kernel_rfl) (fun _ _ _ h => h) ⟨Or.inl ⟨by rfl, ?_⟩, fun _ => rfl⟩ ?_
              · intro w'
                go_simp
              try simp only [Act.put, List.setIfInBounds_toArray, List.set_cons_zero, List.set_cons_succ]
              refine wpAnyIn_take (i := 29) (oi := { dst := some 34, op := .pick (.tmp 7) (.const (.bool true)) (.tmp 33), type := _, pos := _, after := _, guard := _ }) (v := .bool false) hro rfl (by kernel_rfl) (by kernel_rfl) (by kernel_rfl) (fun _ _ _ h => h) ⟨Or.inl ⟨by rfl, ?_⟩, fun _ => rfl⟩ ?_
              · intro w'
                go_simp
              try simp only [Act.put, List.setIfInBounds_toArray, List.set_cons_zero, List.set_cons_succ]
              refine wpAnyIn_take (i := 30) (oi := { dst := some 4, op := .assign (.tmp 34), type := _, pos := _, after := _, guard := _ }) (v := .bool false) hro rfl (by kernel_rfl) (by kernel_rfl) (by kernel_rfl) (fun _ _ _ h => h) ⟨Or.inl ⟨by rfl, ?_⟩, fun _ => rfl⟩ ?_
              · intro w'
                go_simp
              try simp only [Act.put, List.setIfInBounds_toArray, List.set_cons_zero, List.set_cons_succ]
              refine wpAnyIn_done (by kernel_rfl) ?_ _
              gi_wp2
              go_ret
              exact .inr ⟨rfl, q, hq, hx⟩
          · clear hR hy
            gi_wp2
            try simp only [Act.put, List.setIfInBounds_toArray, List.set_cons_zero, List.set_cons_succ]
            refine wpAnyIn_take (i := 20) (oi := { dst := some 25, op := .pick (.tmp 14) (.tmp 24) (.const (.bool false)), type := _, pos := _, after := _, guard := _ }) (v := .bool false) hro rfl (by kernel_rfl) (by kernel_rfl) (by kernel_rfl) (fun _ _ _ h => h) ⟨Or.inl ⟨by rfl, ?_⟩, fun _ => rfl⟩ ?_
            · intro w'
              go_simp
            try simp only [Act.put, List.setIfInBounds_toArray, List.set_cons_zero, List.set_cons_succ]
            refine wpAnyIn_take (i := 21) (oi := { dst := some 26, op := .move (.tmp 25), type := _, pos := _, after := _, guard := _ }) (v := .bool false) hro rfl (by kernel_rfl) (by kernel_rfl) (by kernel_rfl) (fun _ _ _ h => h) ⟨Or.inl ⟨by rfl, ?_⟩, fun _ => rfl⟩ ?_
            · intro w'
              go_simp
            try simp only [Act.put, List.setIfInBounds_toArray, List.set_cons_zero, List.set_cons_succ]
            refine wpAnyIn_take (i := 22) (oi := { dst := some 27, op := .move (.tmp 0), type := _, pos := _, after := _, guard := _ }) (v := undef) hro rfl (by kernel_rfl) (by kernel_rfl) (by kernel_rfl) (fun _ _ _ h => h) ⟨Or.inr ⟨by rfl, rfl⟩, fun _ => rfl⟩ ?_
            try simp only [Act.put, List.setIfInBounds_toArray, List.set_cons_zero, List.set_cons_succ]
            refine wpAnyIn_take (i := 23) (oi := { dst := some 28, op := .nilCheck (.tmp 27), type := _, pos := _, after := _, guard := _ }) (v := undef) hro rfl (by kernel_rfl) (by kernel_rfl) (by kernel_rfl) (fun _ _ _ h => h) ⟨Or.inr ⟨by rfl, rfl⟩, fun _ => rfl⟩ ?_
            try simp only [Act.put, List.setIfInBounds_toArray, List.set_cons_zero, List.set_cons_succ]
            refine wpAnyIn_take (i := 24) (oi := { dst := some 29, op := .fieldAddr 168 (.tmp 28) 3, type := _, pos := _, after := _, guard := _ }) (v := undef) hro rfl (by kernel_rfl) (by kernel_rfl) (by kernel_rfl) (fun _ _ _ h => h) ⟨Or.inr ⟨by rfl, rfl⟩, fun _ => rfl⟩ ?_
            try simp only [Act.put, List.setIfInBounds_toArray, List.set_cons_zero, List.set_cons_succ]
            refine wpAnyIn_take (i := 25) (oi := { dst := some 30, op := .load 70 (.tmp 29), type := _, pos := _, after := _, guard := _ }) (v := undef) hro rfl (by kernel_rfl) (by kernel_rfl) (by kernel_rfl) (fun _ _ _ h => h) ⟨Or.inr ⟨by rfl, rfl⟩, fun _ => rfl⟩ ?_
            try simp only [Act.put, List.setIfInBounds_toArray, List.set_cons_zero, List.set_cons_succ]
            refine wpAnyIn_take (i := 26) (oi := { dst := some 31, op := .move (.tmp 1), type := _, pos := _, after := _, guard := _ }) (v := undef) hro rfl (by kernel_rfl) (by kernel_rfl) (by kernel_rfl) (fun _ _ _ h => h) ⟨Or.inr ⟨by rfl, rfl⟩, fun _ => rfl⟩ ?_
            try simp only [Act.put, List.setIfInBounds_toArray, List.set_cons_zero, List.set_cons_succ]
            refine wpAnyIn_ready (rs := [27]) (by kernel_rfl) (by simp) ?_
            refine AllReadyIn.cons (o := { dst := some 32, op := .call { callee := .value (.func 92), args := #[.tmp 30, .tmp 31], argTypes := #[70, 173] }, type := _, pos := _, after := _, guard := _ }) rfl (fun K hK => ?_) AllReadyIn.nil
            refine (show (∀ f, _ → F.fn f) ∧ K _ _ from ⟨fun f _ => hF f, hK _ _ ?_⟩)
            clear hK K
            try simp only [Act.put, List.setIfInBounds_toArray, List.set_cons_zero, List.set_cons_succ]
            refine wpAnyIn_take (i := 28) (oi := { dst := some 33, op := .pick (.tmp 26) (.tmp 32) (.const (.bool false)), type := _, pos := _, after := _, guard := _ }) (v := .bool false) hro rfl (by kernel_rfl) (by kernel_rfl) (by kernel_rfl) (fun _ _ _ h => h) ⟨Or.inl ⟨by rfl, ?_⟩, fun _ => rfl⟩ ?_
            · intro w'
              go_simp
            try simp only [Act.put, List.setIfInBounds_toArray, List.set_cons_zero, List.set_cons_succ]
            refine wpAnyIn_take (i := 29) (oi := { dst := some 34, op := .pick (.tmp 7) (.const (.bool true)) (.tmp 33), type := _, pos := _, after := _, guard := _ }) (v := .bool false) hro rfl (by kernel_rfl) (by kernel_rfl) (by kernel_rfl) (fun _ _ _ h => h) ⟨Or.inl ⟨by rfl, ?_⟩, fun _ => rfl⟩ ?_
            · intro w'
              go_simp
            try simp only [Act.put, List.setIfInBounds_toArray, List.set_cons_zero, List.set_cons_succ]
            refine wpAnyIn_take (i := 30) (oi := { dst := some 4, op := .assign (.tmp 34), type := _, pos := _, after := _, guard := _ }) (v := .bool false) hro rfl (by kernel_rfl) (by kernel_rfl) (by kernel_rfl) (fun _ _ _ h => h) ⟨Or.inl ⟨by rfl, ?_⟩, fun _ => rfl⟩ ?_
            · intro w'
              go_simp
            try simp only [Act.put, List.setIfInBounds_toArray, List.set_cons_zero, List.set_cons_succ]
            refine wpAnyIn_done (by kernel_rfl) ?_ _
            gi_wp2
            go_ret
            exact .inr ⟨rfl, ls ++ [(k, v)], HP.out, hx2⟩
        refine AllReadyIn.cons (o := { dst := some 23, op := .load 145 (.tmp 22), type := _, pos := _, after := _, guard := _ }) rfl (fun K hK => ?_) AllReadyIn.nil
        go_simp
        refine hK _ _ ?_
        clear hK K
        try simp only [Act.put, List.setIfInBounds_toArray, List.set_cons_zero, List.set_cons_succ]
        refine wpAnyIn_ready (rs := [14]) (by kernel_rfl) (by simp) ?_
        refine AllReadyIn.cons (o := { dst := some 19, op := .load 9 (.tmp 18), type := _, pos := _, after := _, guard := _ }) rfl (fun K hK => ?_) AllReadyIn.nil
        go_simp
        refine hK _ _ ?_
        clear hK K
        try simp only [Act.put, List.setIfInBounds_toArray, List.set_cons_zero, List.set_cons_succ]
        refine wpAnyIn_ready (rs := [19]) (by kernel_rfl) (by simp) ?_
        refine AllReadyIn.cons (o := { dst := some 24, op := .call { callee := .value (.tmp 15), args := #[.tmp 19, .tmp 23], argTypes := #[9, 145] }, type := _, pos := _, after := _, guard := _ }) rfl (fun K hK => ?_) AllReadyIn.nil
        go_simp
        refine hR.mono ?_
        rintro e W2 (⟨rfl, d2, h3⟩ | ⟨rfl, hx2⟩)
        · have H3 := Lib.hid h3
          clear h3 hR hy
          gi_wp2
          try simp only [Act.put, List.setIfInBounds_toArray, List.set_cons_zero, List.set_cons_succ]
          refine wpAnyIn_take (i := 20) (oi := { dst := some 25, op := .pick (.tmp 14) (.tmp 24) (.const (.bool false)), type := _, pos := _, after := _, guard := _ }) (v := .bool true) hro rfl (by kernel_rfl) (by kernel_rfl) (by kernel_rfl) (fun _ _ _ h => h) ⟨Or.inl ⟨by rfl, ?_⟩, fun _ => rfl⟩ ?_
          · intro w'
            go_simp
          try simp only [Act.put, List.setIfInBounds_toArray, List.set_cons_zero, List.set_cons_succ]
          refine wpAnyIn_take (i := 21) (oi := { dst := some 26, op := .move (.tmp 25), type := _, pos := _, after := _, guard := _ }) (v := .bool true) hro rfl (by kernel_rfl) (by kernel_rfl) (by kernel_rfl) (fun _ _ _ h => h) ⟨Or.inl ⟨by rfl, ?_⟩, fun _ => rfl⟩ ?_
          · intro w'
            go_simp
          try simp only [Act.put, List.setIfInBounds_toArray, List.set_cons_zero, List.set_cons_succ]
          refine wpAnyIn_take (i := 22) (oi := { dst := some 27, op := .move (.tmp 0), type := _, pos := _, after := _, guard := _ }) (v := .pointer (some ⟨b, 0, none⟩)) hro rfl (by kernel_rfl) (by kernel_rfl) (by kernel_rfl) (fun _ _ _ h => h) ⟨Or.inl ⟨by rfl, ?_⟩, fun _ => rfl⟩ ?_
          · intro w'
            go_simp
          try simp only [Act.put, List.setIfInBounds_toArray, List.set_cons_zero, List.set_cons_succ]
          refine wpAnyIn_take (i := 23) (oi := { dst := some 28, op := .nilCheck (.tmp 27), type := _, pos := _, after := _, guard := _ }) (v := .pointer (some ⟨b, 0, none⟩)) hro rfl (by kernel_rfl) (by kernel_rfl) (by kernel_rfl) (fun _ _ _ h => h) ⟨Or.inl ⟨by rfl, ?_⟩, fun _ => rfl⟩ ?_
          · intro w'
            go_simp
          try simp only [Act.put, List.setIfInBounds_toArray, List.set_cons_zero, List.set_cons_succ]
          refine wpAnyIn_take (i := 24) (oi := { dst := some 29, op := .fieldAddr 168 (.tmp 28) 3, type := _, pos := _, after := _, guard := _ }) (v := .pointer (some ⟨b, 6, none⟩)) hro rfl (by kernel_rfl) (by kernel_rfl) (by kernel_rfl) (fun _ _ _ h => h) ⟨Or.inl ⟨by rfl, ?_⟩, fun _ => rfl⟩ ?_
          · intro w'
            go_simp
          try simp only [Act.put, List.setIfInBounds_toArray, List.set_cons_zero, List.set_cons_succ]
          refine wpAnyIn_take (i := 26) (oi := { dst := some 31, op := .move (.tmp 1), type := _, pos := _, after := _, guard := _ }) (v := (.func (.yield l) #[] #[])) hro rfl (by kernel_rfl) (by kernel_rfl) (by kernel_rfl) (fun _ _ _ h => h) ⟨Or.inl ⟨by rfl, ?_⟩, fun _ => rfl⟩ ?_
          · intro w'
            go_simp
          try simp only [Act.put, List.setIfInBounds_toArray, List.set_cons_zero, List.set_cons_succ]
          refine wpAnyIn_ready (rs := [25]) (by kernel_rfl) (by simp) ?_
          refine AllReadyIn.cons (o := { dst := some 30, op := .load 70 (.tmp 29), type := _, pos := _, after := _, guard := _ }) rfl (fun K hK => ?_) AllReadyIn.nil
          go_simp
          refine hK _ _ ?_
          clear hK K
          try simp only [Act.put, List.setIfInBounds_toArray, List.set_cons_zero, List.set_cons_succ]
          refine wpAnyIn_ready (rs := [27]) (by kernel_rfl) (by simp) ?_
          refine AllReadyIn.cons (o := { dst := some 32, op := .call { callee := .value (.func 92), args := #[.tmp 30, .tmp 31], argTypes := #[70, 173] }, type := _, pos := _, after := _, guard := _ }) rfl (fun K hK => ?_) AllReadyIn.nil
          go_simp
          refine H3.out.mono ?_
          rintro e W3 (⟨rfl, j3, K3⟩ | ⟨rfl, q, hq, hx⟩)
          · gi_wp2
            try simp only [Act.put, List.setIfInBounds_toArray, List.set_cons_zero, List.set_cons_succ]
            refine wpAnyIn_take (i := 28) (oi := { dst := some 33, op := .pick (.tmp 26) (.tmp 32) (.const (.bool false)), type := _, pos := _, after := _, guard := _ }) (v := .bool true) hro rfl (by kernel_rfl) (by kernel_rfl) (by kernel_rfl) (fun _ _ _ h => h) ⟨Or.inl ⟨by rfl, ?_⟩, fun _ => rfl⟩ ?_
            · intro w'
              go_simp
            try simp only [Act.put, List.setIfInBounds_toArray, List.set_cons_zero, List.set_cons_succ]
            refine wpAnyIn_take (i := 29) (oi := { dst := some 34, op := .pick (.tmp 7) (.const (.bool true)) (.tmp 33), type := _, pos := _, after := _, guard := _ }) (v := .bool true) hro rfl (by kernel_rfl) (by kernel_rfl) (by kernel_rfl) (fun _ _ _ h => h) ⟨Or.inl ⟨by rfl, ?_⟩, fun _ => rfl⟩ ?_
            · intro w'
              go_simp
            try simp only [Act.put, List.setIfInBounds_toArray, List.set_cons_zero, List.set_cons_succ]
            refine wpAnyIn_take (i := 30) (oi := { dst := some 4, op := .assign (.tmp 34), type := _, pos := _, after := _, guard := _ }) (v := .bool true) hro rfl (by kernel_rfl) (by kernel_rfl) (by kernel_rfl) (fun _ _ _ h => h) ⟨Or.inl ⟨by rfl, ?_⟩, fun _ => rfl⟩ ?_
            · intro w'
              go_simp
            try simp only [Act.put, List.setIfInBounds_toArray, List.set_cons_zero, List.set_cons_succ]
            refine wpAnyIn_done (by kernel_rfl) ?_ _
            gi_wp2
            go_ret
            exact .inl ⟨rfl, j3, K3⟩
          · gi_wp2
            try simp only [Act.put, List.setIfInBounds_toArray, List.set_cons_zero, List.set_cons_succ]
            refine wpAnyIn_take (i := 28) (oi := { dst := some 33, op := .pick (.tmp 26) (.tmp 32) (.const (.bool false)), type := _, pos := _, after := _, guard := _ }) (v := .bool false) hro rfl (by kernel_rfl) (by kernel_rfl) (by kernel_rfl) (fun _ _ _ h => h) ⟨Or.inl ⟨by rfl, ?_⟩, fun _ => rfl⟩ ?_
            · intro w'
              go_simp
            try simp only [Act.put, List.setIfInBounds_toArray, List.set_cons_zero, List.set_cons_succ]
            refine wpAnyIn_take (i := 29) (oi := { dst := some 34, op := .pick (.tmp 7) (.const (.bool true)) (.tmp 33), type := _, pos := _, after := _, guard := _ }) (v := .bool false) hro rfl (by kernel_rfl) (by kernel_rfl) (by kernel_rfl) (fun _ _ _ h => h) ⟨Or.inl ⟨by rfl, ?_⟩, fun _ => rfl⟩ ?_
            · intro w'
              go_simp
            try simp only [Act.put, List.setIfInBounds_toArray, List.set_cons_zero, List.set_cons_succ]
            refine wpAnyIn_take (i := 30) (oi := { dst := some 4, op := .assign (.tmp 34), type := _, pos := _, after := _, guard := _ }) (v := .bool false) hro rfl (by kernel_rfl) (by kernel_rfl) (by kernel_rfl) (fun _ _ _ h => h) ⟨Or.inl ⟨by rfl, ?_⟩, fun _ => rfl⟩ ?_
            · intro w'
              go_simp
            try simp only [Act.put, List.setIfInBounds_toArray, List.set_cons_zero, List.set_cons_succ]
            refine wpAnyIn_done (by kernel_rfl) ?_ _
            gi_wp2
            go_ret
            exact .inr ⟨rfl, q, hq, hx⟩
        · clear hR hy
          gi_wp2
          try simp only [Act.put, List.setIfInBounds_toArray, List.set_cons_zero, List.set_cons_succ]
          refine wpAnyIn_take (i := 20) (oi := { dst := some 25, op := .pick (.tmp 14) (.tmp 24) (.const (.bool false)), type := _, pos := _, after := _, guard := _ }) (v := .bool false) hro rfl (by kernel_rfl) (by kernel_rfl) (by kernel_rfl) (fun _ _ _ h => h) ⟨Or.inl ⟨by rfl, ?_⟩, fun _ => rfl⟩ ?_
          · intro w'
            go_simp
          try simp only [Act.put, List.setIfInBounds_toArray, List.set_cons_zero, List.set_cons_succ]
          refine wpAnyIn_take (i := 21) (oi := { dst := some 26, op := .move (.tmp 25), type := _, pos := _, after := _, guard := _ }) (v := .bool false) hro rfl (by kernel_rfl) (by kernel_rfl) (by kernel_rfl) (fun _ _ _ h => h) ⟨Or.inl ⟨by rfl, ?_⟩, fun _ => rfl⟩ ?_
          · intro w'
            go_simp
          try simp only [Act.put, List.setIfInBounds_toArray, List.set_cons_zero, List.set_cons_succ]
          refine wpAnyIn_take (i := 22) (oi := { dst := some 27, op := .move (.tmp 0), type := _, pos := _, after := _, guard := _ }) (v := undef) hro rfl (by kernel_rfl) (by kernel_rfl) (by kernel_rfl) (fun _ _ _ h => h) ⟨Or.inr ⟨by rfl, rfl⟩, fun _ => rfl⟩ ?_
          try simp only [Act.put, List.setIfInBounds_toArray, List.set_cons_zero, List.set_cons_succ]
          refine wpAnyIn_take (i := 23) (oi := { dst := some 28, op := .nilCheck (.tmp 27), type := _, pos := _, after := _, guard := _ }) (v := undef) hro rfl (by kernel_rfl) (by kernel_rfl) (by kernel_rfl) (fun _ _ _ h => h) ⟨Or.inr ⟨by rfl, rfl⟩, fun _ => rfl⟩ ?_
          try simp only [Act.put, List.setIfInBounds_toArray, List.set_cons_zero, List.set_cons_succ]
          refine wpAnyIn_take (i := 24) (oi := { dst := some 29, op := .fieldAddr 168 (.tmp 28) 3, type := _, pos := _, after := _, guard := _ }) (v := undef) hro rfl (by kernel_rfl) (by kernel_rfl) (by kernel_rfl) (fun _ _ _ h => h) ⟨Or.inr ⟨by rfl, rfl⟩, fun _ => rfl⟩ ?_
          try simp only [Act.put, List.setIfInBounds_toArray, List.set_cons_zero, List.set_cons_succ]
          refine wpAnyIn_take (i := 25) (oi := { dst := some 30, op := .load 70 (.tmp 29), type := _, pos := _, after := _, guard := _ }) (v := undef) hro rfl (by kernel_rfl) (by kernel_rfl) (by kernel_rfl) (fun _ _ _ h => h) ⟨Or.inr ⟨by rfl, rfl⟩, fun _ => rfl⟩ ?_
          try simp only [Act.put, List.setIfInBounds_toArray, List.set_cons_zero, List.set_cons_succ]
          refine wpAnyIn_take (i := 26) (oi := { dst := some 31, op := .move (.tmp 1), type := _, pos := _, after := _, guard := _ }) (v := undef) hro rfl (by kernel_rfl) (by kernel_rfl) (by kernel_rfl) (fun _ _ _ h => h) ⟨Or.inr ⟨by rfl, rfl⟩, fun _ => rfl⟩ ?_
          try simp only [Act.put, List.setIfInBounds_toArray, List.set_cons_zero, List.set_cons_succ]
          refine wpAnyIn_ready (rs := [27]) (by kernel_rfl) (by simp) ?_
          refine AllReadyIn.cons (o := { dst := some 32, op := .call { callee := .value (.func 92), args := #[.tmp 30, .tmp 31], argTypes := #[70, 173] }, type := _, pos := _, after := _, guard := _ }) rfl (fun K hK => ?_) AllReadyIn.nil
          refine (show (∀ f, _ → F.fn f) ∧ K _ _ from ⟨fun f _ => hF f, hK _ _ ?_⟩)
          clear hK K
          try simp only [Act.put, List.setIfInBounds_toArray, List.set_cons_zero, List.set_cons_succ]
          refine wpAnyIn_take (i := 28) (oi := { dst := some 33, op := .pick (.tmp 26) (.tmp 32) (.const (.bool false)), type := _, pos := _, after := _, guard := _ }) (v := .bool false) hro rfl (by kernel_rfl) (by kernel_rfl) (by kernel_rfl) (fun _ _ _ h => h) ⟨Or.inl ⟨by rfl, ?_⟩, fun _ => rfl⟩ ?_
          · intro w'
            go_simp
          try simp only [Act.put, List.setIfInBounds_toArray, List.set_cons_zero, List.set_cons_succ]
          refine wpAnyIn_take (i := 29) (oi := { dst := some 34, op := .pick (.tmp 7) (.const (.bool true)) (.tmp 33), type := _, pos := _, after := _, guard := _ }) (v := .bool false) hro rfl (by kernel_rfl) (by kernel_rfl) (by kernel_rfl) (fun _ _ _ h => h) ⟨Or.inl ⟨by rfl, ?_⟩, fun _ => rfl⟩ ?_
          · intro w'
            go_simp
          try simp only [Act.put, List.setIfInBounds_toArray, List.set_cons_zero, List.set_cons_succ]
          refine wpAnyIn_take (i := 30) (oi := { dst := some 4, op := .assign (.tmp 34), type := _, pos := _, after := _, guard := _ }) (v := .bool false) hro rfl (by kernel_rfl) (by kernel_rfl) (by kernel_rfl) (fun _ _ _ h => h) ⟨Or.inl ⟨by rfl, ?_⟩, fun _ => rfl⟩ ?_
          · intro w'
            go_simp
          try simp only [Act.put, List.setIfInBounds_toArray, List.set_cons_zero, List.set_cons_succ]
          refine wpAnyIn_done (by kernel_rfl) ?_ _
          gi_wp2
          go_ret
          exact .inr ⟨rfl, ls ++ [(k, v)], HP.out, hx2⟩
      · gi_wp2
        try simp only [Act.put, List.setIfInBounds_toArray, List.set_cons_zero, List.set_cons_succ]
        refine wpAnyIn_take (i := 9) (oi := { dst := some 14, op := .move (.tmp 13), type := _, pos := _, after := _, guard := _ }) (v := .bool false) hro rfl (by kernel_rfl) (by kernel_rfl) (by kernel_rfl) (fun _ _ _ h => h) ⟨Or.inl ⟨by rfl, ?_⟩, fun _ => rfl⟩ ?_
        · intro w'
          go_simp
        try simp only [Act.put, List.setIfInBounds_toArray, List.set_cons_zero, List.set_cons_succ]
        refine wpAnyIn_take (i := 10) (oi := { dst := some 15, op := .move (.tmp 1), type := _, pos := _, after := _, guard := _ }) (v := undef) hro rfl (by kernel_rfl) (by kernel_rfl) (by kernel_rfl) (fun _ _ _ h => h) ⟨Or.inr ⟨by rfl, rfl⟩, fun _ => rfl⟩ ?_
        try simp only [Act.put, List.setIfInBounds_toArray, List.set_cons_zero, List.set_cons_succ]
        refine wpAnyIn_take (i := 11) (oi := { dst := some 16, op := .move (.tmp 0), type := _, pos := _, after := _, guard := _ }) (v := undef) hro rfl (by kernel_rfl) (by kernel_rfl) (by kernel_rfl) (fun _ _ _ h => h) ⟨Or.inr ⟨by rfl, rfl⟩, fun _ => rfl⟩ ?_
        try simp only [Act.put, List.setIfInBounds_toArray, List.set_cons_zero, List.set_cons_succ]
        refine wpAnyIn_take (i := 12) (oi := { dst := some 17, op := .nilCheck (.tmp 16), type := _, pos := _, after := _, guard := _ }) (v := undef) hro rfl (by kernel_rfl) (by kernel_rfl) (by kernel_rfl) (fun _ _ _ h => h) ⟨Or.inr ⟨by rfl, rfl⟩, fun _ => rfl⟩ ?_
        try simp only [Act.put, List.setIfInBounds_toArray, List.set_cons_zero, List.set_cons_succ]
        refine wpAnyIn_take (i := 13) (oi := { dst := some 18, op := .fieldAddr 168 (.tmp 17) 0, type := _, pos := _, after := _, guard := _ }) (v := undef) hro rfl (by kernel_rfl) (by kernel_rfl) (by kernel_rfl) (fun _ _ _ h => h) ⟨Or.inr ⟨by rfl, rfl⟩, fun _ => rfl⟩ ?_
        try simp only [Act.put, List.setIfInBounds_toArray, List.set_cons_zero, List.set_cons_succ]
        refine wpAnyIn_take (i := 14) (oi := { dst := some 19, op := .load 9 (.tmp 18), type := _, pos := _, after := _, guard := _ }) (v := undef) hro rfl (by kernel_rfl) (by kernel_rfl) (by kernel_rfl) (fun _ _ _ h => h) ⟨Or.inr ⟨by rfl, rfl⟩, fun _ => rfl⟩ ?_
        try simp only [Act.put, List.setIfInBounds_toArray, List.set_cons_zero, List.set_cons_succ]
        refine wpAnyIn_take (i := 15) (oi := { dst := some 20, op := .move (.tmp 0), type := _, pos := _, after := _, guard := _ }) (v := undef) hro rfl (by kernel_rfl) (by kernel_rfl) (by kernel_rfl) (fun _ _ _ h => h) ⟨Or.inr ⟨by rfl, rfl⟩, fun _ => rfl⟩ ?_
        try simp only [Act.put, List.setIfInBounds_toArray, List.set_cons_zero, List.set_cons_succ]
        refine wpAnyIn_take (i := 16) (oi := { dst := some 21, op := .nilCheck (.tmp 20), type := _, pos := _, after := _, guard := _ }) (v := undef) hro rfl (by kernel_rfl) (by kernel_rfl) (by kernel_rfl) (fun _ _ _ h => h) ⟨Or.inr ⟨by rfl, rfl⟩, fun _ => rfl⟩ ?_
        try simp only [Act.put, List.setIfInBounds_toArray, List.set_cons_zero, List.set_cons_succ]
        refine wpAnyIn_take (i := 17) (oi := { dst := some 22, op := .fieldAddr 168 (.tmp 21) 1, type := _, pos := _, after := _, guard := _ }) (v := undef) hro rfl (by kernel_rfl) (by kernel_rfl) (by kernel_rfl) (fun _ _ _ h => h) ⟨Or.inr ⟨by rfl, rfl⟩, fun _ => rfl⟩ ?_
        try simp only [Act.put, List.setIfInBounds_toArray, List.set_cons_zero, List.set_cons_succ]
        refine wpAnyIn_take (i := 18) (oi := { dst := some 23, op := .load 145 (.tmp 22), type := _, pos := _, after := _, guard := _ }) (v := undef) hro rfl (by kernel_rfl) (by kernel_rfl) (by kernel_rfl) (fun _ _ _ h => h) ⟨Or.inr ⟨by rfl, rfl⟩, fun _ => rfl⟩ ?_
        try simp only [Act.put, List.setIfInBounds_toArray, List.set_cons_zero, List.set_cons_succ]
        refine wpAnyIn_take (i := 19) (oi := { dst := some 24, op := .call { callee := .value (.tmp 15), args := #[.tmp 19, .tmp 23], argTypes := #[9, 145] }, type := _, pos := _, after := _, guard := _ }) (v := undef) hro rfl (by kernel_rfl) (by kernel_rfl) (by kernel_rfl) (fun _ _ _ h => h) ⟨Or.inr ⟨by rfl, rfl⟩, fun _ => rfl⟩ ?_
        try simp only [Act.put, List.setIfInBounds_toArray, List.set_cons_zero, List.set_cons_succ]
        refine wpAnyIn_take (i := 20) (oi := { dst := some 25, op := .pick (.tmp 14) (.tmp 24) (.const (.bool false)), type := _, pos := _, after := _, guard := _ }) (v := .bool false) hro rfl (by kernel_rfl) (by kernel_rfl) (by kernel_rfl) (fun _ _ _ h => h) ⟨Or.inl ⟨by rfl, ?_⟩, fun _ => rfl⟩ ?_
        · intro w'
          go_simp
        try simp only [Act.put, List.setIfInBounds_toArray, List.set_cons_zero, List.set_cons_succ]
        refine wpAnyIn_take (i := 21) (oi := { dst := some 26, op := .move (.tmp 25), type := _, pos := _, after := _, guard := _ }) (v := .bool false) hro rfl (by kernel_rfl) (by kernel_rfl) (by kernel_rfl) (fun _ _ _ h => h) ⟨Or.inl ⟨by rfl, ?_⟩, fun _ => rfl⟩ ?_
        · intro w'
          go_simp
        try simp only [Act.put, List.setIfInBounds_toArray, List.set_cons_zero, List.set_cons_succ]
        refine wpAnyIn_take (i := 22) (oi := { dst := some 27, op := .move (.tmp 0), type := _, pos := _, after := _, guard := _ }) (v := undef) hro rfl (by kernel_rfl) (by kernel_rfl) (by kernel_rfl) (fun _ _ _ h => h) ⟨Or.inr ⟨by rfl, rfl⟩, fun _ => rfl⟩ ?_
        try simp only [Act.put, List.setIfInBounds_toArray, List.set_cons_zero, List.set_cons_succ]
        refine wpAnyIn_take (i := 23) (oi := { dst := some 28, op := .nilCheck (.tmp 27), type := _, pos := _, after := _, guard := _ }) (v := undef) hro rfl (by kernel_rfl) (by kernel_rfl) (by kernel_rfl) (fun _ _ _ h => h) ⟨Or.inr ⟨by rfl, rfl⟩, fun _ => rfl⟩ ?_
        try simp only [Act.put, List.setIfInBounds_toArray, List.set_cons_zero, List.set_cons_succ]
        refine wpAnyIn_take (i := 24) (oi := { dst := some 29, op := .fieldAddr 168 (.tmp 28) 3, type := _, pos := _, after := _, guard := _ }) (v := undef) hro rfl (by kernel_rfl) (by kernel_rfl) (by kernel_rfl) (fun _ _ _ h => h) ⟨Or.inr ⟨by rfl, rfl⟩, fun _ => rfl⟩ ?_
        try simp only [Act.put, List.setIfInBounds_toArray, List.set_cons_zero, List.set_cons_succ]
        refine wpAnyIn_take (i := 25) (oi := { dst := some 30, op := .load 70 (.tmp 29), type := _, pos := _, after := _, guard := _ }) (v := undef) hro rfl (by kernel_rfl) (by kernel_rfl) (by kernel_rfl) (fun _ _ _ h => h) ⟨Or.inr ⟨by rfl, rfl⟩, fun _ => rfl⟩ ?_
        try simp only [Act.put, List.setIfInBounds_toArray, List.set_cons_zero, List.set_cons_succ]
        refine wpAnyIn_take (i := 26) (oi := { dst := some 31, op := .move (.tmp 1), type := _, pos := _, after := _, guard := _ }) (v := undef) hro rfl (by kernel_rfl) (by kernel_rfl) (by kernel_rfl) (fun _ _ _ h => h) ⟨Or.inr ⟨by rfl, rfl⟩, fun _ => rfl⟩ ?_
        try simp only [Act.put, List.setIfInBounds_toArray, List.set_cons_zero, List.set_cons_succ]
        refine wpAnyIn_ready (rs := [27]) (by kernel_rfl) (by simp) ?_
        refine AllReadyIn.cons (o := { dst := some 32, op := .call { callee := .value (.func 92), args := #[.tmp 30, .tmp 31], argTypes := #[70, 173] }, type := _, pos := _, after := _, guard := _ }) rfl (fun K hK => ?_) AllReadyIn.nil
        refine (show (∀ f, _ → F.fn f) ∧ K _ _ from ⟨fun f _ => hF f, hK _ _ ?_⟩)
        clear hK K
        try simp only [Act.put, List.setIfInBounds_toArray, List.set_cons_zero, List.set_cons_succ]
        refine wpAnyIn_take (i := 28) (oi := { dst := some 33, op := .pick (.tmp 26) (.tmp 32) (.const (.bool false)), type := _, pos := _, after := _, guard := _ }) (v := .bool false) hro rfl (by kernel_rfl) (by kernel_rfl) (by kernel_rfl) (fun _ _ _ h => h) ⟨Or.inl ⟨by rfl, ?_⟩, fun _ => rfl⟩ ?_
        · intro w'
          go_simp
        try simp only [Act.put, List.setIfInBounds_toArray, List.set_cons_zero, List.set_cons_succ]
        refine wpAnyIn_take (i := 29) (oi := { dst := some 34, op := .pick (.tmp 7) (.const (.bool true)) (.tmp 33), type := _, pos := _, after := _, guard := _ }) (v := .bool false) hro rfl (by kernel_rfl) (by kernel_rfl) (by kernel_rfl) (fun _ _ _ h => h) ⟨Or.inl ⟨by rfl, ?_⟩, fun _ => rfl⟩ ?_
        · intro w'
          go_simp
        try simp only [Act.put, List.setIfInBounds_toArray, List.set_cons_zero, List.set_cons_succ]
        refine wpAnyIn_take (i := 30) (oi := { dst := some 4, op := .assign (.tmp 34), type := _, pos := _, after := _, guard := _ }) (v := .bool false) hro rfl (by kernel_rfl) (by kernel_rfl) (by kernel_rfl) (fun _ _ _ h => h) ⟨Or.inl ⟨by rfl, ?_⟩, fun _ => rfl⟩ ?_
        · intro w'
          go_simp
        try simp only [Act.put, List.setIfInBounds_toArray, List.set_cons_zero, List.set_cons_succ]
        refine wpAnyIn_done (by kernel_rfl) ?_ _
        gi_wp2
        go_ret
        exact .inr ⟨rfl, q, hq.trans HQ.out, hx⟩
end OmapB
end Go.Proofs.YtohdlnefgieenaaGreat

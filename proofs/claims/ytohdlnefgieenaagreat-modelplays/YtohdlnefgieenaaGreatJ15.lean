/-
  What with, without, least and find of an ordered map (layer 4) of texts to nothing come to.
-/
import Derived.Test.YtohdlnefgieenaaGreatJ14
import Derived.Shelf.Abstract
import Derived.Test.YtohdlnefgieenaaGreatJ5
import Derived.Test.YtohdlnefgieenaaGreatJ1
namespace Go.Proofs.YtohdlnefgieenaaGreat
open Go.RowKit
namespace OmapU
abbrev lt (a b : ByteArray) : Prop := a.toList < b.toList
theorem less_eq : ∀ (x y : List UInt8), Op.bytesLess x y = decide (x < y)
 | [], [] => by simp [Op.bytesLess]
 | _ :: _, [] => by simp [Op.bytesLess]
 | [], _ :: _ => by simp [Op.bytesLess]
 | a :: x, b :: y => by
   rw [Op.bytesLess, less_eq x y, Bool.eq_iff_iff]
   simp [List.cons_lt_cons_iff]
theorem ext {a b : ByteArray} (h : a.toList = b.toList) : a = b := by
 rw [ByteArray.toList_eq, ByteArray.toList_eq] at h
 exact ByteArray.ext (Array.toList_inj.1 h)
theorem tri : Law.Tri lt where
 irr := fun a => List.lt_irrefl a.toList
 tr := fun h h' => List.lt_trans h h'
 tri := fun a b => by
  by_cases h : a.toList < b.toList
  ·exact .inl h
  ·by_cases h' : b.toList < a.toList
   ·exact .inr (.inr h')
   ·exact .inr (.inl (ext (List.le_antisymm h' h)))
theorem cmp (k a : ByteArray) : (lt k a ∧ Op.bytesLess k.toList a.toList = true ∧ (a.toList == k.toList) = false) ∨ (k = a ∧ Op.bytesLess k.toList k.toList = false) ∨ (lt a k ∧ Op.bytesLess k.toList a.toList = false ∧ (k.toList == a.toList) = false ∧ (a.toList == k.toList) = false) := by
 rcases tri.tri k a with h | h | h
 ·exact .inl ⟨h, by rw [less_eq]; simpa using h, by simpa using fun e => tri.ne h (ext e.symm)⟩
 ·subst h
  exact .inr (.inl ⟨rfl, by rw [less_eq]; simp⟩)
 ·exact .inr (.inr ⟨h, by rw [less_eq]; simpa using tri.asym h, by simpa using fun e => tri.ne h (ext e.symm), by simpa using fun e => tri.ne h (ext e)⟩)

set_option maxRecDepth 100000 in
set_option maxHeartbeats 4000000 in
theorem with_ (k : ByteArray) (v : Int) : ∀ (n : Nat) (w : World) (B : Nat) (p : Option Addr) (xs : List (ByteArray × Int)), xs.length ≤ n → At w B p xs → B ≤ w.heap.size → Law.Rises lt xs → xs.length ≤ 999 →
  Calls Tryz.prog 118 #[.pointer p, .string k, .agg #[]] w (Made w (Law.putK lt k v xs)) := by
 intro n
 induction n with
 | zero =>
   intro w B p xs hn h hB _ _
   obtain rfl := List.eq_nil_of_length_eq_zero (by omega : xs.length = 0)
   obtain rfl := h.is_nil
   clear h
   go_enter Tryz.func118, Tryz.ntmps118
   go_wp2_with fail
   go_ret
   exact ⟨_, rfl, Law.Tree0.new (ls := []) (rs := []) .nil .nil (by simp) rfl, ((Below.refl _ w).alloc (Nat.le_refl _) _).alloc (by simp) _⟩
 | succ n ih =>
   intro w B p xs hn h hB hR hx
   cases p with
   | none =>
     obtain rfl := h.of_nil
     exact ih w B none [] (Nat.zero_le _) h hB hR hx
   | some ad =>
     obtain ⟨b, l, r, ls, rs, a, u, rfl, rfl, hb, hi, hl, hr⟩ := (h.wide hB).of_some
     have c0 := hi.cell 0
     have c5 := hi.cell 1
     have c6 := hi.cell 2
     have c7 := hi.cell 3
     simp only [List.getElem?_toArray, List.getElem?_cons_zero, List.getElem?_cons_succ] at c0 c5 c6 c7
     have HN : Hid ((ls ++ (a, u) :: rs).length = ls.length + (rs.length + 1)) := by show _ = _; simp
     rw [HN.out] at hn hx
     obtain ⟨W1, hW⟩ : ∃ W1, w.alloc (.cells #[] 157) = W1 := ⟨_, rfl⟩
     have KW : Kept w W1 := by rw [← hW]; exact (Below.refl _ w).alloc (Nat.le_refl _) _
     have iB : Law.Is W1 w.heap.size 157 #[] := by rw [← hW]; exact Law.Is.new _ _ _ rfl
     have hg : w.heap.size < W1.heap.size := by rw [← hW]; simp
     have hb1 : b < W1.heap.size := by omega
     have d0 := KW.cell hb c0
     have d1 := KW.val (val_of hi)
     have hl1 := KW.after hl
     have hr1 := KW.after hr
     have HW := Lib.hid hW
     have HKW := Lib.hid KW
     have HK : Hid (∀ w', Kept W1 w' → (w'.cell? ⟨b, 1, none⟩ = some (.pointer l) ∧ w'.cell? ⟨b, 2, none⟩ = some (.pointer r) ∧ w'.cell? ⟨b, 3, none⟩ = some (.int .i64 ((ls ++ (a, u) :: rs).length : Int))) ∧ Kept W1 w') := fun w' K => ⟨⟨K.cell hb1 (KW.cell hb c5), K.cell hb1 (KW.cell hb c6), K.cell hb1 (KW.cell hb c7)⟩, K⟩
     have K0 : Kept W1 (W1.drewN 1) := Kept.drew W1
     have pl := Law.putK_length lt k v ls
     have pr := Law.putK_length lt k v rs
     clear KW hW iB
     rcases cmp k a with ⟨hlt, e1, _⟩ | ⟨rfl, e1⟩ | ⟨hgt, e1, e2, _⟩
     ·have HI : Hid (∀ w', Kept W1 w' → Calls Tryz.prog 118 #[.pointer l, .string k, .agg #[]] w' (Next W1 w' (Law.putK lt k v ls))) := fun w' K =>
       Made.next K (ih w' _ l ls (by omega) (K.after hl1) (Nat.le_refl _) hR.left (by omega))
      have HA : Hid (∀ w' p1, Kept W1 w' → At w' w'.heap.size p1 (Law.putK lt k v ls) → Calls Tryz.prog 119 #[.pointer (some ⟨b, 0, none⟩), .pointer p1, .pointer r] w' (Next W1 w' (Law.putK lt k v ls ++ (a, u) :: rs))) := fun w' p1 K t1 =>
       balanced_next d0 d1 hb1 K t1 (K.after hr1) (by omega)
      have HE := Lib.hid (Law.putK_left lt hlt (v := v) (b := u) (ys := rs) ls)
      clear ih h hR hi hl hr hlt c5 c6 c7 pl pr hl1 hr1 d0 d1
      generalize (ls ++ (a, u) :: rs).length = m at *
      go_enter Tryz.func118, Tryz.ntmps118
      go_wp2_with fail
      rw [HW.out]
      go_region_held3 (fun w' => (w'.cell? ⟨b, 1, none⟩ = some (.pointer l) ∧ w'.cell? ⟨b, 2, none⟩ = some (.pointer r) ∧ w'.cell? ⟨b, 3, none⟩ = some (.int .i64 (m : Int))) ∧ Kept W1 w') (exact HK.out _ (by assumption)) (first
       | (go_at_call 118; refine (HI.out _ (by assumption)).mono ?_; rintro e w1 ⟨p1, rfl, t1, K1, _⟩; have T1 := Lib.hid t1; clear t1)
       | (go_at_call 119; refine (HA.out _ _ (by assumption) T1.out).mono ?_; rintro e w2 ⟨p2, rfl, t2, K2, _⟩; have T2 := Lib.hid t2; clear t2))
      go_wp2_with fail
      go_ret
      exact ⟨_, rfl, by rw [HE.out]; exact T2.out, Below.trans HKW.out (Below.mono K2 HKW.out.size)⟩
     ·have HE := Lib.hid (Law.putK_same lt tri (v := v) (b := u) (ys := rs) ls hR)
      have HL := Lib.hid hl1
      have HR := Lib.hid hr1
      have HZ : Hid (((ls ++ (k, u) :: rs).length : Int) = ((ls ++ (k, v) :: rs).length : Int)) := by show _ = _; simp
      clear ih h hR hi hl hr pl pr HN hl1 hr1 d0 d1 c5 c6 c7
      obtain ⟨z0, z1, z2⟩ := (HK.out W1 (Below.refl _ _)).1
      clear HK K0
      generalize (ls ++ (k, u) :: rs).length = m at *
      go_enter Tryz.func118, Tryz.ntmps118
      go_wp2_with fail
      rw [HW.out]
      go_region_held3 (fun w' => w'.cell? ⟨b, 1, none⟩ = some (.pointer l) ∧ w'.cell? ⟨b, 2, none⟩ = some (.pointer r) ∧ w'.cell? ⟨b, 3, none⟩ = some (.int .i64 (m : Int))) (go_keep) (fail)
      go_wp2_with fail
      go_ret
      exact ⟨_, rfl, by rw [HE.out]; exact Law.Tree0.new (HL.out.drewN 1) (HR.out.drewN 1) rfl HZ.out, (Law.below_drewN HKW.out 1).alloc (by simp; omega) _⟩
     ·have HI : Hid (∀ w', Kept W1 w' → Calls Tryz.prog 118 #[.pointer r, .string k, .agg #[]] w' (Next W1 w' (Law.putK lt k v rs))) := fun w' K =>
       Made.next K (ih w' _ r rs (by omega) (K.after hr1) (Nat.le_refl _) hR.right (by omega))
      have HA : Hid (∀ w' p1, Kept W1 w' → At w' w'.heap.size p1 (Law.putK lt k v rs) → Calls Tryz.prog 119 #[.pointer (some ⟨b, 0, none⟩), .pointer l, .pointer p1] w' (Next W1 w' (ls ++ (a, u) :: Law.putK lt k v rs))) := fun w' p1 K t1 =>
       balanced_next d0 d1 hb1 K (K.after hl1) t1 (by omega)
      have HE := Lib.hid (Law.putK_right lt tri hgt (v := v) (b := u) (ys := rs) ls hR)
      clear ih h hR hi hl hr hgt c5 c6 c7 pl pr hl1 hr1 d0 d1
      generalize (ls ++ (a, u) :: rs).length = m at *
      go_enter Tryz.func118, Tryz.ntmps118
      go_wp2_with fail
      rw [HW.out]
      go_region_held3 (fun w' => (w'.cell? ⟨b, 1, none⟩ = some (.pointer l) ∧ w'.cell? ⟨b, 2, none⟩ = some (.pointer r) ∧ w'.cell? ⟨b, 3, none⟩ = some (.int .i64 (m : Int))) ∧ Kept W1 w') (exact HK.out _ (by assumption)) (first
       | (go_at_call 118; refine (HI.out _ (by assumption)).mono ?_; rintro e w1 ⟨p1, rfl, t1, K1, _⟩; have T1 := Lib.hid t1; clear t1)
       | (go_at_call 119; refine (HA.out _ _ (by assumption) T1.out).mono ?_; rintro e w2 ⟨p2, rfl, t2, K2, _⟩; have T2 := Lib.hid t2; clear t2))
      go_wp2_with fail
      go_ret
      exact ⟨_, rfl, by rw [HE.out]; exact T2.out, Below.trans HKW.out (Below.mono K2 HKW.out.size)⟩

set_option maxHeartbeats 1000000 in
theorem least {w : World} {B : Nat} {p : Option Addr} {k : ByteArray} {v : Int} {xs : List (ByteArray × Int)} (h : At w B p ((k, v) :: xs)) :
  Calls Tryz.prog 120 #[.pointer p] w fun e w' => ∃ b, e = .returned (.pointer (some ⟨b, 0, none⟩)) ∧ w = w' ∧ b < B ∧ w.cell? ⟨b, 0, none⟩ = some (.string k) ∧ Val w b v := by
 have H := Lib.hid h
 clear h
 go_enter Tryz.func120, Tryz.ntmps120
 go_wp2_with fail
 go_loop [0] (fun q => ∃ p' zs, q = .pointer p' ∧ At w B p' ((k, v) :: zs)) (fun q => Law.sizeAt0 w q)
 case atStart => exact ⟨p, xs, rfl, H.out⟩
 case round =>
  obtain ⟨p', zs, rfl, hz⟩ := hrel
  obtain ⟨b, l, r, ls, rs, a, u, rfl, hzs, hb, hi, hl, _⟩ := hz.full (by simp)
  have HM : Hid (Law.sizeAt0 w (.pointer (some ⟨b, 0, none⟩)) = ls.length + (rs.length + 1)) := by show _ = _; rw [hz.size, hzs]; simp
  have HL := Lib.hid hl
  have c0 := hi.cell 0
  have c1 := val_of hi
  have c2 := hi.cell 1
  simp only [List.getElem?_toArray, List.getElem?_cons_zero, List.getElem?_cons_succ] at c0 c1 c2
  have HZ := Lib.hid hzs
  clear hz hi hl hzs H
  cases l with
  | none =>
    obtain rfl := HL.out.of_nil
    have e1 : k = a ∧ v = u := by have := HZ.out; simp at this; exact ⟨this.1.1, this.1.2⟩
    obtain ⟨rfl, rfl⟩ := e1
    go_wp2_with fail
    go_ret
    exact ⟨b, rfl, rfl, hb, c0, c1⟩
  | some ad =>
    obtain ⟨b', l', r', ls', rs', a', u', rfl, rfl, _⟩ := HL.out.of_some
    have HN : Hid (∃ zs', At w B (some ⟨b', 0, none⟩) ((k, v) :: zs')) := by
     have h1 := HL.out
     have h2 := HZ.out
     show ∃ zs', _
     cases ls' with
     | nil =>
       simp at h1 h2
       rw [h2.1.1, h2.1.2]
       exact ⟨_, h1⟩
     | cons q ls' =>
       simp at h1 h2
       rw [← h2.1] at h1
       exact ⟨_, h1⟩
    have HS := Lib.hid HL.out.size
    clear HL HZ
    go_wp2_with fail
    go_round
    case rel =>
     obtain ⟨zs', h'⟩ := HN.out
     exact ⟨_, zs', rfl, h'⟩
    case measure =>
     rw [HS.out, HM.out]
     omega

def Found (w : World) (B : Nat) (o : Option Int) (e : Ending) (w' : World) : Prop :=
 w = w' ∧ ((e = .returned (.pointer none) ∧ o = none) ∨ ∃ b u, e = .returned (.pointer (some ⟨b, 0, none⟩)) ∧ b < B ∧ Val w b u ∧ o = some u)

set_option maxHeartbeats 1000000 in
theorem find {w : World} {B : Nat} {p : Option Addr} (k : ByteArray) {xs : List (ByteArray × Int)} (h : At w B p xs) (hR : Law.Rises lt xs) :
  Calls Tryz.prog 116 #[.pointer p, .string k] w (Found w B (Law.getK k xs)) := by
 have H := Lib.hid h
 have HR := Lib.hid hR
 clear h hR
 go_enter Tryz.func116, Tryz.ntmps116
 go_wp2_with fail
 go_loop [0] (fun q => ∃ p' zs, q = .pointer p' ∧ At w B p' zs ∧ Law.Rises lt zs ∧ Law.getK k zs = Law.getK k xs) (fun q => Law.sizeAt0 w q)
 case atStart => exact ⟨p, xs, rfl, H.out, HR.out, rfl⟩
 case round =>
  obtain ⟨p', zs, rfl, hz, hrz, hg⟩ := hrel
  have HG := Lib.hid hg
  clear H HR hg
  cases p' with
  | none =>
    obtain rfl := hz.of_nil
    clear hz hrz
    go_wp2_with fail
    go_ret
    exact ⟨rfl, .inl ⟨rfl, HG.out.symm⟩⟩
  | some ad =>
    obtain ⟨b, l, r, ls, rs, a, u, rfl, rfl, hb, hi, hl, hr⟩ := hz.of_some
    have HM : Hid (Law.sizeAt0 w (.pointer (some ⟨b, 0, none⟩)) = ls.length + (rs.length + 1)) := by show _ = _; rw [hz.size]; simp
    have c0 := hi.cell 0
    have c1 := val_of hi
    have c2 := hi.cell 1
    have c3 := hi.cell 2
    simp only [List.getElem?_toArray, List.getElem?_cons_zero, List.getElem?_cons_succ] at c0 c1 c2 c3
    have HZ := Lib.hid hrz
    have HL := Lib.hid hl
    have HR := Lib.hid hr
    clear hz hrz hi hl hr
    rcases cmp k a with ⟨hlt, d1, d2⟩ | ⟨rfl, d1⟩ | ⟨hgt, d1, d2, d3⟩
    ·have HE := Lib.hid ((Law.getK_left lt tri hlt HZ.out).symm.trans HG.out)
     have HS := Lib.hid HL.out.size
     clear hlt
     go_wp2_with fail
     go_round
     case rel => exact ⟨_, ls, rfl, HL.out, HZ.out.left, HE.out⟩
     case measure => rw [HS.out, HM.out]; omega
    ·have HE := Lib.hid ((Law.getK_same lt tri HZ.out).symm.trans HG.out)
     go_wp2_with fail
     go_ret
     exact ⟨rfl, .inr ⟨b, u, rfl, hb, c1, HE.out.symm⟩⟩
    ·have HE := Lib.hid ((Law.getK_right lt tri hgt HZ.out).symm.trans HG.out)
     have HS := Lib.hid HR.out.size
     clear hgt
     go_wp2_with fail
     go_round
     case rel => exact ⟨_, rs, rfl, HR.out, HZ.out.right, HE.out⟩
     case measure => rw [HS.out, HM.out]; omega

set_option maxRecDepth 100000 in
set_option maxHeartbeats 4000000 in
theorem without : ∀ (n : Nat) (k : ByteArray) (w : World) (B : Nat) (p : Option Addr) (xs : List (ByteArray × Int)), xs.length ≤ n → At w B p xs → B ≤ w.heap.size → Law.Rises lt xs → xs.length ≤ 999 →
  Calls Tryz.prog 104 #[.pointer p, .string k] w (Made w (Law.outK k xs)) := by
 intro n
 induction n with
 | zero =>
   intro k w B p xs hn h hB _ _
   obtain rfl := List.eq_nil_of_length_eq_zero (by omega : xs.length = 0)
   obtain rfl := h.is_nil
   clear h
   go_enter Tryz.func104, Tryz.ntmps104
   go_wp2_with fail
   go_ret
   exact ⟨_, rfl, .nil, Below.refl _ w⟩
 | succ n ih =>
   intro k w B p xs hn h hB hR hx
   cases p with
   | none =>
     obtain rfl := h.of_nil
     exact ih k w B none [] (Nat.zero_le _) h hB hR hx
   | some ad =>
     obtain ⟨b, l, r, ls, rs, a, u, rfl, rfl, hb, hi, hl, hr⟩ := (h.wide hB).of_some
     have c0 := hi.cell 0
     have c1 := val_of hi
     have c2 := hi.cell 1
     have c3 := hi.cell 2
     simp only [List.getElem?_toArray, List.getElem?_cons_zero, List.getElem?_cons_succ] at c0 c1 c2 c3
     have HN : Hid ((ls ++ (a, u) :: rs).length = ls.length + (rs.length + 1)) := by show _ = _; simp
     rw [HN.out] at hn hx
     have HK : Hid (∀ w', Kept w w' → w'.cell? ⟨b, 1, none⟩ = some (.pointer l) ∧ w'.cell? ⟨b, 2, none⟩ = some (.pointer r) ∧ Kept w w') := fun w' K => ⟨K.cell hb c2, K.cell hb c3, K⟩
     have K0 : Kept w (w.drewN 1) := Kept.drew w
     have pl := Law.outK_length k ls
     have pr := Law.outK_length k rs
     rcases cmp k a with ⟨hlt, d1, _⟩ | ⟨rfl, d1⟩ | ⟨hgt, d1, d2, _⟩
     ·have HI : Hid (∀ w', Kept w w' → Calls Tryz.prog 104 #[.pointer l, .string k] w' (Next w w' (Law.outK k ls))) := fun w' K =>
       Made.next K (ih k w' _ l ls (by omega) (K.after hl) (Nat.le_refl _) hR.left (by omega))
      have HA : Hid (∀ w' p1, Kept w w' → At w' w'.heap.size p1 (Law.outK k ls) → Calls Tryz.prog 119 #[.pointer (some ⟨b, 0, none⟩), .pointer p1, .pointer r] w' (Next w w' (Law.outK k ls ++ (a, u) :: rs))) := fun w' p1 K t1 =>
       balanced_next c0 c1 hb K t1 (K.after hr) (by omega)
      have HE := Lib.hid (Law.outK_left lt tri hlt hR)
      clear ih h hR hi hl hr hlt c1 pl pr
      go_enter Tryz.func104, Tryz.ntmps104
      go_wp2_with fail
      go_region_held3 (fun w' => w'.cell? ⟨b, 1, none⟩ = some (.pointer l) ∧ w'.cell? ⟨b, 2, none⟩ = some (.pointer r) ∧ Kept w w') (exact HK.out _ (by assumption)) (first
       | (go_at_call 104; refine (HI.out _ (by assumption)).mono ?_; rintro e w1 ⟨p1, rfl, t1, K1, _⟩; have T1 := Lib.hid t1; clear t1)
       | (go_at_call 119; refine (HA.out _ _ (by assumption) T1.out).mono ?_; rintro e w2 ⟨p2, rfl, t2, K2, _⟩; have T2 := Lib.hid t2; clear t2))
      go_wp2_with fail
      go_ret
      exact ⟨_, rfl, by rw [HE.out]; exact T2.out, K2⟩
     ·have HE := Lib.hid (Law.outK_same lt tri hR)
      have HL := Lib.hid hl
      have HR := Lib.hid hr
      cases l with
      | none =>
        obtain rfl := HL.out.of_nil
        clear ih h hR hi hl hr pl pr HK K0 HN c1
        go_enter Tryz.func104, Tryz.ntmps104
        go_wp2_with fail
        go_ret
        exact ⟨_, rfl, by have := HE.out; simp only [List.nil_append] at this; rw [this]; exact HR.out, Below.refl _ w⟩
      | some la =>
        cases r with
        | none =>
          obtain rfl := HR.out.of_nil
          clear ih h hR hi hl hr pl pr HK K0 HN c1
          go_enter Tryz.func104, Tryz.ntmps104
          go_wp2_with fail
          go_ret
          exact ⟨_, rfl, by rw [HE.out, List.append_nil]; exact HL.out, Below.refl _ w⟩
        | some ra =>
          obtain ⟨nk, nv, rt, rfl⟩ : ∃ nk nv rt, rs = (nk, nv) :: rt := by
           cases rs with
           | nil => have := hr.is_nil; cases this
           | cons q rt => exact ⟨q.1, q.2, rt, rfl⟩
          have hrt : Law.outK nk ((nk, nv) :: rt) = rt := Law.outK_same (xs := []) lt tri hR.right
          have HI : Hid (∀ w', Kept w w' → Calls Tryz.prog 104 #[.pointer (some ra), .string nk] w' (Next w w' rt)) := fun w' K => by
           have := Made.next K (ih nk w' _ (some ra) ((nk, nv) :: rt) (by omega) (K.after hr) (Nat.le_refl _) hR.right (by omega))
           rwa [hrt] at this
          have HA : Hid (∀ b' w' p1, b' < w.heap.size → w.cell? ⟨b', 0, none⟩ = some (.string nk) → Val w b' nv → Kept w w' → At w' w'.heap.size p1 rt →
            Calls Tryz.prog 119 #[.pointer (some ⟨b', 0, none⟩), .pointer (some la), .pointer p1] w' (Next w w' (ls ++ (nk, nv) :: rt))) := fun b' w' p1 hb' e0 e1 K t1 =>
           balanced_next e0 e1 hb' K (K.after hl) t1 (by simp at hx; omega)
          clear ih h hR hi hl hr pl pr HK HN c1 hrt HL
          go_enter Tryz.func104, Tryz.ntmps104
          go_wp2_with fail
          refine (least HR.out).mono ?_
          rintro e w' ⟨nb, rfl, rfl, hnb, n0, n1⟩
          have HB := Lib.hid (HA.out nb · · hnb n0 n1)
          have HK : Hid (∀ w', Kept w w' → w'.cell? ⟨b, 1, none⟩ = some (.pointer (some la)) ∧ w'.cell? ⟨b, 2, none⟩ = some (.pointer (some ra)) ∧ w'.cell? ⟨nb, 0, none⟩ = some (.string nk) ∧ Kept w w') := fun w' K => ⟨K.cell hb c2, K.cell hb c3, K.cell hnb n0, K⟩
          clear HA n1
          go_wp2_with fail
          go_region_held3 (fun w' => w'.cell? ⟨b, 1, none⟩ = some (.pointer (some la)) ∧ w'.cell? ⟨b, 2, none⟩ = some (.pointer (some ra)) ∧ w'.cell? ⟨nb, 0, none⟩ = some (.string nk) ∧ Kept w w') (exact HK.out _ (by assumption)) (first
           | (go_at_call 104; refine (HI.out _ (by assumption)).mono ?_; rintro e w1 ⟨p1, rfl, t1, K1, _⟩; have T1 := Lib.hid t1; clear t1)
           | (go_at_call 119; refine (HB.out _ _ (by assumption) T1.out).mono ?_; rintro e w2 ⟨p2, rfl, t2, K2, _⟩; have T2 := Lib.hid t2; clear t2))
          go_wp2_with fail
          go_ret
          exact ⟨_, rfl, by rw [HE.out]; exact T2.out, K2⟩
     ·have HI : Hid (∀ w', Kept w w' → Calls Tryz.prog 104 #[.pointer r, .string k] w' (Next w w' (Law.outK k rs))) := fun w' K =>
       Made.next K (ih k w' _ r rs (by omega) (K.after hr) (Nat.le_refl _) hR.right (by omega))
      have HA : Hid (∀ w' p1, Kept w w' → At w' w'.heap.size p1 (Law.outK k rs) → Calls Tryz.prog 119 #[.pointer (some ⟨b, 0, none⟩), .pointer l, .pointer p1] w' (Next w w' (ls ++ (a, u) :: Law.outK k rs))) := fun w' p1 K t1 =>
       balanced_next c0 c1 hb K (K.after hl) t1 (by omega)
      have HE := Lib.hid (Law.outK_right lt tri hgt hR)
      clear ih h hR hi hl hr hgt c1 pl pr
      go_enter Tryz.func104, Tryz.ntmps104
      go_wp2_with fail
      go_region_held3 (fun w' => w'.cell? ⟨b, 1, none⟩ = some (.pointer l) ∧ w'.cell? ⟨b, 2, none⟩ = some (.pointer r) ∧ Kept w w') (exact HK.out _ (by assumption)) (first
       | (go_at_call 104; refine (HI.out _ (by assumption)).mono ?_; rintro e w1 ⟨p1, rfl, t1, K1, _⟩; have T1 := Lib.hid t1; clear t1)
       | (go_at_call 119; refine (HA.out _ _ (by assumption) T1.out).mono ?_; rintro e w2 ⟨p2, rfl, t2, K2, _⟩; have T2 := Lib.hid t2; clear t2))
      go_wp2_with fail
      go_ret
      exact ⟨_, rfl, by rw [HE.out]; exact T2.out, K2⟩
end OmapU
end Go.Proofs.YtohdlnefgieenaaGreat
namespace Go.Proofs.YtohdlnefgieenaaGreat
open Go.RowKit Go.Shelf
attribute [local go_sem] Oper.semAt_some
namespace OmapU
abbrev M (p : Option Addr) : Value := .agg #[.pointer p]
def MadeM (w : World) (zs : List (ByteArray × Int)) (e : Ending) (w' : World) : Prop := ∃ p, e = .returned (M p) ∧ At w' w'.heap.size p zs ∧ Below w.heap.size w w'

set_option maxHeartbeats 1000000 in
theorem withM (k : ByteArray) (v : Int) {w : World} {B : Nat} {p : Option Addr} {xs : List (ByteArray × Int)} (h : At w B p xs) (hB : B ≤ w.heap.size) (hR : Law.Rises lt xs) (hx : xs.length ≤ 999) :
  Calls Tryz.prog 103 #[M p, .string k, .agg #[]] w (MadeM w (Law.putK lt k v xs)) := by
 have H := Lib.hid h
 have HR := Lib.hid hR
 clear h hR
 go_enter Tryz.func103, Tryz.ntmps103
 go_wp2_with fail
 have B0 : Below w.heap.size w (((w.alloc (.cells #[.pointer p] 116)).alloc (.cells #[] 157)).alloc (.cells #[.pointer none] 116)) := (((Below.refl _ w).alloc (Nat.le_refl _) _).alloc (by simp) _).alloc (by simp; omega) _
 refine (with_ k v xs.length _ B p xs (Nat.le_refl _) (H.out.under (B0.mono hB)) (by simp; omega) HR.out hx).mono ?_
 rintro e w1 ⟨p1, rfl, t1, b1⟩
 have I1 : Law.Is w1 (w.heap.size + 1 + 1) 116 #[.pointer none] := (Law.Is.new ((w.alloc (.cells #[.pointer p] 116)).alloc (.cells #[] 157)) 116 #[.pointer none] (by simp)).below b1 (by simp)
 have c0 := I1.cell 0
 have f0 := I1.frozen 0
 have l0 := I1.lt
 simp only [List.getElem?_toArray, List.getElem?_cons_zero] at c0
 have hb : Below w.heap.size w w1 := B0.trans (b1.mono (by simp; omega))
 have T1 := Lib.hid t1
 have HB := Lib.hid hb
 have HI := Lib.hid I1
 clear t1 hb b1 I1 B0
 go_wp2_with fail
 have T2 := Lib.hid (T1.out.far (i := 0) HI.out (by decide) (.pointer p1))
 have I2 : Law.Is (w1.setCell ⟨w.heap.size + 1 + 1, 0, none⟩ (.pointer p1)) (w.heap.size + 1 + 1) 116 #[.pointer p1] := HI.out.set 0 _ rfl
 have c2 : (w1.setCell ⟨w.heap.size + 1 + 1, 0, none⟩ (.pointer p1)).cell? ⟨w.heap.size + 1 + 1, 0, none⟩ = some (Value.pointer p1) := (I2.cell 0).trans rfl
 have B2 := Lib.hid (HB.out.setCell (p := ⟨w.heap.size + 1 + 1, 0, none⟩) (by simp; omega) (.pointer p1))
 have e2 : w1.heap.size = (w1.setCell ⟨w.heap.size + 1 + 1, 0, none⟩ (.pointer p1)).heap.size := by simp
 rw [e2] at T2
 clear c0 f0 l0 T1 HB HI e2 I2
 generalize w1.setCell ⟨w.heap.size + 1 + 1, 0, none⟩ (.pointer p1) = w2 at *
 exact bodyPost_ret (v := M p1) (by simp [results, Tryz.results103, go_sem, c2]) rfl ⟨p1, rfl, T2.out, B2.out⟩

set_option maxHeartbeats 1000000 in
theorem withoutM (k : ByteArray) {w : World} {B : Nat} {p : Option Addr} {xs : List (ByteArray × Int)} (h : At w B p xs) (hB : B ≤ w.heap.size) (hR : Law.Rises lt xs) (hx : xs.length ≤ 999) :
  Calls Tryz.prog 81 #[M p, .string k] w (MadeM w (Law.outK k xs)) := by
 have H := Lib.hid h
 have HR := Lib.hid hR
 clear h hR
 go_enter Tryz.func81, Tryz.ntmps81
 go_wp2_with fail
 have B0 : Below w.heap.size w ((w.alloc (.cells #[.pointer p] 116)).alloc (.cells #[.pointer none] 116)) := ((Below.refl _ w).alloc (Nat.le_refl _) _).alloc (by simp) _
 refine (without xs.length k _ B p xs (Nat.le_refl _) (H.out.under (B0.mono hB)) (by simp; omega) HR.out hx).mono ?_
 rintro e w1 ⟨p1, rfl, t1, b1⟩
 have I1 : Law.Is w1 (w.heap.size + 1) 116 #[.pointer none] := (Law.Is.new (w.alloc (.cells #[.pointer p] 116)) 116 #[.pointer none] (by simp)).below b1 (by simp)
 have c0 := I1.cell 0
 have f0 := I1.frozen 0
 have l0 := I1.lt
 simp only [List.getElem?_toArray, List.getElem?_cons_zero] at c0
 have hb : Below w.heap.size w w1 := B0.trans (b1.mono (by simp; omega))
 have T1 := Lib.hid t1
 have HB := Lib.hid hb
 have HI := Lib.hid I1
 clear t1 hb b1 I1 B0
 go_wp2_with fail
 have T2 := Lib.hid (T1.out.far (i := 0) HI.out (by decide) (.pointer p1))
 have I2 : Law.Is (w1.setCell ⟨w.heap.size + 1, 0, none⟩ (.pointer p1)) (w.heap.size + 1) 116 #[.pointer p1] := HI.out.set 0 _ rfl
 have c2 : (w1.setCell ⟨w.heap.size + 1, 0, none⟩ (.pointer p1)).cell? ⟨w.heap.size + 1, 0, none⟩ = some (Value.pointer p1) := (I2.cell 0).trans rfl
 have B2 := Lib.hid (HB.out.setCell (p := ⟨w.heap.size + 1, 0, none⟩) (Nat.le_succ _) (.pointer p1))
 have e2 : w1.heap.size = (w1.setCell ⟨w.heap.size + 1, 0, none⟩ (.pointer p1)).heap.size := by simp
 rw [e2] at T2
 clear c0 f0 l0 T1 HB HI e2 I2
 generalize w1.setCell ⟨w.heap.size + 1, 0, none⟩ (.pointer p1) = w2 at *
 exact bodyPost_ret (v := M p1) (by simp [results, Tryz.results81, go_sem, c2]) rfl ⟨p1, rfl, T2.out, B2.out⟩

set_option maxHeartbeats 1000000 in
theorem get (k : ByteArray) {w : World} {B : Nat} {p : Option Addr} {xs : List (ByteArray × Int)} (h : At w B p xs) (hB : B ≤ w.heap.size) (hR : Law.Rises lt xs) :
  Calls Tryz.prog 101 #[M p, .string k] w fun e w' => e = .returned (.tuple #[.agg #[], .bool (Law.getK k xs).isSome]) ∧ Below w.heap.size w w' := by
 have H := Lib.hid h
 have HR := Lib.hid hR
 clear h hR
 go_enter Tryz.func101, Tryz.ntmps101
 go_wp2_with fail
 have B0 : Below w.heap.size w ((w.alloc (.cells #[.pointer p] 116)).alloc (.cells #[] 157)) := ((Below.refl _ w).alloc (Nat.le_refl _) _).alloc (by simp) _
 refine (find k (H.out.under (B0.mono hB)) HR.out).mono ?_
 have HB := Lib.hid B0
 clear B0
 rintro e w1 ⟨rfl, ⟨rfl, hg⟩ | ⟨b, u, rfl, hb, c1, hg⟩⟩
 ·have HG := Lib.hid hg
  clear hg
  go_wp2_with fail
  exact bodyPost_ret (v := .tuple #[.agg #[], .bool false]) (by simp [results, Tryz.results101, go_sem]) rfl ⟨by rw [HG.out]; rfl, HB.out.alloc (by simp; omega) _⟩
 ·have c2 := c1.part
  have HG := Lib.hid hg
  clear hg
  go_wp2_with fail
  exact bodyPost_ret (v := .tuple #[.agg #[], .bool true]) (by simp [results, Tryz.results101, go_sem]) rfl ⟨by rw [HG.out]; rfl, ((Below.refl _ w).alloc (Nat.le_refl _) _).alloc (by simp) _⟩

set_option maxHeartbeats 1000000 in
theorem len {w : World} {B : Nat} {p : Option Addr} {xs : List (ByteArray × Int)} (h : At w B p xs) (hB : B ≤ w.heap.size) :
  Calls Tryz.prog 117 #[M p] w fun e w' => e = .returned (.int .i64 (xs.length : Int)) ∧ w.alloc (.cells #[.pointer p] 116) = w' := by
 have H := Lib.hid h
 clear h
 go_enter Tryz.func117, Tryz.ntmps117
 go_wp2_with fail
 refine (count (H.out.under (((Below.refl _ w).alloc (Nat.le_refl _) _).mono hB))).mono ?_
 rintro e w1 ⟨rfl, rfl⟩
 go_wp2_with fail
 go_ret
 exact ⟨rfl, rfl⟩

end OmapU
end Go.Proofs.YtohdlnefgieenaaGreat
namespace Go.Law
open Go.RowKit
structure RingzV (t e : TypeId) (z : Nat) (w : World) (base : Nat) (S : Nat → Prop) (b room : Nat) (v : Value) (n : Nat) (xs : List Value) (lost : Bool) : Prop where
 box : Is w b t #[.int .i64 (room : Int), v, .bool lost]
 row : w.ownsRow 0 e z v n xs
 inn : S b
 own : ∀ g, v.ownBlock = some g → S g
 ok : ∀ k, S k → base ≤ k ∧ k < w.heap.size
def Ringz (t e : TypeId) (z : Nat) (w : World) (base : Nat) (S : Nat → Prop) (b room n : Nat) (xs : List Value) (lost : Bool) : Prop := ∃ v, RingzV t e z w base S b room v n xs lost
section
variable {t e : TypeId} {z : Nat} {w w' : World} {base b room n : Nat} {S T : Nat → Prop} {v : Value} {xs : List Value} {lost : Bool}
theorem Ringz.touch (h : Ringz t e z w base S b room n xs lost) (ht : Touch w w' T) (hd : ∀ k, S k → ¬ T k) : Ringz t e z w' base S b room n xs lost := by
 obtain ⟨v, h⟩ := h
 exact ⟨v, ht.is h.box (hd _ h.inn), ht.own h.row (fun g hg => hd _ (h.own g hg)), h.inn, h.own, fun k hk => ⟨(h.ok k hk).1, Nat.lt_of_lt_of_le (h.ok k hk).2 ht.size⟩⟩
theorem Ringz.ok (h : Ringz t e z w base S b room n xs lost) : ∀ k, S k → base ≤ k ∧ k < w.heap.size := by obtain ⟨v, h⟩ := h; exact h.ok
theorem Ringz.inn (h : Ringz t e z w base S b room n xs lost) : S b := by obtain ⟨v, h⟩ := h; exact h.inn
theorem RingzV.mark (h : RingzV t e z w base S b room v n xs lost) (hte : e ≠ t) : Ringz t e z (w.setCell ⟨b, 2, none⟩ (.bool true)) base S b room n xs true :=
 ⟨v, h.box.set 2 _ rfl, (Touch.store (T := fun k => k = b) w ⟨b, 2, none⟩ _ rfl).own h.row (fun g hg e' => own_ne h.row h.box hte (e' ▸ hg)), h.inn, h.own, fun k hk => by have := h.ok k hk; simpa using this⟩
theorem RingzV.next (h : RingzV t e z w base S b room v n xs lost) (hte : e ≠ t) (hb : base ≤ w.heap.size) {w1 : World} {v' : Value} {us : List Value} {o : Obj} (hown : w1.ownsRow 0 e z v' (n + 1) (xs ++ us)) (hg : (w.alloc o).grownBy w1 v.ownBlock)
  (hv : v'.ownBlock = v.ownBlock ∨ v'.ownBlock = some (w.alloc o).heap.size) :
  Is w1 b t #[.int .i64 (room : Int), v, .bool lost] ∧ Ringz t e z (w1.setCell ⟨b, 1, none⟩ v') base (fun k => S k ∨ w.heap.size ≤ k ∧ k < w1.heap.size) b room (n + 1) (xs ++ us) lost ∧ Touch w (w1.setCell ⟨b, 1, none⟩ v') S := by
 have hne := own_ne h.row h.box hte
 have hI : Is w1 b t #[.int .i64 (room : Int), v, .bool lost] := (h.box.alloc o).grown hg hne
 have hne' := own_ne hown hI hte
 have ht : Touch w (w1.setCell ⟨b, 1, none⟩ v') S := ((Touch.alloc w o S).trans (Touch.grown hg h.own) (fun k hk => .inl hk)).trans (Touch.store w1 ⟨b, 1, none⟩ v' h.inn) (fun k hk => .inl hk)
 have hs1 : w.heap.size ≤ w1.heap.size := by have := hg.size; simp at this; omega
 refine ⟨hI, ⟨v', hI.set 1 v' rfl, ?_, .inl h.inn, ?_, ?_⟩, ht⟩
 ·exact (Touch.store (T := fun k => k = b) w1 ⟨b, 1, none⟩ v' rfl).own hown (fun g hg e' => hne' (e' ▸ hg))
 ·intro g hg'
  rcases hv with hv | hv
  ·exact .inl (h.own g (hv ▸ hg'))
  ·right
   have e1 : (w.alloc o).heap.size = g := Option.some.inj (hv.symm.trans hg')
   have := (hown.lt g hg').2
   simp at e1
   omega
 ·intro k hk
  have : (w1.setCell ⟨b, 1, none⟩ v').heap.size = w1.heap.size := by simp
  rw [this]
  rcases hk with hk | ⟨hk, hk'⟩
  ·have := h.ok k hk; omega
  ·omega
theorem RingzV.emptied (h : RingzV t e z w base S b room v n xs lost) : Ringz t e z ((w.setCell ⟨b, 1, none⟩ (.slice none 0 0)).setCell ⟨b, 2, none⟩ (.bool false)) base S b room 0 [] false :=
 ⟨.slice none 0 0, (h.box.set 1 (.slice none 0 0) rfl).set 2 (.bool false) rfl, World.ownsRow_nil _ _ _ _, h.inn, fun g h => by simp [Value.ownBlock] at h, fun k hk => by have := h.ok k hk; simpa using this⟩
theorem RingzV.below (h : RingzV t e z w base S b room v n xs lost) (hb : Below w.heap.size w w') : RingzV t e z w' base S b room v n xs lost :=
 ⟨h.box.below hb h.box.lt, own_below h.row hb, h.inn, h.own, fun k hk => ⟨(h.ok k hk).1, Nat.lt_of_lt_of_le (h.ok k hk).2 hb.size⟩⟩
theorem RingzV.drewN (h : RingzV t e z w base S b room v n xs lost) (n' : Nat) : RingzV t e z (w.drewN n') base S b room v n xs lost := ⟨h.box, h.row, h.inn, h.own, h.ok⟩
end
theorem Keeps.touch1 {t t' : TypeId} {w w' : World} {g : Nat} {cs : Array Value} (h : Touch w w' (fun k => k = g)) (hi : Is w g t' cs) (ht : t ≠ t') : Keeps t w w' :=
 ⟨h.size, fun hb => (h.block _ hb.lt (fun e => (hb.type_ne hi ht) e)).trans hb⟩
theorem step_append_at {P : Program} {w : World} {base : Nat} {t e : TypeId} {i : TypeInfo} {z : Value} {size bytes : Nat} {ops : Array Oper} {o : Oper} {a : Act} {K : Act → World → Prop} {Q : Exit → Act → World → Prop} {X : Prop} (hgd : o.guard = none) (s x : Operand)
  (ho : o.op = .call { callee := .builtin .append, args := #[s, x], argTypes := #[t, t] }) (E : Elem P t e i z size bytes)
  (v : Value) (n : Nat) (xs : List Value) (hs : a.eval s = v) (hown : w.ownsRow base e size v n xs)
  (ad : Addr) (m c : Nat) (news : List Value) (hx : a.eval x = .slice (some ad) m c) (hl : news.length = m * size) (hnews : ∀ j u, news[j]? = some u → w.cell? (ad.add j) = some u) (h1 : ∀ u ∈ news, u.oneCell' = true)
  (h63 : n + m ≤ maxLen) (hbytes : (n + m) * bytes ≤ 140737488355328) (hbase : base ≤ w.heap.size)
  (h : ∀ v' w', w'.ownsRow base e size v' (n + m) (xs ++ news) → w.grownBy w' v.ownBlock → (v'.ownBlock = v.ownBlock ∨ v'.ownBlock = some w.heap.size) → K (a.put o.dst v') w') :
  if Region.wanted o (yielded ops a.tmps) = true then Oper.wp P o a w K Q else X := by
 rw [if_pos (by simp [Region.wanted, hgd])]
 obtain ⟨v', w', hrun, h2, h3, _, h5⟩ := run_append_own_at (P := P) w base t o.type e i z size bytes E.ut E.info E.zero E.sz E.by_ E.cells E.pos v n xs hown ad m c news hl hnews h1 h63 hbytes hbase
 unfold Oper.wp execOp
 simp only [ho, resolve, invoke, builtin, Sem.run_bind, Sem.run_pure, Result.andThen_ok, List.map_toArray, List.map_cons, List.map_nil, hs, hx, hrun]
 exact h v' w' h2 h3 h5
end Go.Law

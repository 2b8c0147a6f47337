/-
  What with, without, least and find of an ordered map (layer 4) of texts to nothing come to.
-/
import Derived.Test.YtdkjcheannehhaaGreatJ21
import Derived.Shelf.Abstract
namespace Go.Proofs.YtdkjcheannehhaaGreat
open Go.RowKit
namespace OmapU
/-- texts in the order of their bytes -/
abbrev lt (a b : ByteArray) : Prop := a.toList < b.toList
theorem less_eq : ∀ (x y : List UInt8), Op.bytesLess x y = decide (x < y)
  | [], [] => by simp [Op.bytesLess]
  | _ :: _, [] => by simp [Op.bytesLess]
  | [], _ :: _ => by simp [Op.bytesLess]
  | a :: x, b :: y => by
    rw [Op.bytesLess, less_eq x y, Bool.eq_iff_iff]
    simp [List.cons_lt_cons_iff]
theorem ext {a b : ByteArray} (h : a.toList = b.toList) : a = b := by
  rw [ByteArray.toList_eq, ByteArray.toList_eq] at h
  exact ByteArray.ext (Array.toList_inj.1 h)
theorem tri : Law.Tri lt where
  irr := fun a => List.lt_irrefl a.toList
  tr := fun h h' => List.lt_trans h h'
  tri := fun a b => by
    by_cases h : a.toList < b.toList
    · exact .inl h
    · by_cases h' : b.toList < a.toList
      · exact .inr (.inr h')
      · exact .inr (.inl (ext (List.le_antisymm h' h)))
/-- how two keys lie to each other, as the program asks -/
theorem cmp (k a : ByteArray) : (lt k a ∧ Op.bytesLess k.toList a.toList = true ∧ (a.toList == k.toList) = false) ∨ (k = a ∧ Op.bytesLess k.toList k.toList = false) ∨ (lt a k ∧ Op.bytesLess k.toList a.toList = false ∧ (k.toList == a.toList) = false ∧ (a.toList == k.toList) = false) := by
  rcases tri.tri k a with h | h | h
  · exact .inl ⟨h, by rw [less_eq]; simpa using h, by simpa using fun e => tri.ne h (ext e.symm)⟩
  · subst h
    exact .inr (.inl ⟨rfl, by rw [less_eq]; simp⟩)
  · exact .inr (.inr ⟨h, by rw [less_eq]; simpa using tri.asym h, by simpa using fun e => tri.ne h (ext e.symm), by simpa using fun e => tri.ne h (ext e)⟩)

set_option maxRecDepth 100000 in
set_option maxHeartbeats 4000000 in
theorem with_ (k : ByteArray) (v : Int) : ∀ (n : Nat) (w : World) (B : Nat) (p : Option Addr) (xs : List (ByteArray × Int)), xs.length ≤ n → At w B p xs → B ≤ w.heap.size → Law.Rises lt xs → xs.length ≤ 999 →
    Calls Tryz.prog 127 #[.pointer p, .string k, .agg #[]] w (Made w (Law.putK lt k v xs)) := by
  intro n
  induction n with
  | zero =>
    intro w B p xs hn h hB _ _
    obtain rfl := List.eq_nil_of_length_eq_zero (by omega : xs.length = 0)
    obtain rfl := h.is_nil
    clear h
    go_enter Tryz.func127, Tryz.ntmps127
    go_wp2_with fail
    go_ret
    exact ⟨_, rfl, Law.Tree0.new (ls := []) (rs := []) .nil .nil (by simp) rfl, ((Below.refl _ w).alloc (Nat.le_refl _) _).alloc (by simp) _⟩
  | succ n ih =>
    intro w B p xs hn h hB hR hx
    cases p with
    | none =>
      obtain rfl := h.of_nil
      exact ih w B none [] (Nat.zero_le _) h hB hR hx
    | some ad =>
      obtain ⟨b, l, r, ls, rs, a, u, rfl, rfl, hb, hi, hl, hr⟩ := (h.wide hB).of_some
      have c0 := hi.cell 0
      have c5 := hi.cell 1
      have c6 := hi.cell 2
      have c7 := hi.cell 3
      simp only [List.getElem?_toArray, List.getElem?_cons_zero, List.getElem?_cons_succ] at c0 c5 c6 c7
      have HN : Hid ((ls ++ (a, u) :: rs).length = ls.length + (rs.length + 1)) := by show _ = _; simp
      rw [HN.out] at hn hx
      obtain ⟨W1, hW⟩ : ∃ W1, w.alloc (.cells #[] 166) = W1 := ⟨_, rfl⟩
      have KW : Kept w W1 := by rw [← hW]; exact (Below.refl _ w).alloc (Nat.le_refl _) _
      have iB : Law.Is W1 w.heap.size 166 #[] := by rw [← hW]; exact Law.Is.new _ _ _ rfl
      have hg : w.heap.size < W1.heap.size := by rw [← hW]; simp
      have hb1 : b < W1.heap.size := by omega
      have d0 := KW.cell hb c0
      have d1 := KW.val (val_of hi)
      have hl1 := KW.after hl
      have hr1 := KW.after hr
      have HW := Lib.hid hW
      have HKW := Lib.hid KW
      have HK : Hid (∀ w', Kept W1 w' → (w'.cell? ⟨b, 1, none⟩ = some (.pointer l) ∧ w'.cell? ⟨b, 2, none⟩ = some (.pointer r) ∧ w'.cell? ⟨b, 3, none⟩ = some (.int .i64 ((ls ++ (a, u) :: rs).length : Int))) ∧ Kept W1 w') := fun w' K => ⟨⟨K.cell hb1 (KW.cell hb c5), K.cell hb1 (KW.cell hb c6), K.cell hb1 (KW.cell hb c7)⟩, K⟩
      have K0 : Kept W1 (W1.drewN 1) := Kept.drew W1
      have pl := Law.putK_length lt k v ls
      have pr := Law.putK_length lt k v rs
      clear KW hW iB
      rcases cmp k a with ⟨hlt, e1, _⟩ | ⟨rfl, e1⟩ | ⟨hgt, e1, e2, _⟩
      · have HI : Hid (∀ w', Kept W1 w' → Calls Tryz.prog 127 #[.pointer l, .string k, .agg #[]] w' (Next W1 w' (Law.putK lt k v ls))) := fun w' K =>
          Made.next K (ih w' _ l ls (by omega) (K.after hl1) (Nat.le_refl _) hR.left (by omega))
        have HA : Hid (∀ w' p1, Kept W1 w' → At w' w'.heap.size p1 (Law.putK lt k v ls) → Calls Tryz.prog 128 #[.pointer (some ⟨b, 0, none⟩), .pointer p1, .pointer r] w' (Next W1 w' (Law.putK lt k v ls ++ (a, u) :: rs))) := fun w' p1 K t1 =>
          balanced_next d0 d1 hb1 K t1 (K.after hr1) (by omega)
        have HE := Lib.hid (Law.putK_left lt hlt (v := v) (b := u) (ys := rs) ls)
        clear ih h hR hi hl hr hlt c5 c6 c7 pl pr hl1 hr1 d0 d1
        generalize (ls ++ (a, u) :: rs).length = m at *
        go_enter Tryz.func127, Tryz.ntmps127
        go_wp2_with fail
        rw [HW.out]
        go_region_held3 (fun w' => (w'.cell? ⟨b, 1, none⟩ = some (.pointer l) ∧ w'.cell? ⟨b, 2, none⟩ = some (.pointer r) ∧ w'.cell? ⟨b, 3, none⟩ = some (.int .i64 (m : Int))) ∧ Kept W1 w') (exact HK.out _ (by assumption)) (first
          | (go_at_call 127; refine (HI.out _ (by assumption)).mono ?_; rintro e w1 ⟨p1, rfl, t1, K1, _⟩; have T1 := Lib.hid t1; clear t1)
          | (go_at_call 128; refine (HA.out _ _ (by assumption) T1.out).mono ?_; rintro e w2 ⟨p2, rfl, t2, K2, _⟩; have T2 := Lib.hid t2; clear t2))
        go_wp2_with fail
        go_ret
        exact ⟨_, rfl, by rw [HE.out]; exact T2.out, Below.trans HKW.out (Below.mono K2 HKW.out.size)⟩
      · have HE := Lib.hid (Law.putK_same lt tri (v := v) (b := u) (ys := rs) ls hR)
        have HL := Lib.hid hl1
        have HR := Lib.hid hr1
        have HZ : Hid (((ls ++ (k, u) :: rs).length : Int) = ((ls ++ (k, v) :: rs).length : Int)) := by show _ = _; simp
        clear ih h hR hi hl hr pl pr HN hl1 hr1 d0 d1 c5 c6 c7
        obtain ⟨z0, z1, z2⟩ := (HK.out W1 (Below.refl _ _)).1
        clear HK K0
        generalize (ls ++ (k, u) :: rs).length = m at *
        go_enter Tryz.func127, Tryz.ntmps127
        go_wp2_with fail
        rw [HW.out]
        go_region_held3 (fun w' => w'.cell? ⟨b, 1, none⟩ = some (.pointer l) ∧ w'.cell? ⟨b, 2, none⟩ = some (.pointer r) ∧ w'.cell? ⟨b, 3, none⟩ = some (.int .i64 (m : Int))) (go_keep) (fail)
        go_wp2_with fail
        go_ret
        exact ⟨_, rfl, by rw [HE.out]; exact Law.Tree0.new (HL.out.drewN 1) (HR.out.drewN 1) rfl HZ.out, (Law.below_drewN HKW.out 1).alloc (by simp; omega) _⟩
      · have HI : Hid (∀ w', Kept W1 w' → Calls Tryz.prog 127 #[.pointer r, .string k, .agg #[]] w' (Next W1 w' (Law.putK lt k v rs))) := fun w' K =>
          Made.next K (ih w' _ r rs (by omega) (K.after hr1) (Nat.le_refl _) hR.right (by omega))
        have HA : Hid (∀ w' p1, Kept W1 w' → At w' w'.heap.size p1 (Law.putK lt k v rs) → Calls Tryz.prog 128 #[.pointer (some ⟨b, 0, none⟩), .pointer l, .pointer p1] w' (Next W1 w' (ls ++ (a, u) :: Law.putK lt k v rs))) := fun w' p1 K t1 =>
          balanced_next d0 d1 hb1 K (K.after hl1) t1 (by omega)
        have HE := Lib.hid (Law.putK_right lt tri hgt (v := v) (b := u) (ys := rs) ls hR)
        clear ih h hR hi hl hr hgt c5 c6 c7 pl pr hl1 hr1 d0 d1
        generalize (ls ++ (a, u) :: rs).length = m at *
        go_enter Tryz.func127, Tryz.ntmps127
        go_wp2_with fail
        rw [HW.out]
        go_region_held3 (fun w' => (w'.cell? ⟨b, 1, none⟩ = some (.pointer l) ∧ w'.cell? ⟨b, 2, none⟩ = some (.pointer r) ∧ w'.cell? ⟨b, 3, none⟩ = some (.int .i64 (m : Int))) ∧ Kept W1 w') (exact HK.out _ (by assumption)) (first
          | (go_at_call 127; refine (HI.out _ (by assumption)).mono ?_; rintro e w1 ⟨p1, rfl, t1, K1, _⟩; have T1 := Lib.hid t1; clear t1)
          | (go_at_call 128; refine (HA.out _ _ (by assumption) T1.out).mono ?_; rintro e w2 ⟨p2, rfl, t2, K2, _⟩; have T2 := Lib.hid t2; clear t2))
        go_wp2_with fail
        go_ret
        exact ⟨_, rfl, by rw [HE.out]; exact T2.out, Below.trans HKW.out (Below.mono K2 HKW.out.size)⟩

set_option maxHeartbeats 1000000 in
theorem least {w : World} {B : Nat} {p : Option Addr} {k : ByteArray} {v : Int} {xs : List (ByteArray × Int)} (h : At w B p ((k, v) :: xs)) :
    Calls Tryz.prog 129 #[.pointer p] w fun e w' => ∃ b, e = .returned (.pointer (some ⟨b, 0, none⟩)) ∧ w = w' ∧ b < B ∧ w.cell? ⟨b, 0, none⟩ = some (.string k) ∧ Val w b v := by
  have H := Lib.hid h
  clear h
  go_enter Tryz.func129, Tryz.ntmps129
  go_wp2_with fail
  go_loop [0] (fun q => ∃ p' zs, q = .pointer p' ∧ At w B p' ((k, v) :: zs)) (fun q => Law.sizeAt0 w q)
  case atStart => exact ⟨p, xs, rfl, H.out⟩
  case round =>
    obtain ⟨p', zs, rfl, hz⟩ := hrel
    obtain ⟨b, l, r, ls, rs, a, u, rfl, hzs, hb, hi, hl, _⟩ := hz.full (by simp)
    have HM : Hid (Law.sizeAt0 w (.pointer (some ⟨b, 0, none⟩)) = ls.length + (rs.length + 1)) := by show _ = _; rw [hz.size, hzs]; simp
    have HL := Lib.hid hl
    have c0 := hi.cell 0
    have c1 := val_of hi
    have c2 := hi.cell 1
    simp only [List.getElem?_toArray, List.getElem?_cons_zero, List.getElem?_cons_succ] at c0 c1 c2
    have HZ := Lib.hid hzs
    clear hz hi hl hzs H
    cases l with
    | none =>
      obtain rfl := HL.out.of_nil
      have e1 : k = a ∧ v = u := by have := HZ.out; simp at this; exact ⟨this.1.1, this.1.2⟩
      obtain ⟨rfl, rfl⟩ := e1
      go_wp2_with fail
      go_ret
      exact ⟨b, rfl, rfl, hb, c0, c1⟩
    | some ad =>
      obtain ⟨b', l', r', ls', rs', a', u', rfl, rfl, _⟩ := HL.out.of_some
      have HN : Hid (∃ zs', At w B (some ⟨b', 0, none⟩) ((k, v) :: zs')) := by
        have h1 := HL.out
        have h2 := HZ.out
        show ∃ zs', _
        cases ls' with
        | nil =>
          simp at h1 h2
          rw [h2.1.1, h2.1.2]
          exact ⟨_, h1⟩
        | cons q ls' =>
          simp at h1 h2
          rw [← h2.1] at h1
          exact ⟨_, h1⟩
      have HS := Lib.hid HL.out.size
      clear HL HZ
      go_wp2_with fail
      go_round
      case rel =>
        obtain ⟨zs', h'⟩ := HN.out
        exact ⟨_, zs', rfl, h'⟩
      case measure =>
        rw [HS.out, HM.out]
        omega

/-- behind a look for a key -/
def Found (w : World) (B : Nat) (o : Option Int) (e : Ending) (w' : World) : Prop :=
  w = w' ∧ ((e = .returned (.pointer none) ∧ o = none) ∨ ∃ b u, e = .returned (.pointer (some ⟨b, 0, none⟩)) ∧ b < B ∧ Val w b u ∧ o = some u)

set_option maxHeartbeats 1000000 in
theorem find {w : World} {B : Nat} {p : Option Addr} (k : ByteArray) {xs : List (ByteArray × Int)} (h : At w B p xs) (hR : Law.Rises lt xs) :
    Calls Tryz.prog 125 #[.pointer p, .string k] w (Found w B (Law.getK k xs)) := by
  have H := Lib.hid h
  have HR := Lib.hid hR
  clear h hR
  go_enter Tryz.func125, Tryz.ntmps125
  go_wp2_with fail
  go_loop [0] (fun q => ∃ p' zs, q = .pointer p' ∧ At w B p' zs ∧ Law.Rises lt zs ∧ Law.getK k zs = Law.getK k xs) (fun q => Law.sizeAt0 w q)
  case atStart => exact ⟨p, xs, rfl, H.out, HR.out, rfl⟩
  case round =>
    obtain ⟨p', zs, rfl, hz, hrz, hg⟩ := hrel
    have HG := Lib.hid hg
    clear H HR hg
    cases p' with
    | none =>
      obtain rfl := hz.of_nil
      clear hz hrz
      go_wp2_with fail
      go_ret
      exact ⟨rfl, .inl ⟨rfl, HG.out.symm⟩⟩
    | some ad =>
      obtain ⟨b, l, r, ls, rs, a, u, rfl, rfl, hb, hi, hl, hr⟩ := hz.of_some
      have HM : Hid (Law.sizeAt0 w (.pointer (some ⟨b, 0, none⟩)) = ls.length + (rs.length + 1)) := by show _ = _; rw [hz.size]; simp
      have c0 := hi.cell 0
      have c1 := val_of hi
      have c2 := hi.cell 1
      have c3 := hi.cell 2
      simp only [List.getElem?_toArray, List.getElem?_cons_zero, List.getElem?_cons_succ] at c0 c1 c2 c3
      have HZ := Lib.hid hrz
      have HL := Lib.hid hl
      have HR := Lib.hid hr
      clear hz hrz hi hl hr
      rcases cmp k a with ⟨hlt, d1, d2⟩ | ⟨rfl, d1⟩ | ⟨hgt, d1, d2, d3⟩
      · have HE := Lib.hid ((Law.getK_left lt tri hlt HZ.out).symm.trans HG.out)
        have HS := Lib.hid HL.out.size
        clear hlt
        go_wp2_with fail
        go_round
        case rel => exact ⟨_, ls, rfl, HL.out, HZ.out.left, HE.out⟩
        case measure => rw [HS.out, HM.out]; omega
      · have HE := Lib.hid ((Law.getK_same lt tri HZ.out).symm.trans HG.out)
        go_wp2_with fail
        go_ret
        exact ⟨rfl, .inr ⟨b, u, rfl, hb, c1, HE.out.symm⟩⟩
      · have HE := Lib.hid ((Law.getK_right lt tri hgt HZ.out).symm.trans HG.out)
        have HS := Lib.hid HR.out.size
        clear hgt
        go_wp2_with fail
        go_round
        case rel => exact ⟨_, rs, rfl, HR.out, HZ.out.right, HE.out⟩
        case measure => rw [HS.out, HM.out]; omega

set_option maxRecDepth 100000 in
set_option maxHeartbeats 4000000 in
theorem without : ∀ (n : Nat) (k : ByteArray) (w : World) (B : Nat) (p : Option Addr) (xs : List (ByteArray × Int)), xs.length ≤ n → At w B p xs → B ≤ w.heap.size → Law.Rises lt xs → xs.length ≤ 999 →
    Calls Tryz.prog 117 #[.pointer p, .string k] w (Made w (Law.outK k xs)) := by
  intro n
  induction n with
  | zero =>
    intro k w B p xs hn h hB _ _
    obtain rfl := List.eq_nil_of_length_eq_zero (by omega : xs.length = 0)
    obtain rfl := h.is_nil
    clear h
    go_enter Tryz.func117, Tryz.ntmps117
    go_wp2_with fail
    go_ret
    exact ⟨_, rfl, .nil, Below.refl _ w⟩
  | succ n ih =>
    intro k w B p xs hn h hB hR hx
    cases p with
    | none =>
      obtain rfl := h.of_nil
      exact ih k w B none [] (Nat.zero_le _) h hB hR hx
    | some ad =>
      obtain ⟨b, l, r, ls, rs, a, u, rfl, rfl, hb, hi, hl, hr⟩ := (h.wide hB).of_some
      have c0 := hi.cell 0
      have c1 := val_of hi
      have c2 := hi.cell 1
      have c3 := hi.cell 2
      simp only [List.getElem?_toArray, List.getElem?_cons_zero, List.getElem?_cons_succ] at c0 c1 c2 c3
      have HN : Hid ((ls ++ (a, u) :: rs).length = ls.length + (rs.length + 1)) := by show _ = _; simp
      rw [HN.out] at hn hx
      have HK : Hid (∀ w', Kept w w' → w'.cell? ⟨b, 1, none⟩ = some (.pointer l) ∧ w'.cell? ⟨b, 2, none⟩ = some (.pointer r) ∧ Kept w w') := fun w' K => ⟨K.cell hb c2, K.cell hb c3, K⟩
      have K0 : Kept w (w.drewN 1) := Kept.drew w
      have pl := Law.outK_length k ls
      have pr := Law.outK_length k rs
      rcases cmp k a with ⟨hlt, d1, _⟩ | ⟨rfl, d1⟩ | ⟨hgt, d1, d2, _⟩
      · have HI : Hid (∀ w', Kept w w' → Calls Tryz.prog 117 #[.pointer l, .string k] w' (Next w w' (Law.outK k ls))) := fun w' K =>
          Made.next K (ih k w' _ l ls (by omega) (K.after hl) (Nat.le_refl _) hR.left (by omega))
        have HA : Hid (∀ w' p1, Kept w w' → At w' w'.heap.size p1 (Law.outK k ls) → Calls Tryz.prog 128 #[.pointer (some ⟨b, 0, none⟩), .pointer p1, .pointer r] w' (Next w w' (Law.outK k ls ++ (a, u) :: rs))) := fun w' p1 K t1 =>
          balanced_next c0 c1 hb K t1 (K.after hr) (by omega)
        have HE := Lib.hid (Law.outK_left lt tri hlt hR)
        clear ih h hR hi hl hr hlt c1 pl pr
        go_enter Tryz.func117, Tryz.ntmps117
        go_wp2_with fail
        go_region_held3 (fun w' => w'.cell? ⟨b, 1, none⟩ = some (.pointer l) ∧ w'.cell? ⟨b, 2, none⟩ = some (.pointer r) ∧ Kept w w') (exact HK.out _ (by assumption)) (first
          | (go_at_call 117; refine (HI.out _ (by assumption)).mono ?_; rintro e w1 ⟨p1, rfl, t1, K1, _⟩; have T1 := Lib.hid t1; clear t1)
          | (go_at_call 128; refine (HA.out _ _ (by assumption) T1.out).mono ?_; rintro e w2 ⟨p2, rfl, t2, K2, _⟩; have T2 := Lib.hid t2; clear t2))
        go_wp2_with fail
        go_ret
        exact ⟨_, rfl, by rw [HE.out]; exact T2.out, K2⟩
      · have HE := Lib.hid (Law.outK_same lt tri hR)
        have HL := Lib.hid hl
        have HR := Lib.hid hr
        cases l with
        | none =>
          obtain rfl := HL.out.of_nil
          clear ih h hR hi hl hr pl pr HK K0 HN c1
          go_enter Tryz.func117, Tryz.ntmps117
          go_wp2_with fail
          go_ret
          exact ⟨_, rfl, by have := HE.out; simp only [List.nil_append] at this; rw [this]; exact HR.out, Below.refl _ w⟩
        | some la =>
          cases r with
          | none =>
            obtain rfl := HR.out.of_nil
            clear ih h hR hi hl hr pl pr HK K0 HN c1
            go_enter Tryz.func117, Tryz.ntmps117
            go_wp2_with fail
            go_ret
            exact ⟨_, rfl, by rw [HE.out, List.append_nil]; exact HL.out, Below.refl _ w⟩
          | some ra =>
            obtain ⟨nk, nv, rt, rfl⟩ : ∃ nk nv rt, rs = (nk, nv) :: rt := by
              cases rs with
              | nil => have := hr.is_nil; cases this
              | cons q rt => exact ⟨q.1, q.2, rt, rfl⟩
            have hrt : Law.outK nk ((nk, nv) :: rt) = rt := Law.outK_same (xs := []) lt tri hR.right
            have HI : Hid (∀ w', Kept w w' → Calls Tryz.prog 117 #[.pointer (some ra), .string nk] w' (Next w w' rt)) := fun w' K => by
              have := Made.next K (ih nk w' _ (some ra) ((nk, nv) :: rt) (by omega) (K.after hr) (Nat.le_refl _) hR.right (by omega))
              rwa [hrt] at this
            have HA : Hid (∀ b' w' p1, b' < w.heap.size → w.cell? ⟨b', 0, none⟩ = some (.string nk) → Val w b' nv → Kept w w' → At w' w'.heap.size p1 rt →
                Calls Tryz.prog 128 #[.pointer (some ⟨b', 0, none⟩), .pointer (some la), .pointer p1] w' (Next w w' (ls ++ (nk, nv) :: rt))) := fun b' w' p1 hb' e0 e1 K t1 =>
              balanced_next e0 e1 hb' K (K.after hl) t1 (by simp at hx; omega)
            clear ih h hR hi hl hr pl pr HK HN c1 hrt HL
            go_enter Tryz.func117, Tryz.ntmps117
            go_wp2_with fail
            refine (least HR.out).mono ?_
            rintro e w' ⟨nb, rfl, rfl, hnb, n0, n1⟩
            have HB := Lib.hid (HA.out nb · · hnb n0 n1)
            have HK : Hid (∀ w', Kept w w' → w'.cell? ⟨b, 1, none⟩ = some (.pointer (some la)) ∧ w'.cell? ⟨b, 2, none⟩ = some (.pointer (some ra)) ∧ w'.cell? ⟨nb, 0, none⟩ = some (.string nk) ∧ Kept w w') := fun w' K => ⟨K.cell hb c2, K.cell hb c3, K.cell hnb n0, K⟩
            clear HA n1
            go_wp2_with fail
            go_region_held3 (fun w' => w'.cell? ⟨b, 1, none⟩ = some (.pointer (some la)) ∧ w'.cell? ⟨b, 2, none⟩ = some (.pointer (some ra)) ∧ w'.cell? ⟨nb, 0, none⟩ = some (.string nk) ∧ Kept w w') (exact HK.out _ (by assumption)) (first
              | (go_at_call 117; refine (HI.out _ (by assumption)).mono ?_; rintro e w1 ⟨p1, rfl, t1, K1, _⟩; have T1 := Lib.hid t1; clear t1)
              | (go_at_call 128; refine (HB.out _ _ (by assumption) T1.out).mono ?_; rintro e w2 ⟨p2, rfl, t2, K2, _⟩; have T2 := Lib.hid t2; clear t2))
            go_wp2_with fail
            go_ret
            exact ⟨_, rfl, by rw [HE.out]; exact T2.out, K2⟩
      · have HI : Hid (∀ w', Kept w w' → Calls Tryz.prog 117 #[.pointer r, .string k] w' (Next w w' (Law.outK k rs))) := fun w' K =>
          Made.next K (ih k w' _ r rs (by omega) (K.after hr) (Nat.le_refl _) hR.right (by omega))
        have HA : Hid (∀ w' p1, Kept w w' → At w' w'.heap.size p1 (Law.outK k rs) → Calls Tryz.prog 128 #[.pointer (some ⟨b, 0, none⟩), .pointer l, .pointer p1] w' (Next w w' (ls ++ (a, u) :: Law.outK k rs))) := fun w' p1 K t1 =>
          balanced_next c0 c1 hb K (K.after hl) t1 (by omega)
        have HE := Lib.hid (Law.outK_right lt tri hgt hR)
        clear ih h hR hi hl hr hgt c1 pl pr
        go_enter Tryz.func117, Tryz.ntmps117
        go_wp2_with fail
        go_region_held3 (fun w' => w'.cell? ⟨b, 1, none⟩ = some (.pointer l) ∧ w'.cell? ⟨b, 2, none⟩ = some (.pointer r) ∧ Kept w w') (exact HK.out _ (by assumption)) (first
          | (go_at_call 117; refine (HI.out _ (by assumption)).mono ?_; rintro e w1 ⟨p1, rfl, t1, K1, _⟩; have T1 := Lib.hid t1; clear t1)
          | (go_at_call 128; refine (HA.out _ _ (by assumption) T1.out).mono ?_; rintro e w2 ⟨p2, rfl, t2, K2, _⟩; have T2 := Lib.hid t2; clear t2))
        go_wp2_with fail
        go_ret
        exact ⟨_, rfl, by rw [HE.out]; exact T2.out, K2⟩
end OmapU
end Go.Proofs.YtdkjcheannehhaaGreat
/-
  What the calls of an ordered map (layer 4) of texts to nothing come to: With, Without, Get, Len, All, Keys.
-/
namespace Go.Proofs.YtdkjcheannehhaaGreat
open Go.RowKit Go.Shelf
attribute [local go_sem] Oper.semAt_some
namespace OmapU
/-- a map -/
abbrev M (p : Option Addr) : Value := .agg #[.pointer p]
/-- behind what makes a map of these pairs -/
def MadeM (w : World) (zs : List (ByteArray × Int)) (e : Ending) (w' : World) : Prop := ∃ p, e = .returned (M p) ∧ At w' w'.heap.size p zs ∧ Below w.heap.size w w'

set_option maxHeartbeats 1000000 in
theorem withM (k : ByteArray) (v : Int) {w : World} {B : Nat} {p : Option Addr} {xs : List (ByteArray × Int)} (h : At w B p xs) (hB : B ≤ w.heap.size) (hR : Law.Rises lt xs) (hx : xs.length ≤ 999) :
    Calls Tryz.prog 116 #[M p, .string k, .agg #[]] w (MadeM w (Law.putK lt k v xs)) := by
  have H := Lib.hid h
  have HR := Lib.hid hR
  clear h hR
  go_enter Tryz.func116, Tryz.ntmps116
  go_wp2_with fail
  have B0 : Below w.heap.size w (((w.alloc (.cells #[.pointer p] 126)).alloc (.cells #[] 166)).alloc (.cells #[.pointer none] 126)) := (((Below.refl _ w).alloc (Nat.le_refl _) _).alloc (by simp) _).alloc (by simp; omega) _
  refine (with_ k v xs.length _ B p xs (Nat.le_refl _) (H.out.under (B0.mono hB)) (by simp; omega) HR.out hx).mono ?_
  rintro e w1 ⟨p1, rfl, t1, b1⟩
  have I1 : Law.Is w1 (w.heap.size + 1 + 1) 126 #[.pointer none] := (Law.Is.new ((w.alloc (.cells #[.pointer p] 126)).alloc (.cells #[] 166)) 126 #[.pointer none] (by simp)).below b1 (by simp)
  have c0 := I1.cell 0
  have f0 := I1.frozen 0
  have l0 := I1.lt
  simp only [List.getElem?_toArray, List.getElem?_cons_zero] at c0
  have hb : Below w.heap.size w w1 := B0.trans (b1.mono (by simp; omega))
  have T1 := Lib.hid t1
  have HB := Lib.hid hb
  have HI := Lib.hid I1
  clear t1 hb b1 I1 B0
  go_wp2_with fail
  have T2 := Lib.hid (T1.out.far (i := 0) HI.out (by decide) (.pointer p1))
  have I2 : Law.Is (w1.setCell ⟨w.heap.size + 1 + 1, 0, none⟩ (.pointer p1)) (w.heap.size + 1 + 1) 126 #[.pointer p1] := HI.out.set 0 _ rfl
  have c2 : (w1.setCell ⟨w.heap.size + 1 + 1, 0, none⟩ (.pointer p1)).cell? ⟨w.heap.size + 1 + 1, 0, none⟩ = some (Value.pointer p1) := (I2.cell 0).trans rfl
  have B2 := Lib.hid (HB.out.setCell (p := ⟨w.heap.size + 1 + 1, 0, none⟩) (by simp; omega) (.pointer p1))
  have e2 : w1.heap.size = (w1.setCell ⟨w.heap.size + 1 + 1, 0, none⟩ (.pointer p1)).heap.size := by simp
  rw [e2] at T2
  clear c0 f0 l0 T1 HB HI e2 I2
  generalize w1.setCell ⟨w.heap.size + 1 + 1, 0, none⟩ (.pointer p1) = w2 at *
  exact bodyPost_ret (v := M p1) (by simp [results, Tryz.results116, go_sem, c2]) rfl ⟨p1, rfl, T2.out, B2.out⟩

set_option maxHeartbeats 1000000 in
theorem withoutM (k : ByteArray) {w : World} {B : Nat} {p : Option Addr} {xs : List (ByteArray × Int)} (h : At w B p xs) (hB : B ≤ w.heap.size) (hR : Law.Rises lt xs) (hx : xs.length ≤ 999) :
    Calls Tryz.prog 96 #[M p, .string k] w (MadeM w (Law.outK k xs)) := by
  have H := Lib.hid h
  have HR := Lib.hid hR
  clear h hR
  go_enter Tryz.func96, Tryz.ntmps96
  go_wp2_with fail
  have B0 : Below w.heap.size w ((w.alloc (.cells #[.pointer p] 126)).alloc (.cells #[.pointer none] 126)) := ((Below.refl _ w).alloc (Nat.le_refl _) _).alloc (by simp) _
  refine (without xs.length k _ B p xs (Nat.le_refl _) (H.out.under (B0.mono hB)) (by simp; omega) HR.out hx).mono ?_
  rintro e w1 ⟨p1, rfl, t1, b1⟩
  have I1 : Law.Is w1 (w.heap.size + 1) 126 #[.pointer none] := (Law.Is.new (w.alloc (.cells #[.pointer p] 126)) 126 #[.pointer none] (by simp)).below b1 (by simp)
  have c0 := I1.cell 0
  have f0 := I1.frozen 0
  have l0 := I1.lt
  simp only [List.getElem?_toArray, List.getElem?_cons_zero] at c0
  have hb : Below w.heap.size w w1 := B0.trans (b1.mono (by simp; omega))
  have T1 := Lib.hid t1
  have HB := Lib.hid hb
  have HI := Lib.hid I1
  clear t1 hb b1 I1 B0
  go_wp2_with fail
  have T2 := Lib.hid (T1.out.far (i := 0) HI.out (by decide) (.pointer p1))
  have I2 : Law.Is (w1.setCell ⟨w.heap.size + 1, 0, none⟩ (.pointer p1)) (w.heap.size + 1) 126 #[.pointer p1] := HI.out.set 0 _ rfl
  have c2 : (w1.setCell ⟨w.heap.size + 1, 0, none⟩ (.pointer p1)).cell? ⟨w.heap.size + 1, 0, none⟩ = some (Value.pointer p1) := (I2.cell 0).trans rfl
  have B2 := Lib.hid (HB.out.setCell (p := ⟨w.heap.size + 1, 0, none⟩) (Nat.le_succ _) (.pointer p1))
  have e2 : w1.heap.size = (w1.setCell ⟨w.heap.size + 1, 0, none⟩ (.pointer p1)).heap.size := by simp
  rw [e2] at T2
  clear c0 f0 l0 T1 HB HI e2 I2
  generalize w1.setCell ⟨w.heap.size + 1, 0, none⟩ (.pointer p1) = w2 at *
  exact bodyPost_ret (v := M p1) (by simp [results, Tryz.results96, go_sem, c2]) rfl ⟨p1, rfl, T2.out, B2.out⟩

set_option maxHeartbeats 1000000 in
theorem get (k : ByteArray) {w : World} {B : Nat} {p : Option Addr} {xs : List (ByteArray × Int)} (h : At w B p xs) (hB : B ≤ w.heap.size) (hR : Law.Rises lt xs) :
    Calls Tryz.prog 114 #[M p, .string k] w fun e w' => e = .returned (.tuple #[.agg #[], .bool (Law.getK k xs).isSome]) ∧ Below w.heap.size w w' := by
  have H := Lib.hid h
  have HR := Lib.hid hR
  clear h hR
  go_enter Tryz.func114, Tryz.ntmps114
  go_wp2_with fail
  have B0 : Below w.heap.size w ((w.alloc (.cells #[.pointer p] 126)).alloc (.cells #[] 166)) := ((Below.refl _ w).alloc (Nat.le_refl _) _).alloc (by simp) _
  refine (find k (H.out.under (B0.mono hB)) HR.out).mono ?_
  have HB := Lib.hid B0
  clear B0
  rintro e w1 ⟨rfl, ⟨rfl, hg⟩ | ⟨b, u, rfl, hb, c1, hg⟩⟩
  · have HG := Lib.hid hg
    clear hg
    go_wp2_with fail
    exact bodyPost_ret (v := .tuple #[.agg #[], .bool false]) (by simp [results, Tryz.results114, go_sem]) rfl ⟨by rw [HG.out]; rfl, HB.out.alloc (by simp; omega) _⟩
  · have c2 := c1.part
    have HG := Lib.hid hg
    clear hg
    go_wp2_with fail
    exact bodyPost_ret (v := .tuple #[.agg #[], .bool true]) (by simp [results, Tryz.results114, go_sem]) rfl ⟨by rw [HG.out]; rfl, ((Below.refl _ w).alloc (Nat.le_refl _) _).alloc (by simp) _⟩

set_option maxHeartbeats 1000000 in
theorem len {w : World} {B : Nat} {p : Option Addr} {xs : List (ByteArray × Int)} (h : At w B p xs) (hB : B ≤ w.heap.size) :
    Calls Tryz.prog 126 #[M p] w fun e w' => e = .returned (.int .i64 (xs.length : Int)) ∧ w.alloc (.cells #[.pointer p] 126) = w' := by
  have H := Lib.hid h
  clear h
  go_enter Tryz.func126, Tryz.ntmps126
  go_wp2_with fail
  refine (count (H.out.under (((Below.refl _ w).alloc (Nat.le_refl _) _).mono hB))).mono ?_
  rintro e w1 ⟨rfl, rfl⟩
  go_wp2_with fail
  go_ret
  exact ⟨rfl, rfl⟩

end OmapU
end Go.Proofs.YtdkjcheannehhaaGreat

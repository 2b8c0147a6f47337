/-
  Plain facts about sums that end at the greatest number. No Go here.
-/
import Derived.Test.YtohdlnefgieenaaGreatRows
import Derived.Test.YtohdlnefgieenaaGreatJ0
import Derived.Test.YtohdlnefgieenaaGreatJ2
import Derived.WalkKit
import Derived.WalkSpells
import Derived.WalkLawsBesides
import Derived.Lib.Hide
import Derived.Deep.QuietTactic
import Derived.BigQuiet
import Derived.Deep.RegionLaw
import Derived.Deep.RegionHeld3
import Derived.Deep.DeepCutAuto
namespace Door
/-- the greatest number -/
def top : Int := 18446744073709551615
/-- a sum, or the greatest number -/
def sat (a b : Int) : Int := if a + b ≤ top then a + b else top
/-- fits 64 bits -/
def U (a : Int) : Prop := 0 ≤ a ∧ a ≤ top
theorem top_eq : top = 18446744073709551615 := rfl
theorem sat_lt {a b : Int} (h : a + b ≤ top) : sat a b = a + b := if_pos h
theorem sat_ge {a b : Int} (h : top < a + b) : sat a b = top := if_neg (by omega)
theorem sat_U {a b : Int} (ha : U a) (hb : U b) : U (sat a b) := by
  unfold U at *; unfold sat; split <;> (unfold top at *; omega)
theorem sat_comm (a b : Int) : sat a b = sat b a := by unfold sat; rw [Int.add_comm]
theorem sat_assoc {a b c : Int} (ha : U a) (hb : U b) (hc : U c) : sat (sat a b) c = sat a (sat b c) := by
  unfold U at *; unfold sat; repeat' split
  all_goals (unfold top at *; omega)
theorem le_sat {a b : Int} (ha : U a) (hb : U b) : a ≤ sat a b := by
  unfold U at *; unfold sat; split <;> omega
theorem le_sat' {a b : Int} (ha : U a) (hb : U b) : b ≤ sat a b := by
  rw [sat_comm]; exact le_sat hb ha
theorem sat_top {a : Int} (ha : U a) : sat a top = top := by
  unfold U at *; unfold sat; split <;> omega
theorem top_sat {a : Int} (ha : U a) : sat top a = top := by rw [sat_comm]; exact sat_top ha
theorem U0 : U 0 := by unfold U top; omega
theorem U1 : U 1 := by unfold U top; omega
theorem Utop : U top := by unfold U top; omega
end Door
/-
  Two closed facts of the program, and what a number that fits 64 bits is.
-/
namespace Go.Proofs.YtohdlnefgieenaaGreat
theorem own : ownKnob Tryz.prog.godebug = none := by kernel_rfl
theorem laidOut : laidOutB Tryz.prog = true := by kernel_rfl
theorem ofwf {a : Int} (h : (Lit.int .u64 a).wf = true) : Door.U a := by have := bounds_u64 h; unfold Door.U Door.top; omega
end Go.Proofs.YtohdlnefgieenaaGreat
/-
  What the parts of an ordered map (layer 4) of texts to entries come to: count, weight, heavy, narrow, above, the turnings, balanced.
-/
namespace Go.Proofs.YtohdlnefgieenaaGreat
open Go.RowKit
namespace OmapB
open Go.Law
/-- the value that a node at b holds -/
def Val (w : World) (b : Nat) (v : EnV) : Prop := w.cell? ⟨b, 1, none⟩ = some (.slice v.A v.n v.c) ∧ w.cell? ⟨b, 2, none⟩ = some (.int .i64 v.st) ∧ w.cell? ⟨b, 3, none⟩ = some (.int .i64 v.pr) ∧ w.cell? ⟨b, 4, none⟩ = some (.int .i64 v.lv)
theorem val_of {w : World} {b : Nat} {t : TypeId} {k : Value} {v : EnV} {l r s : Value} (h : Law.Is w b t #[k, EnV.e0 v, EnV.e1 v, EnV.e2 v, EnV.e3 v, l, r, s]) : Val w b v := ⟨h.cell' rfl, h.cell' rfl, h.cell' rfl, h.cell' rfl⟩
/-- at p lies a tree that holds these pairs, all its blocks below B -/
abbrev At (w : World) (B : Nat) (p : Option Addr) (xs : List (ByteArray × EnV)) : Prop := Law.Tree4 168 Value.string EnV.e0 EnV.e1 EnV.e2 EnV.e3 w B p xs

set_option maxHeartbeats 400000 in
theorem count {w : World} {B : Nat} {p : Option Addr} {xs : List (ByteArray × EnV)} (h : At w B p xs) :
    Calls Tryz.prog 150 #[.pointer p] w fun e w' => e = .returned (.int .i64 (xs.length : Int)) ∧ w = w' := by
  cases p with
  | none =>
    have := h.of_nil
    subst this
    clear h
    go_enter Tryz.func150, Tryz.ntmps150
    go_wp2
    go_ret
    exact ⟨rfl, rfl⟩
  | some a =>
    obtain ⟨b, l, r, ls, rs, k, v, rfl, rfl, hb, hi, _, _⟩ := h.of_some
    have c4 := hi.cell 7
    clear hi h
    simp only [List.getElem?_toArray, List.getElem?_cons_zero, List.getElem?_cons_succ] at c4
    generalize (ls ++ (k, v) :: rs).length = n at *
    go_enter Tryz.func150, Tryz.ntmps150
    go_wp2
    go_ret
    exact ⟨rfl, rfl⟩

set_option maxHeartbeats 400000 in
theorem weight {w : World} {B : Nat} {p : Option Addr} {xs : List (ByteArray × EnV)} (h : At w B p xs) (hx : xs.length ≤ 1000) :
    Calls Tryz.prog 148 #[.pointer p] w fun e w' => e = .returned (.int .i64 ((xs.length : Int) + 1)) ∧ w = w' := by
  have H := Lib.hid h
  clear h
  go_enter Tryz.func148, Tryz.ntmps148
  go_wp2_with fail
  refine (count H.out).mono ?_
  rintro e w' ⟨rfl, rfl⟩
  go_wp2_with fail
  go_ret
  exact ⟨rfl, rfl⟩

set_option maxHeartbeats 400000 in
theorem heavy {w : World} {B C : Nat} {p q : Option Addr} {xs ys : List (ByteArray × EnV)} (h : At w B p xs) (hx : xs.length ≤ 1000) (g : At w C q ys) (hy : ys.length ≤ 1000) :
    Calls Tryz.prog 143 #[.pointer p, .pointer q] w fun e w' => e = .returned (.bool (decide (3 * ((ys.length : Int) + 1) < (xs.length : Int) + 1))) ∧ w = w' := by
  have H := Lib.hid h
  have G := Lib.hid g
  clear h g
  go_enter Tryz.func143, Tryz.ntmps143
  go_wp2_with fail
  refine (weight H.out hx).mono ?_
  rintro e w' ⟨rfl, rfl⟩
  go_wp2_with fail
  refine (weight G.out hy).mono ?_
  rintro e w' ⟨rfl, rfl⟩
  go_wp2_with fail
  go_ret
  exact ⟨rfl, rfl⟩

set_option maxHeartbeats 400000 in
theorem narrow {w : World} {B C : Nat} {p q : Option Addr} {xs ys : List (ByteArray × EnV)} (h : At w B p xs) (hx : xs.length ≤ 1000) (g : At w C q ys) (hy : ys.length ≤ 1000) :
    Calls Tryz.prog 149 #[.pointer p, .pointer q] w fun e w' => e = .returned (.bool (decide ((xs.length : Int) + 1 < 2 * ((ys.length : Int) + 1)))) ∧ w = w' := by
  have H := Lib.hid h
  have G := Lib.hid g
  clear h g
  go_enter Tryz.func149, Tryz.ntmps149
  go_wp2_with fail
  refine (weight H.out hx).mono ?_
  rintro e w' ⟨rfl, rfl⟩
  go_wp2_with fail
  refine (weight G.out hy).mono ?_
  rintro e w' ⟨rfl, rfl⟩
  go_wp2_with fail
  go_ret
  exact ⟨rfl, rfl⟩

/-- behind what makes a tree of these pairs -/
def Made (w : World) (zs : List (ByteArray × EnV)) (e : Ending) (w' : World) : Prop := ∃ p, e = .returned (.pointer p) ∧ At w' w'.heap.size p zs ∧ Below w.heap.size w w'

set_option maxRecDepth 100000 in
set_option maxHeartbeats 2000000 in
theorem above {w : World} {b B : Nat} {k : ByteArray} {v : EnV} {l r : Option Addr} {xs ys : List (ByteArray × EnV)} (h0 : w.cell? ⟨b, 0, none⟩ = some (.string k)) (h1 : Val w b v) (hl : At w B l xs) (hr : At w B r ys) (hB : B ≤ w.heap.size) (hx : xs.length + ys.length ≤ 1000) :
    Calls Tryz.prog 146 #[.pointer (some ⟨b, 0, none⟩), .pointer l, .pointer r] w (Made w (xs ++ (k, v) :: ys)) := by
  have HL := Lib.hid (hl.wide hB)
  have HR := Lib.hid (hr.wide hB)
  have hx1 : xs.length ≤ 1000 := by omega
  have hy1 : ys.length ≤ 1000 := by omega
  have HS : Hid (IntKind.i64.wrap (IntKind.i64.wrap ((xs.length : Int) + (ys.length : Int)) + 1) = ((xs ++ (k, v) :: ys).length : Int)) := by
    show _ = _
    rw [IntWalk.i64_in ((xs.length : Int) + (ys.length : Int)) (by omega), IntWalk.i64_in _ (by omega)]
    simp
    omega
  clear hl hr hB
  obtain ⟨h1, h2, h3, h4⟩ := h1
  go_enter Tryz.func146, Tryz.ntmps146
  go_wp2_with fail
  go_region_held3 (fun w' => w'.cell? ⟨b, 0, none⟩ = some (.string k) ∧ w'.cell? ⟨b, 1, none⟩ = some (.slice v.A v.n v.c) ∧ w'.cell? ⟨b, 2, none⟩ = some (.int .i64 v.st) ∧ w'.cell? ⟨b, 3, none⟩ = some (.int .i64 v.pr) ∧ w'.cell? ⟨b, 4, none⟩ = some (.int .i64 v.lv)) (go_keep) (first
    | (go_at_call_of 150 (Value.pointer l); refine (count (HL.out.drewN 1)).mono ?_; rintro e w' ⟨rfl, rfl⟩)
    | (go_at_call_of 150 (Value.pointer r); refine (count (HR.out.drewN 1)).mono ?_; rintro e w' ⟨rfl, rfl⟩))
  go_wp2_with fail
  go_ret
  exact ⟨_, rfl, Law.Tree4.new (HL.out.drewN 1) (HR.out.drewN 1) rfl HS.out, (Law.below_drewN (Below.refl _ w) 1).alloc (Nat.le_refl _) _⟩

/-- all that lay in W lies in w as it lay -/
def Kept (W w : World) : Prop := Below W.heap.size W w
theorem Kept.drew (W : World) : Kept W (W.drewN 1) := Law.below_drewN (Below.refl _ W) 1
theorem Kept.cell {W w : World} (K : Kept W w) {b i : Nat} {u : Value} (hb : b < W.heap.size) (h : W.cell? ⟨b, i, none⟩ = some u) : w.cell? ⟨b, i, none⟩ = some u := (Below.cell K (p := ⟨b, i, none⟩) hb).trans h
theorem Kept.val {W w : World} (K : Kept W w) {b : Nat} {v : EnV} (hb : b < W.heap.size) (h : Val W b v) : Val w b v := ⟨K.cell hb h.1, K.cell hb h.2.1, K.cell hb h.2.2.1, K.cell hb h.2.2.2⟩
theorem Kept.at {W w : World} (K : Kept W w) {B : Nat} {p : Option Addr} {xs : List (ByteArray × EnV)} (h : At W B p xs) (hB : B ≤ W.heap.size) : At w w.heap.size p xs := ((h.wide hB).under K).wide K.size
/-- behind what makes a tree of these pairs, in a world in which all lies that lay in W -/
def Next (W w : World) (zs : List (ByteArray × EnV)) (e : Ending) (w' : World) : Prop := ∃ p, e = .returned (.pointer p) ∧ At w' w'.heap.size p zs ∧ Kept W w' ∧ Kept w w'
theorem Made.next {W w : World} {zs : List (ByteArray × EnV)} {f : FuncId} {args : Array Value} (K : Kept W w) (h : Calls Tryz.prog f args w (Made w zs)) : Calls Tryz.prog f args w (Next W w zs) :=
  h.mono fun _ _ ⟨p, he, ht, hb⟩ => ⟨p, he, ht, Below.trans K (Below.mono hb K.size), hb⟩

/-- what is made of a node whose pairs are known in W -/
theorem above_next {W w : World} {b : Nat} {k : ByteArray} {v : EnV} {l r : Option Addr} {xs ys : List (ByteArray × EnV)} (h0 : W.cell? ⟨b, 0, none⟩ = some (.string k)) (h1 : Val W b v) (hb : b < W.heap.size) (K : Kept W w) (hl : At w w.heap.size l xs) (hr : At w w.heap.size r ys) (hx : xs.length + ys.length ≤ 1000) :
    Calls Tryz.prog 146 #[.pointer (some ⟨b, 0, none⟩), .pointer l, .pointer r] w (Next W w (xs ++ (k, v) :: ys)) :=
  Made.next K (above (K.cell hb h0) (K.val hb h1) hl hr (Nat.le_refl _) hx)
theorem Next.made {W w w' : World} {zs zs' : List (ByteArray × EnV)} {e : Ending} (h : Next W w zs e w') (hz : zs = zs') : Made W zs' e w' := by
  obtain ⟨p, he, ht, K, _⟩ := h
  exact ⟨p, he, hz ▸ ht, K⟩
theorem Kept.after {w w' : World} (K : Kept w w') {p : Option Addr} {xs : List (ByteArray × EnV)} (h : At w w.heap.size p xs) : At w' w'.heap.size p xs := K.at h (Nat.le_refl _)

set_option maxRecDepth 100000 in
set_option maxHeartbeats 4000000 in
theorem turnedLeft {w : World} {b B : Nat} {k : ByteArray} {v : EnV} {l r : Option Addr} {xs ys : List (ByteArray × EnV)} (h0 : w.cell? ⟨b, 0, none⟩ = some (.string k)) (h1 : Val w b v) (hbl : b < w.heap.size) (hl : At w B l xs) (hr : At w B r ys) (hB : B ≤ w.heap.size) (hx : xs.length + ys.length ≤ 1000) (hh : 0 < ys.length) :
    Calls Tryz.prog 144 #[.pointer (some ⟨b, 0, none⟩), .pointer l, .pointer r] w (Made w (xs ++ (k, v) :: ys)) := by
  have HL := Lib.hid (hl.wide hB)
  obtain ⟨rb, il, ir, ils, irs, rk, rv, rfl, rfl, hrb, hri, hil, hir⟩ := (hr.wide hB).full hh
  have HI := Lib.hid hil
  have HO := Lib.hid hir
  have r0 := hri.cell 0
  have r1 := val_of hri
  have r2 := hri.cell 5
  have r3 := hri.cell 6
  simp only [List.getElem?_toArray, List.getElem?_cons_zero, List.getElem?_cons_succ] at r0 r1 r2 r3
  simp only [List.length_append, List.length_cons] at hx
  have hi1 : ils.length ≤ 1000 := by omega
  have ho1 : irs.length ≤ 1000 := by omega
  clear hl hr hri hil hir hh
  by_cases hn : (ils.length : Int) + 1 < 2 * ((irs.length : Int) + 1)
  · have d1 : decide ((ils.length : Int) + 1 < 2 * ((irs.length : Int) + 1)) = true := by simpa using hn
    have HA : Hid (∀ w', Kept w w' → Calls Tryz.prog 146 #[.pointer (some ⟨b, 0, none⟩), .pointer l, .pointer il] w' (Next w w' (xs ++ (k, v) :: ils))) := fun w' K =>
      above_next h0 h1 hbl K (K.after HL.out) (K.after HI.out) (by omega)
    have HE : Hid (∀ w' p1, Kept w w' → At w' w'.heap.size p1 (xs ++ (k, v) :: ils) → Calls Tryz.prog 146 #[.pointer (some ⟨rb, 0, none⟩), .pointer p1, .pointer ir] w' (Made w (xs ++ (k, v) :: (ils ++ (rk, rv) :: irs)))) := fun w' p1 K t1 =>
      (above_next r0 r1 hrb K t1 (K.after HO.out) (by simp; omega)).mono fun _ _ h => h.made (by simp)
    clear hn h0 h1 r0 r1
    go_enter Tryz.func144, Tryz.ntmps144
    go_wp2_with fail
    go_quiet (fail)
    go_wp2_with fail
    refine (narrow (HI.out.drewN _) hi1 (HO.out.drewN _) ho1).mono ?_
    rintro e w' ⟨rfl, rfl⟩
    rw [d1]
    go_wp2_with fail
    refine (HA.out _ (Law.below_drewN (Below.refl _ w) _)).mono ?_
    rintro e w1 ⟨p1, rfl, t1, K1, _⟩
    have H2 := Lib.hid (HE.out w1 p1 K1 t1)
    clear t1 K1 HA HE
    go_wp2_with fail
    refine H2.out.mono ?_
    rintro e w2 ⟨p2, rfl, h2⟩
    have H3 := Lib.hid h2
    clear h2 H2
    go_wp2_with fail
    go_ret
    exact ⟨p2, rfl, H3.out⟩
  · have d1 : decide ((ils.length : Int) + 1 < 2 * ((irs.length : Int) + 1)) = false := by simpa using hn
    obtain ⟨ib, jl, jr, jls, jrs, ik, iv, rfl, rfl, hib, hii, hjl, hjr⟩ := HI.out.full (by omega)
    have i0 := hii.cell 0
    have i1 := val_of hii
    have i2 := hii.cell 5
    have i3 := hii.cell 6
    simp only [List.getElem?_toArray, List.getElem?_cons_zero, List.getElem?_cons_succ] at i0 i1 i2 i3
    simp only [List.length_append, List.length_cons] at hx
    have HA : Hid (∀ w', Kept w w' → Calls Tryz.prog 146 #[.pointer (some ⟨b, 0, none⟩), .pointer l, .pointer jl] w' (Next w w' (xs ++ (k, v) :: jls))) := fun w' K =>
      above_next h0 h1 hbl K (K.after HL.out) (K.after hjl) (by omega)
    have HC : Hid (∀ w', Kept w w' → Calls Tryz.prog 146 #[.pointer (some ⟨rb, 0, none⟩), .pointer jr, .pointer ir] w' (Next w w' (jrs ++ (rk, rv) :: irs))) := fun w' K =>
      above_next r0 r1 hrb K (K.after hjr) (K.after HO.out) (by omega)
    have HE : Hid (∀ w' p1 p2, Kept w w' → At w' w'.heap.size p1 (xs ++ (k, v) :: jls) → At w' w'.heap.size p2 (jrs ++ (rk, rv) :: irs) → Calls Tryz.prog 146 #[.pointer (some ⟨ib, 0, none⟩), .pointer p1, .pointer p2] w' (Next w w' (xs ++ (k, v) :: (jls ++ (ik, iv) :: jrs ++ (rk, rv) :: irs)))) := fun w' p1 p2 K t1 t2 =>
      (above_next i0 i1 hib K t1 t2 (by simp; omega)).mono fun _ _ ⟨p, he, ht, hk⟩ => ⟨p, he, by simpa using ht, hk⟩
    have HK : Hid (∀ w', Kept w w' → w'.cell? ⟨ib, 5, none⟩ = some (.pointer jl) ∧ w'.cell? ⟨ib, 6, none⟩ = some (.pointer jr) ∧ Kept w w') := fun w' K => ⟨K.cell hib i2, K.cell hib i3, K⟩
    clear hn h0 h1 r0 r1 i0 i1 hii hjl hjr
    go_enter Tryz.func144, Tryz.ntmps144
    go_wp2_with fail
    go_quiet (fail)
    go_wp2_with fail
    refine (narrow (HI.out.drewN _) hi1 (HO.out.drewN _) ho1).mono ?_
    rintro e w' ⟨rfl, rfl⟩
    rw [d1]
    go_wp2_with fail
    have K0 : Kept w (w.drewN nq).drew := Law.below_drewN (Law.below_drewN (Below.refl _ w) nq) 1
    go_region_held3 (fun w' => w'.cell? ⟨ib, 5, none⟩ = some (.pointer jl) ∧ w'.cell? ⟨ib, 6, none⟩ = some (.pointer jr) ∧ Kept w w') (exact HK.out _ (by assumption)) (first
      | (go_at_call_of 146 (Value.pointer (some ⟨b, 0, none⟩)); refine (HA.out _ (by assumption)).mono ?_; rintro e w1 ⟨p1, rfl, t1, K1, _⟩; have T1 := Lib.hid t1; clear t1)
      | (go_at_call_of 146 (Value.pointer (some ⟨rb, 0, none⟩)); refine (HC.out _ (by assumption)).mono ?_; rintro e w2 ⟨p2, rfl, t2, K2, k2⟩; have T2 := Lib.hid t2; have T1' := Lib.hid (k2.after T1.out); clear t2 k2 T1)
      | (go_at_call_of 146 (Value.pointer (some ⟨ib, 0, none⟩)); refine (HE.out _ _ _ (by assumption) T1'.out T2.out).mono ?_; rintro e w3 ⟨p3, rfl, t3, K3, _⟩; have T3 := Lib.hid t3; clear t3))
    go_wp2_with fail
    go_ret
    exact ⟨_, rfl, T3.out, K3⟩

set_option maxRecDepth 100000 in
set_option maxHeartbeats 4000000 in
theorem turnedRight {w : World} {b B : Nat} {k : ByteArray} {v : EnV} {l r : Option Addr} {xs ys : List (ByteArray × EnV)} (h0 : w.cell? ⟨b, 0, none⟩ = some (.string k)) (h1 : Val w b v) (hbl : b < w.heap.size) (hl : At w B l xs) (hr : At w B r ys) (hB : B ≤ w.heap.size) (hx : xs.length + ys.length ≤ 1000) (hh : 0 < xs.length) :
    Calls Tryz.prog 145 #[.pointer (some ⟨b, 0, none⟩), .pointer l, .pointer r] w (Made w (xs ++ (k, v) :: ys)) := by
  have HR := Lib.hid (hr.wide hB)
  obtain ⟨lb, ol, il, ols, ils, lk, lv, rfl, rfl, hlb, hli, hol, hil⟩ := (hl.wide hB).full hh
  have HI := Lib.hid hil
  have HO := Lib.hid hol
  have r0 := hli.cell 0
  have r1 := val_of hli
  have r2 := hli.cell 5
  have r3 := hli.cell 6
  simp only [List.getElem?_toArray, List.getElem?_cons_zero, List.getElem?_cons_succ] at r0 r1 r2 r3
  simp only [List.length_append, List.length_cons] at hx
  have hi1 : ils.length ≤ 1000 := by omega
  have ho1 : ols.length ≤ 1000 := by omega
  clear hl hr hli hol hil hh
  by_cases hn : (ils.length : Int) + 1 < 2 * ((ols.length : Int) + 1)
  · have d1 : decide ((ils.length : Int) + 1 < 2 * ((ols.length : Int) + 1)) = true := by simpa using hn
    have HA : Hid (∀ w', Kept w w' → Calls Tryz.prog 146 #[.pointer (some ⟨b, 0, none⟩), .pointer il, .pointer r] w' (Next w w' (ils ++ (k, v) :: ys))) := fun w' K =>
      above_next h0 h1 hbl K (K.after HI.out) (K.after HR.out) (by omega)
    have HE : Hid (∀ w' p1, Kept w w' → At w' w'.heap.size p1 (ils ++ (k, v) :: ys) → Calls Tryz.prog 146 #[.pointer (some ⟨lb, 0, none⟩), .pointer ol, .pointer p1] w' (Made w (ols ++ (lk, lv) :: ils ++ (k, v) :: ys))) := fun w' p1 K t1 =>
      (above_next r0 r1 hlb K (K.after HO.out) t1 (by simp; omega)).mono fun _ _ h => h.made (by simp)
    clear hn h0 h1 r0 r1
    go_enter Tryz.func145, Tryz.ntmps145
    go_wp2_with fail
    go_quiet (fail)
    go_wp2_with fail
    refine (narrow (HI.out.drewN _) hi1 (HO.out.drewN _) ho1).mono ?_
    rintro e w' ⟨rfl, rfl⟩
    rw [d1]
    go_wp2_with fail
    refine (HA.out _ (Law.below_drewN (Below.refl _ w) _)).mono ?_
    rintro e w1 ⟨p1, rfl, t1, K1, _⟩
    have H2 := Lib.hid (HE.out w1 p1 K1 t1)
    clear t1 K1 HA HE
    go_wp2_with fail
    refine H2.out.mono ?_
    rintro e w2 ⟨p2, rfl, h2⟩
    have H3 := Lib.hid h2
    clear h2 H2
    go_wp2_with fail
    go_ret
    exact ⟨p2, rfl, H3.out⟩
  · have d1 : decide ((ils.length : Int) + 1 < 2 * ((ols.length : Int) + 1)) = false := by simpa using hn
    obtain ⟨ib, jl, jr, jls, jrs, ik, iv, rfl, rfl, hib, hii, hjl, hjr⟩ := HI.out.full (by omega)
    have i0 := hii.cell 0
    have i1 := val_of hii
    have i2 := hii.cell 5
    have i3 := hii.cell 6
    simp only [List.getElem?_toArray, List.getElem?_cons_zero, List.getElem?_cons_succ] at i0 i1 i2 i3
    simp only [List.length_append, List.length_cons] at hx
    have HA : Hid (∀ w', Kept w w' → Calls Tryz.prog 146 #[.pointer (some ⟨lb, 0, none⟩), .pointer ol, .pointer jl] w' (Next w w' (ols ++ (lk, lv) :: jls))) := fun w' K =>
      above_next r0 r1 hlb K (K.after HO.out) (K.after hjl) (by omega)
    have HC : Hid (∀ w', Kept w w' → Calls Tryz.prog 146 #[.pointer (some ⟨b, 0, none⟩), .pointer jr, .pointer r] w' (Next w w' (jrs ++ (k, v) :: ys))) := fun w' K =>
      above_next h0 h1 hbl K (K.after hjr) (K.after HR.out) (by omega)
    have HE : Hid (∀ w' p1 p2, Kept w w' → At w' w'.heap.size p1 (ols ++ (lk, lv) :: jls) → At w' w'.heap.size p2 (jrs ++ (k, v) :: ys) → Calls Tryz.prog 146 #[.pointer (some ⟨ib, 0, none⟩), .pointer p1, .pointer p2] w' (Next w w' (ols ++ (lk, lv) :: (jls ++ (ik, iv) :: jrs) ++ (k, v) :: ys))) := fun w' p1 p2 K t1 t2 =>
      (above_next i0 i1 hib K t1 t2 (by simp; omega)).mono fun _ _ ⟨p, he, ht, hk⟩ => ⟨p, he, by simpa using ht, hk⟩
    have HK : Hid (∀ w', Kept w w' → w'.cell? ⟨ib, 5, none⟩ = some (.pointer jl) ∧ w'.cell? ⟨ib, 6, none⟩ = some (.pointer jr) ∧ Kept w w') := fun w' K => ⟨K.cell hib i2, K.cell hib i3, K⟩
    clear hn h0 h1 r0 r1 i0 i1 hii hjl hjr
    go_enter Tryz.func145, Tryz.ntmps145
    go_wp2_with fail
    go_quiet (fail)
    go_wp2_with fail
    refine (narrow (HI.out.drewN _) hi1 (HO.out.drewN _) ho1).mono ?_
    rintro e w' ⟨rfl, rfl⟩
    rw [d1]
    go_wp2_with fail
    have K0 : Kept w (w.drewN nq).drew := Law.below_drewN (Law.below_drewN (Below.refl _ w) nq) 1
    go_region_held3 (fun w' => w'.cell? ⟨ib, 5, none⟩ = some (.pointer jl) ∧ w'.cell? ⟨ib, 6, none⟩ = some (.pointer jr) ∧ Kept w w') (exact HK.out _ (by assumption)) (first
      | (go_at_call_of 146 (Value.pointer (some ⟨lb, 0, none⟩)); refine (HA.out _ (by assumption)).mono ?_; rintro e w1 ⟨p1, rfl, t1, K1, _⟩; have T1 := Lib.hid t1; clear t1)
      | (go_at_call_of 146 (Value.pointer (some ⟨b, 0, none⟩)); refine (HC.out _ (by assumption)).mono ?_; rintro e w2 ⟨p2, rfl, t2, K2, k2⟩; have T2 := Lib.hid t2; have T1' := Lib.hid (k2.after T1.out); clear t2 k2 T1)
      | (go_at_call_of 146 (Value.pointer (some ⟨ib, 0, none⟩)); refine (HE.out _ _ _ (by assumption) T1'.out T2.out).mono ?_; rintro e w3 ⟨p3, rfl, t3, K3, _⟩; have T3 := Lib.hid t3; clear t3))
    go_wp2_with fail
    go_ret
    exact ⟨_, rfl, T3.out, K3⟩

set_option maxHeartbeats 1000000 in
theorem balanced {w : World} {b B : Nat} {k : ByteArray} {v : EnV} {l r : Option Addr} {xs ys : List (ByteArray × EnV)} (h0 : w.cell? ⟨b, 0, none⟩ = some (.string k)) (h1 : Val w b v) (hbl : b < w.heap.size) (hl : At w B l xs) (hr : At w B r ys) (hB : B ≤ w.heap.size) (hx : xs.length + ys.length ≤ 1000) :
    Calls Tryz.prog 135 #[.pointer (some ⟨b, 0, none⟩), .pointer l, .pointer r] w (Made w (xs ++ (k, v) :: ys)) := by
  have hx1 : xs.length ≤ 1000 := by omega
  have hy1 : ys.length ≤ 1000 := by omega
  have HL := Lib.hid hl
  have HR := Lib.hid hr
  have H0 := Lib.hid h0
  have H1 := Lib.hid h1
  clear hl hr h0 h1
  by_cases c1 : 3 * ((xs.length : Int) + 1) < (ys.length : Int) + 1
  · have d1 : decide (3 * ((xs.length : Int) + 1) < (ys.length : Int) + 1) = true := by simpa using c1
    go_enter Tryz.func135, Tryz.ntmps135
    go_wp2_with fail
    refine (heavy HR.out hy1 HL.out hx1).mono ?_
    rintro e w' ⟨rfl, rfl⟩
    rw [d1]
    go_wp2_with fail
    refine (turnedLeft H0.out H1.out hbl HL.out HR.out hB hx (by omega)).mono ?_
    rintro e w' ⟨p, rfl, h2⟩
    have H2 := Lib.hid h2
    clear h2
    go_wp2_with fail
    go_ret
    exact ⟨p, rfl, H2.out⟩
  · have d1 : decide (3 * ((xs.length : Int) + 1) < (ys.length : Int) + 1) = false := by simpa using c1
    by_cases c2 : 3 * ((ys.length : Int) + 1) < (xs.length : Int) + 1
    · have d2 : decide (3 * ((ys.length : Int) + 1) < (xs.length : Int) + 1) = true := by simpa using c2
      go_enter Tryz.func135, Tryz.ntmps135
      go_wp2_with fail
      refine (heavy HR.out hy1 HL.out hx1).mono ?_
      rintro e w' ⟨rfl, rfl⟩
      rw [d1]
      go_wp2_with fail
      refine (heavy HL.out hx1 HR.out hy1).mono ?_
      rintro e w' ⟨rfl, rfl⟩
      rw [d2]
      go_wp2_with fail
      refine (turnedRight H0.out H1.out hbl HL.out HR.out hB hx (by omega)).mono ?_
      rintro e w' ⟨p, rfl, h2⟩
      have H2 := Lib.hid h2
      clear h2
      go_wp2_with fail
      go_ret
      exact ⟨p, rfl, H2.out⟩
    · have d2 : decide (3 * ((ys.length : Int) + 1) < (xs.length : Int) + 1) = false := by simpa using c2
      go_enter Tryz.func135, Tryz.ntmps135
      go_wp2_with fail
      refine (heavy HR.out hy1 HL.out hx1).mono ?_
      rintro e w' ⟨rfl, rfl⟩
      rw [d1]
      go_wp2_with fail
      refine (heavy HL.out hx1 HR.out hy1).mono ?_
      rintro e w' ⟨rfl, rfl⟩
      rw [d2]
      go_wp2_with fail
      refine (above H0.out H1.out HL.out HR.out hB hx).mono ?_
      rintro e w' ⟨p, rfl, h2⟩
      have H2 := Lib.hid h2
      clear h2
      go_wp2_with fail
      go_ret
      exact ⟨p, rfl, H2.out⟩
theorem balanced_next {W w : World} {b : Nat} {k : ByteArray} {v : EnV} {l r : Option Addr} {xs ys : List (ByteArray × EnV)} (h0 : W.cell? ⟨b, 0, none⟩ = some (.string k)) (h1 : Val W b v) (hb : b < W.heap.size) (K : Kept W w) (hl : At w w.heap.size l xs) (hr : At w w.heap.size r ys) (hx : xs.length + ys.length ≤ 1000) :
    Calls Tryz.prog 135 #[.pointer (some ⟨b, 0, none⟩), .pointer l, .pointer r] w (Next W w (xs ++ (k, v) :: ys)) :=
  Made.next K (balanced (K.cell hb h0) (K.val hb h1) (Nat.lt_of_lt_of_le hb K.size) hl hr (Nat.le_refl _) hx)
end OmapB
end Go.Proofs.YtohdlnefgieenaaGreat

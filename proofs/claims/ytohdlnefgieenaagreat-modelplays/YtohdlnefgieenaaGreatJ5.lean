/-
  What the parts of an ordered map (layer 4) of texts to entries come to: count, weight, heavy, narrow, above, the turnings, balanced.
-/
import Derived.Test.YtohdlnefgieenaaGreatJ4
import Derived.Test.YtohdlnefgieenaaGreatJ3
import Derived.WalkKit
import Derived.WalkSpells
import Derived.WalkLawsBesides
import Derived.Lib.Hide
import Derived.Deep.QuietTactic
import Derived.BigQuiet
import Derived.Deep.RegionLaw
import Derived.Deep.RegionHeld3
import Derived.Deep.DeepCutAuto
import Derived.Test.YtohdlnefgieenaaGreatJ0
import Derived.RangeFuncBox
import Derived.Maps.AppendAt
namespace Go.Proofs.YtohdlnefgieenaaGreat
open Go.RowKit
namespace OmapB
open Go.Law
def Val (w : World) (b : Nat) (v : EnV) : Prop := w.cell? ⟨b, 1, none⟩ = some (.slice v.A v.n v.c) ∧ w.cell? ⟨b, 2, none⟩ = some (.int .i64 v.st) ∧ w.cell? ⟨b, 3, none⟩ = some (.int .i64 v.pr) ∧ w.cell? ⟨b, 4, none⟩ = some (.int .i64 v.lv)
theorem val_of {w : World} {b : Nat} {t : TypeId} {k : Value} {v : EnV} {l r s : Value} (h : Law.Is w b t #[k, EnV.e0 v, EnV.e1 v, EnV.e2 v, EnV.e3 v, l, r, s]) : Val w b v := ⟨h.cell' rfl, h.cell' rfl, h.cell' rfl, h.cell' rfl⟩
abbrev At (w : World) (B : Nat) (p : Option Addr) (xs : List (ByteArray × EnV)) : Prop := Law.Tree4 168 Value.string EnV.e0 EnV.e1 EnV.e2 EnV.e3 w B p xs

set_option maxHeartbeats 400000 in
theorem count {w : World} {B : Nat} {p : Option Addr} {xs : List (ByteArray × EnV)} (h : At w B p xs) :
  Calls Tryz.prog 150 #[.pointer p] w fun e w' => e = .returned (.int .i64 (xs.length : Int)) ∧ w = w' := by
 cases p with
 | none =>
   have := h.of_nil
   subst this
   clear h
   go_enter Tryz.func150, Tryz.ntmps150
   go_wp2
   go_ret
   exact ⟨rfl, rfl⟩
 | some a =>
   obtain ⟨b, l, r, ls, rs, k, v, rfl, rfl, hb, hi, _, _⟩ := h.of_some
   have c4 := hi.cell 7
   clear hi h
   simp only [List.getElem?_toArray, List.getElem?_cons_zero, List.getElem?_cons_succ] at c4
   generalize (ls ++ (k, v) :: rs).length = n at *
   go_enter Tryz.func150, Tryz.ntmps150
   go_wp2
   go_ret
   exact ⟨rfl, rfl⟩

set_option maxHeartbeats 400000 in
theorem weight {w : World} {B : Nat} {p : Option Addr} {xs : List (ByteArray × EnV)} (h : At w B p xs) (hx : xs.length ≤ 1000) :
  Calls Tryz.prog 148 #[.pointer p] w fun e w' => e = .returned (.int .i64 ((xs.length : Int) + 1)) ∧ w = w' := by
 have H := Lib.hid h
 clear h
 go_enter Tryz.func148, Tryz.ntmps148
 go_wp2_with fail
 refine (count H.out).mono ?_
 rintro e w' ⟨rfl, rfl⟩
 go_wp2_with fail
 go_ret
 exact ⟨rfl, rfl⟩

set_option maxHeartbeats 400000 in
theorem heavy {w : World} {B C : Nat} {p q : Option Addr} {xs ys : List (ByteArray × EnV)} (h : At w B p xs) (hx : xs.length ≤ 1000) (g : At w C q ys) (hy : ys.length ≤ 1000) :
  Calls Tryz.prog 143 #[.pointer p, .pointer q] w fun e w' => e = .returned (.bool (decide (3 * ((ys.length : Int) + 1) < (xs.length : Int) + 1))) ∧ w = w' := by
 have H := Lib.hid h
 have G := Lib.hid g
 clear h g
 go_enter Tryz.func143, Tryz.ntmps143
 go_wp2_with fail
 refine (weight H.out hx).mono ?_
 rintro e w' ⟨rfl, rfl⟩
 go_wp2_with fail
 refine (weight G.out hy).mono ?_
 rintro e w' ⟨rfl, rfl⟩
 go_wp2_with fail
 go_ret
 exact ⟨rfl, rfl⟩

set_option maxHeartbeats 400000 in
theorem narrow {w : World} {B C : Nat} {p q : Option Addr} {xs ys : List (ByteArray × EnV)} (h : At w B p xs) (hx : xs.length ≤ 1000) (g : At w C q ys) (hy : ys.length ≤ 1000) :
  Calls Tryz.prog 149 #[.pointer p, .pointer q] w fun e w' => e = .returned (.bool (decide ((xs.length : Int) + 1 < 2 * ((ys.length : Int) + 1)))) ∧ w = w' := by
 have H := Lib.hid h
 have G := Lib.hid g
 clear h g
 go_enter Tryz.func149, Tryz.ntmps149
 go_wp2_with fail
 refine (weight H.out hx).mono ?_
 rintro e w' ⟨rfl, rfl⟩
 go_wp2_with fail
 refine (weight G.out hy).mono ?_
 rintro e w' ⟨rfl, rfl⟩
 go_wp2_with fail
 go_ret
 exact ⟨rfl, rfl⟩

def Made (w : World) (zs : List (ByteArray × EnV)) (e : Ending) (w' : World) : Prop := ∃ p, e = .returned (.pointer p) ∧ At w' w'.heap.size p zs ∧ Below w.heap.size w w'

set_option maxRecDepth 100000 in
set_option maxHeartbeats 2000000 in
theorem above {w : World} {b B : Nat} {k : ByteArray} {v : EnV} {l r : Option Addr} {xs ys : List (ByteArray × EnV)} (h0 : w.cell? ⟨b, 0, none⟩ = some (.string k)) (h1 : Val w b v) (hl : At w B l xs) (hr : At w B r ys) (hB : B ≤ w.heap.size) (hx : xs.length + ys.length ≤ 1000) :
  Calls Tryz.prog 146 #[.pointer (some ⟨b, 0, none⟩), .pointer l, .pointer r] w (Made w (xs ++ (k, v) :: ys)) := by
 have HL := Lib.hid (hl.wide hB)
 have HR := Lib.hid (hr.wide hB)
 have hx1 : xs.length ≤ 1000 := by omega
 have hy1 : ys.length ≤ 1000 := by omega
 have HS : Hid (IntKind.i64.wrap (IntKind.i64.wrap ((xs.length : Int) + (ys.length : Int)) + 1) = ((xs ++ (k, v) :: ys).length : Int)) := by
  show _ = _
  rw [IntWalk.i64_in ((xs.length : Int) + (ys.length : Int)) (by omega), IntWalk.i64_in _ (by omega)]
  simp
  omega
 clear hl hr hB
 obtain ⟨h1, h2, h3, h4⟩ := h1
 go_enter Tryz.func146, Tryz.ntmps146
 go_wp2_with fail
 go_region_held3 (fun w' => w'.cell? ⟨b, 0, none⟩ = some (.string k) ∧ w'.cell? ⟨b, 1, none⟩ = some (.slice v.A v.n v.c) ∧ w'.cell? ⟨b, 2, none⟩ = some (.int .i64 v.st) ∧ w'.cell? ⟨b, 3, none⟩ = some (.int .i64 v.pr) ∧ w'.cell? ⟨b, 4, none⟩ = some (.int .i64 v.lv)) (go_keep) (first
  | (go_at_call_of 150 (Value.pointer l); refine (count (HL.out.drewN 1)).mono ?_; rintro e w' ⟨rfl, rfl⟩)
  | (go_at_call_of 150 (Value.pointer r); refine (count (HR.out.drewN 1)).mono ?_; rintro e w' ⟨rfl, rfl⟩))
 go_wp2_with fail
 go_ret
 exact ⟨_, rfl, Law.Tree4.new (HL.out.drewN 1) (HR.out.drewN 1) rfl HS.out, (Law.below_drewN (Below.refl _ w) 1).alloc (Nat.le_refl _) _⟩

def Kept (W w : World) : Prop := Below W.heap.size W w
theorem Kept.drew (W : World) : Kept W (W.drewN 1) := Law.below_drewN (Below.refl _ W) 1
theorem Kept.cell {W w : World} (K : Kept W w) {b i : Nat} {u : Value} (hb : b < W.heap.size) (h : W.cell? ⟨b, i, none⟩ = some u) : w.cell? ⟨b, i, none⟩ = some u := (Below.cell K (p := ⟨b, i, none⟩) hb).trans h
theorem Kept.val {W w : World} (K : Kept W w) {b : Nat} {v : EnV} (hb : b < W.heap.size) (h : Val W b v) : Val w b v := ⟨K.cell hb h.1, K.cell hb h.2.1, K.cell hb h.2.2.1, K.cell hb h.2.2.2⟩
theorem Kept.at {W w : World} (K : Kept W w) {B : Nat} {p : Option Addr} {xs : List (ByteArray × EnV)} (h : At W B p xs) (hB : B ≤ W.heap.size) : At w w.heap.size p xs := ((h.wide hB).under K).wide K.size
def Next (W w : World) (zs : List (ByteArray × EnV)) (e : Ending) (w' : World) : Prop := ∃ p, e = .returned (.pointer p) ∧ At w' w'.heap.size p zs ∧ Kept W w' ∧ Kept w w'
theorem Made.next {W w : World} {zs : List (ByteArray × EnV)} {f : FuncId} {args : Array Value} (K : Kept W w) (h : Calls Tryz.prog f args w (Made w zs)) : Calls Tryz.prog f args w (Next W w zs) :=
 h.mono fun _ _ ⟨p, he, ht, hb⟩ => ⟨p, he, ht, Below.trans K (Below.mono hb K.size), hb⟩

theorem above_next {W w : World} {b : Nat} {k : ByteArray} {v : EnV} {l r : Option Addr} {xs ys : List (ByteArray × EnV)} (h0 : W.cell? ⟨b, 0, none⟩ = some (.string k)) (h1 : Val W b v) (hb : b < W.heap.size) (K : Kept W w) (hl : At w w.heap.size l xs) (hr : At w w.heap.size r ys) (hx : xs.length + ys.length ≤ 1000) :
  Calls Tryz.prog 146 #[.pointer (some ⟨b, 0, none⟩), .pointer l, .pointer r] w (Next W w (xs ++ (k, v) :: ys)) :=
 Made.next K (above (K.cell hb h0) (K.val hb h1) hl hr (Nat.le_refl _) hx)
theorem Next.made {W w w' : World} {zs zs' : List (ByteArray × EnV)} {e : Ending} (h : Next W w zs e w') (hz : zs = zs') : Made W zs' e w' := by
 obtain ⟨p, he, ht, K, _⟩ := h
 exact ⟨p, he, hz ▸ ht, K⟩
theorem Kept.after {w w' : World} (K : Kept w w') {p : Option Addr} {xs : List (ByteArray × EnV)} (h : At w w.heap.size p xs) : At w' w'.heap.size p xs := K.at h (Nat.le_refl _)

set_option maxRecDepth 100000 in
set_option maxHeartbeats 4000000 in
theorem turnedLeft {w : World} {b B : Nat} {k : ByteArray} {v : EnV} {l r : Option Addr} {xs ys : List (ByteArray × EnV)} (h0 : w.cell? ⟨b, 0, none⟩ = some (.string k)) (h1 : Val w b v) (hbl : b < w.heap.size) (hl : At w B l xs) (hr : At w B r ys) (hB : B ≤ w.heap.size) (hx : xs.length + ys.length ≤ 1000) (hh : 0 < ys.length) :
  Calls Tryz.prog 144 #[.pointer (some ⟨b, 0, none⟩), .pointer l, .pointer r] w (Made w (xs ++ (k, v) :: ys)) := by
 have HL := Lib.hid (hl.wide hB)
 obtain ⟨rb, il, ir, ils, irs, rk, rv, rfl, rfl, hrb, hri, hil, hir⟩ := (hr.wide hB).full hh
 have HI := Lib.hid hil
 have HO := Lib.hid hir
 have r0 := hri.cell 0
 have r1 := val_of hri
 have r2 := hri.cell 5
 have r3 := hri.cell 6
 simp only [List.getElem?_toArray, List.getElem?_cons_zero, List.getElem?_cons_succ] at r0 r1 r2 r3
 simp only [List.length_append, List.length_cons] at hx
 have hi1 : ils.length ≤ 1000 := by omega
 have ho1 : irs.length ≤ 1000 := by omega
 clear hl hr hri hil hir hh
 by_cases hn : (ils.length : Int) + 1 < 2 * ((irs.length : Int) + 1)
 ·have d1 : decide ((ils.length : Int) + 1 < 2 * ((irs.length : Int) + 1)) = true := by simpa using hn
  have HA : Hid (∀ w', Kept w w' → Calls Tryz.prog 146 #[.pointer (some ⟨b, 0, none⟩), .pointer l, .pointer il] w' (Next w w' (xs ++ (k, v) :: ils))) := fun w' K =>
   above_next h0 h1 hbl K (K.after HL.out) (K.after HI.out) (by omega)
  have HE : Hid (∀ w' p1, Kept w w' → At w' w'.heap.size p1 (xs ++ (k, v) :: ils) → Calls Tryz.prog 146 #[.pointer (some ⟨rb, 0, none⟩), .pointer p1, .pointer ir] w' (Made w (xs ++ (k, v) :: (ils ++ (rk, rv) :: irs)))) := fun w' p1 K t1 =>
   (above_next r0 r1 hrb K t1 (K.after HO.out) (by simp; omega)).mono fun _ _ h => h.made (by simp)
  clear hn h0 h1 r0 r1
  go_enter Tryz.func144, Tryz.ntmps144
  go_wp2_with fail
  go_quiet (fail)
  go_wp2_with fail
  refine (narrow (HI.out.drewN _) hi1 (HO.out.drewN _) ho1).mono ?_
  rintro e w' ⟨rfl, rfl⟩
  rw [d1]
  go_wp2_with fail
  refine (HA.out _ (Law.below_drewN (Below.refl _ w) _)).mono ?_
  rintro e w1 ⟨p1, rfl, t1, K1, _⟩
  have H2 := Lib.hid (HE.out w1 p1 K1 t1)
  clear t1 K1 HA HE
  go_wp2_with fail
  refine H2.out.mono ?_
  rintro e w2 ⟨p2, rfl, h2⟩
  have H3 := Lib.hid h2
  clear h2 H2
  go_wp2_with fail
  go_ret
  exact ⟨p2, rfl, H3.out⟩
 ·have d1 : decide ((ils.length : Int) + 1 < 2 * ((irs.length : Int) + 1)) = false := by simpa using hn
  obtain ⟨ib, jl, jr, jls, jrs, ik, iv, rfl, rfl, hib, hii, hjl, hjr⟩ := HI.out.full (by omega)
  have i0 := hii.cell 0
  have i1 := val_of hii
  have i2 := hii.cell 5
  have i3 := hii.cell 6
  simp only [List.getElem?_toArray, List.getElem?_cons_zero, List.getElem?_cons_succ] at i0 i1 i2 i3
  simp only [List.length_append, List.length_cons] at hx
  have HA : Hid (∀ w', Kept w w' → Calls Tryz.prog 146 #[.pointer (some ⟨b, 0, none⟩), .pointer l, .pointer jl] w' (Next w w' (xs ++ (k, v) :: jls))) := fun w' K =>
   above_next h0 h1 hbl K (K.after HL.out) (K.after hjl) (by omega)
  have HC : Hid (∀ w', Kept w w' → Calls Tryz.prog 146 #[.pointer (some ⟨rb, 0, none⟩), .pointer jr, .pointer ir] w' (Next w w' (jrs ++ (rk, rv) :: irs))) := fun w' K =>
   above_next r0 r1 hrb K (K.after hjr) (K.after HO.out) (by omega)
  have HE : Hid (∀ w' p1 p2, Kept w w' → At w' w'.heap.size p1 (xs ++ (k, v) :: jls) → At w' w'.heap.size p2 (jrs ++ (rk, rv) :: irs) → Calls Tryz.prog 146 #[.pointer (some ⟨ib, 0, none⟩), .pointer p1, .pointer p2] w' (Next w w' (xs ++ (k, v) :: (jls ++ (ik, iv) :: jrs ++ (rk, rv) :: irs)))) := fun w' p1 p2 K t1 t2 =>
   (above_next i0 i1 hib K t1 t2 (by simp; omega)).mono fun _ _ ⟨p, he, ht, hk⟩ => ⟨p, he, by simpa using ht, hk⟩
  have HK : Hid (∀ w', Kept w w' → w'.cell? ⟨ib, 5, none⟩ = some (.pointer jl) ∧ w'.cell? ⟨ib, 6, none⟩ = some (.pointer jr) ∧ Kept w w') := fun w' K => ⟨K.cell hib i2, K.cell hib i3, K⟩
  clear hn h0 h1 r0 r1 i0 i1 hii hjl hjr
  go_enter Tryz.func144, Tryz.ntmps144
  go_wp2_with fail
  go_quiet (fail)
  go_wp2_with fail
  refine (narrow (HI.out.drewN _) hi1 (HO.out.drewN _) ho1).mono ?_
  rintro e w' ⟨rfl, rfl⟩
  rw [d1]
  go_wp2_with fail
  have K0 : Kept w (w.drewN nq).drew := Law.below_drewN (Law.below_drewN (Below.refl _ w) nq) 1
  go_region_held3 (fun w' => w'.cell? ⟨ib, 5, none⟩ = some (.pointer jl) ∧ w'.cell? ⟨ib, 6, none⟩ = some (.pointer jr) ∧ Kept w w') (exact HK.out _ (by assumption)) (first
   | (go_at_call_of 146 (Value.pointer (some ⟨b, 0, none⟩)); refine (HA.out _ (by assumption)).mono ?_; rintro e w1 ⟨p1, rfl, t1, K1, _⟩; have T1 := Lib.hid t1; clear t1)
   | (go_at_call_of 146 (Value.pointer (some ⟨rb, 0, none⟩)); refine (HC.out _ (by assumption)).mono ?_; rintro e w2 ⟨p2, rfl, t2, K2, k2⟩; have T2 := Lib.hid t2; have T1' := Lib.hid (k2.after T1.out); clear t2 k2 T1)
   | (go_at_call_of 146 (Value.pointer (some ⟨ib, 0, none⟩)); refine (HE.out _ _ _ (by assumption) T1'.out T2.out).mono ?_; rintro e w3 ⟨p3, rfl, t3, K3, _⟩; have T3 := Lib.hid t3; clear t3))
  go_wp2_with fail
  go_ret
  exact ⟨_, rfl, T3.out, K3⟩

set_option maxRecDepth 100000 in
set_option maxHeartbeats 4000000 in
theorem turnedRight {w : World} {b B : Nat} {k : ByteArray} {v : EnV} {l r : Option Addr} {xs ys : List (ByteArray × EnV)} (h0 : w.cell? ⟨b, 0, none⟩ = some (.string k)) (h1 : Val w b v) (hbl : b < w.heap.size) (hl : At w B l xs) (hr : At w B r ys) (hB : B ≤ w.heap.size) (hx : xs.length + ys.length ≤ 1000) (hh : 0 < xs.length) :
  Calls Tryz.prog 145 #[.pointer (some ⟨b, 0, none⟩), .pointer l, .pointer r] w (Made w (xs ++ (k, v) :: ys)) := by
 have HR := Lib.hid (hr.wide hB)
 obtain ⟨lb, ol, il, ols, ils, lk, lv, rfl, rfl, hlb, hli, hol, hil⟩ := (hl.wide hB).full hh
 have HI := Lib.hid hil
 have HO := Lib.hid hol
 have r0 := hli.cell 0
 have r1 := val_of hli
 have r2 := hli.cell 5
 have r3 := hli.cell 6
 simp only [List.getElem?_toArray, List.getElem?_cons_zero, List.getElem?_cons_succ] at r0 r1 r2 r3
 simp only [List.length_append, List.length_cons] at hx
 have hi1 : ils.length ≤ 1000 := by omega
 have ho1 : ols.length ≤ 1000 := by omega
 clear hl hr hli hol hil hh
 by_cases hn : (ils.length : Int) + 1 < 2 * ((ols.length : Int) + 1)
 ·have d1 : decide ((ils.length : Int) + 1 < 2 * ((ols.length : Int) + 1)) = true := by simpa using hn
  have HA : Hid (∀ w', Kept w w' → Calls Tryz.prog 146 #[.pointer (some ⟨b, 0, none⟩), .pointer il, .pointer r] w' (Next w w' (ils ++ (k, v) :: ys))) := fun w' K =>
   above_next h0 h1 hbl K (K.after HI.out) (K.after HR.out) (by omega)
  have HE : Hid (∀ w' p1, Kept w w' → At w' w'.heap.size p1 (ils ++ (k, v) :: ys) → Calls Tryz.prog 146 #[.pointer (some ⟨lb, 0, none⟩), .pointer ol, .pointer p1] w' (Made w (ols ++ (lk, lv) :: ils ++ (k, v) :: ys))) := fun w' p1 K t1 =>
   (above_next r0 r1 hlb K (K.after HO.out) t1 (by simp; omega)).mono fun _ _ h => h.made (by simp)
  clear hn h0 h1 r0 r1
  go_enter Tryz.func145, Tryz.ntmps145
  go_wp2_with fail
  go_quiet (fail)
  go_wp2_with fail
  refine (narrow (HI.out.drewN _) hi1 (HO.out.drewN _) ho1).mono ?_
  rintro e w' ⟨rfl, rfl⟩
  rw [d1]
  go_wp2_with fail
  refine (HA.out _ (Law.below_drewN (Below.refl _ w) _)).mono ?_
  rintro e w1 ⟨p1, rfl, t1, K1, _⟩
  have H2 := Lib.hid (HE.out w1 p1 K1 t1)
  clear t1 K1 HA HE
  go_wp2_with fail
  refine H2.out.mono ?_
  rintro e w2 ⟨p2, rfl, h2⟩
  have H3 := Lib.hid h2
  clear h2 H2
  go_wp2_with fail
  go_ret
  exact ⟨p2, rfl, H3.out⟩
 ·have d1 : decide ((ils.length : Int) + 1 < 2 * ((ols.length : Int) + 1)) = false := by simpa using hn
  obtain ⟨ib, jl, jr, jls, jrs, ik, iv, rfl, rfl, hib, hii, hjl, hjr⟩ := HI.out.full (by omega)
  have i0 := hii.cell 0
  have i1 := val_of hii
  have i2 := hii.cell 5
  have i3 := hii.cell 6
  simp only [List.getElem?_toArray, List.getElem?_cons_zero, List.getElem?_cons_succ] at i0 i1 i2 i3
  simp only [List.length_append, List.length_cons] at hx
  have HA : Hid (∀ w', Kept w w' → Calls Tryz.prog 146 #[.pointer (some ⟨lb, 0, none⟩), .pointer ol, .pointer jl] w' (Next w w' (ols ++ (lk, lv) :: jls))) := fun w' K =>
   above_next r0 r1 hlb K (K.after HO.out) (K.after hjl) (by omega)
  have HC : Hid (∀ w', Kept w w' → Calls Tryz.prog 146 #[.pointer (some ⟨b, 0, none⟩), .pointer jr, .pointer r] w' (Next w w' (jrs ++ (k, v) :: ys))) := fun w' K =>
   above_next h0 h1 hbl K (K.after hjr) (K.after HR.out) (by omega)
  have HE : Hid (∀ w' p1 p2, Kept w w' → At w' w'.heap.size p1 (ols ++ (lk, lv) :: jls) → At w' w'.heap.size p2 (jrs ++ (k, v) :: ys) → Calls Tryz.prog 146 #[.pointer (some ⟨ib, 0, none⟩), .pointer p1, .pointer p2] w' (Next w w' (ols ++ (lk, lv) :: (jls ++ (ik, iv) :: jrs) ++ (k, v) :: ys))) := fun w' p1 p2 K t1 t2 =>
   (above_next i0 i1 hib K t1 t2 (by simp; omega)).mono fun _ _ ⟨p, he, ht, hk⟩ => ⟨p, he, by simpa using ht, hk⟩
  have HK : Hid (∀ w', Kept w w' → w'.cell? ⟨ib, 5, none⟩ = some (.pointer jl) ∧ w'.cell? ⟨ib, 6, none⟩ = some (.pointer jr) ∧ Kept w w') := fun w' K => ⟨K.cell hib i2, K.cell hib i3, K⟩
  clear hn h0 h1 r0 r1 i0 i1 hii hjl hjr
  go_enter Tryz.func145, Tryz.ntmps145
  go_wp2_with fail
  go_quiet (fail)
  go_wp2_with fail
  refine (narrow (HI.out.drewN _) hi1 (HO.out.drewN _) ho1).mono ?_
  rintro e w' ⟨rfl, rfl⟩
  rw [d1]
  go_wp2_with fail
  have K0 : Kept w (w.drewN nq).drew := Law.below_drewN (Law.below_drewN (Below.refl _ w) nq) 1
  go_region_held3 (fun w' => w'.cell? ⟨ib, 5, none⟩ = some (.pointer jl) ∧ w'.cell? ⟨ib, 6, none⟩ = some (.pointer jr) ∧ Kept w w') (exact HK.out _ (by assumption)) (first
   | (go_at_call_of 146 (Value.pointer (some ⟨lb, 0, none⟩)); refine (HA.out _ (by assumption)).mono ?_; rintro e w1 ⟨p1, rfl, t1, K1, _⟩; have T1 := Lib.hid t1; clear t1)
   | (go_at_call_of 146 (Value.pointer (some ⟨b, 0, none⟩)); refine (HC.out _ (by assumption)).mono ?_; rintro e w2 ⟨p2, rfl, t2, K2, k2⟩; have T2 := Lib.hid t2; have T1' := Lib.hid (k2.after T1.out); clear t2 k2 T1)
   | (go_at_call_of 146 (Value.pointer (some ⟨ib, 0, none⟩)); refine (HE.out _ _ _ (by assumption) T1'.out T2.out).mono ?_; rintro e w3 ⟨p3, rfl, t3, K3, _⟩; have T3 := Lib.hid t3; clear t3))
  go_wp2_with fail
  go_ret
  exact ⟨_, rfl, T3.out, K3⟩

set_option maxHeartbeats 1000000 in
theorem balanced {w : World} {b B : Nat} {k : ByteArray} {v : EnV} {l r : Option Addr} {xs ys : List (ByteArray × EnV)} (h0 : w.cell? ⟨b, 0, none⟩ = some (.string k)) (h1 : Val w b v) (hbl : b < w.heap.size) (hl : At w B l xs) (hr : At w B r ys) (hB : B ≤ w.heap.size) (hx : xs.length + ys.length ≤ 1000) :
  Calls Tryz.prog 135 #[.pointer (some ⟨b, 0, none⟩), .pointer l, .pointer r] w (Made w (xs ++ (k, v) :: ys)) := by
 have hx1 : xs.length ≤ 1000 := by omega
 have hy1 : ys.length ≤ 1000 := by omega
 have HL := Lib.hid hl
 have HR := Lib.hid hr
 have H0 := Lib.hid h0
 have H1 := Lib.hid h1
 clear hl hr h0 h1
 by_cases c1 : 3 * ((xs.length : Int) + 1) < (ys.length : Int) + 1
 ·have d1 : decide (3 * ((xs.length : Int) + 1) < (ys.length : Int) + 1) = true := by simpa using c1
  go_enter Tryz.func135, Tryz.ntmps135
  go_wp2_with fail
  refine (heavy HR.out hy1 HL.out hx1).mono ?_
  rintro e w' ⟨rfl, rfl⟩
  rw [d1]
  go_wp2_with fail
  refine (turnedLeft H0.out H1.out hbl HL.out HR.out hB hx (by omega)).mono ?_
  rintro e w' ⟨p, rfl, h2⟩
  have H2 := Lib.hid h2
  clear h2
  go_wp2_with fail
  go_ret
  exact ⟨p, rfl, H2.out⟩
 ·have d1 : decide (3 * ((xs.length : Int) + 1) < (ys.length : Int) + 1) = false := by simpa using c1
  by_cases c2 : 3 * ((ys.length : Int) + 1) < (xs.length : Int) + 1
  ·have d2 : decide (3 * ((ys.length : Int) + 1) < (xs.length : Int) + 1) = true := by simpa using c2
   go_enter Tryz.func135, Tryz.ntmps135
   go_wp2_with fail
   refine (heavy HR.out hy1 HL.out hx1).mono ?_
   rintro e w' ⟨rfl, rfl⟩
   rw [d1]
   go_wp2_with fail
   refine (heavy HL.out hx1 HR.out hy1).mono ?_
   rintro e w' ⟨rfl, rfl⟩
   rw [d2]
   go_wp2_with fail
   refine (turnedRight H0.out H1.out hbl HL.out HR.out hB hx (by omega)).mono ?_
   rintro e w' ⟨p, rfl, h2⟩
   have H2 := Lib.hid h2
   clear h2
   go_wp2_with fail
   go_ret
   exact ⟨p, rfl, H2.out⟩
  ·have d2 : decide (3 * ((ys.length : Int) + 1) < (xs.length : Int) + 1) = false := by simpa using c2
   go_enter Tryz.func135, Tryz.ntmps135
   go_wp2_with fail
   refine (heavy HR.out hy1 HL.out hx1).mono ?_
   rintro e w' ⟨rfl, rfl⟩
   rw [d1]
   go_wp2_with fail
   refine (heavy HL.out hx1 HR.out hy1).mono ?_
   rintro e w' ⟨rfl, rfl⟩
   rw [d2]
   go_wp2_with fail
   refine (above H0.out H1.out HL.out HR.out hB hx).mono ?_
   rintro e w' ⟨p, rfl, h2⟩
   have H2 := Lib.hid h2
   clear h2
   go_wp2_with fail
   go_ret
   exact ⟨p, rfl, H2.out⟩
theorem balanced_next {W w : World} {b : Nat} {k : ByteArray} {v : EnV} {l r : Option Addr} {xs ys : List (ByteArray × EnV)} (h0 : W.cell? ⟨b, 0, none⟩ = some (.string k)) (h1 : Val W b v) (hb : b < W.heap.size) (K : Kept W w) (hl : At w w.heap.size l xs) (hr : At w w.heap.size r ys) (hx : xs.length + ys.length ≤ 1000) :
  Calls Tryz.prog 135 #[.pointer (some ⟨b, 0, none⟩), .pointer l, .pointer r] w (Next W w (xs ++ (k, v) :: ys)) :=
 Made.next K (balanced (K.cell hb h0) (K.val hb h1) (Nat.lt_of_lt_of_le hb K.size) hl hr (Nat.le_refl _) hx)
end OmapB
end Go.Proofs.YtohdlnefgieenaaGreat
namespace Go.Proofs.YtohdlnefgieenaaGreat
open Go.RowKit
namespace OmapB
open Go.Law (EnV)
abbrev lt (a b : ByteArray) : Prop := a.toList < b.toList
theorem less_eq : ∀ (x y : List UInt8), Op.bytesLess x y = decide (x < y)
 | [], [] => by simp [Op.bytesLess]
 | _ :: _, [] => by simp [Op.bytesLess]
 | [], _ :: _ => by simp [Op.bytesLess]
 | a :: x, b :: y => by
   rw [Op.bytesLess, less_eq x y, Bool.eq_iff_iff]
   simp [List.cons_lt_cons_iff]
theorem ext {a b : ByteArray} (h : a.toList = b.toList) : a = b := by
 rw [ByteArray.toList_eq, ByteArray.toList_eq] at h
 exact ByteArray.ext (Array.toList_inj.1 h)
theorem tri : Law.Tri lt where
 irr := fun a => List.lt_irrefl a.toList
 tr := fun h h' => List.lt_trans h h'
 tri := fun a b => by
  by_cases h : a.toList < b.toList
  ·exact .inl h
  ·by_cases h' : b.toList < a.toList
   ·exact .inr (.inr h')
   ·exact .inr (.inl (ext (List.le_antisymm h' h)))
theorem cmp (k a : ByteArray) : (lt k a ∧ Op.bytesLess k.toList a.toList = true ∧ (a.toList == k.toList) = false) ∨ (k = a ∧ Op.bytesLess k.toList k.toList = false) ∨ (lt a k ∧ Op.bytesLess k.toList a.toList = false ∧ (k.toList == a.toList) = false ∧ (a.toList == k.toList) = false) := by
 rcases tri.tri k a with h | h | h
 ·exact .inl ⟨h, by rw [less_eq]; simpa using h, by simpa using fun e => tri.ne h (ext e.symm)⟩
 ·subst h
  exact .inr (.inl ⟨rfl, by rw [less_eq]; simp⟩)
 ·exact .inr (.inr ⟨h, by rw [less_eq]; simpa using tri.asym h, by simpa using fun e => tri.ne h (ext e.symm), by simpa using fun e => tri.ne h (ext e)⟩)

set_option maxRecDepth 100000 in
set_option maxHeartbeats 4000000 in
theorem with_ (k : ByteArray) (v : EnV) : ∀ (n : Nat) (w : World) (B : Nat) (p : Option Addr) (xs : List (ByteArray × EnV)), xs.length ≤ n → At w B p xs → B ≤ w.heap.size → Law.Rises lt xs → xs.length ≤ 999 →
  Calls Tryz.prog 122 #[.pointer p, .string k, .agg #[.slice v.A v.n v.c, .int .i64 v.st, .int .i64 v.pr, .int .i64 v.lv]] w (Made w (Law.putK lt k v xs)) := by
 intro n
 induction n with
 | zero =>
   intro w B p xs hn h hB _ _
   obtain rfl := List.eq_nil_of_length_eq_zero (by omega : xs.length = 0)
   obtain rfl := h.is_nil
   clear h
   go_enter Tryz.func122, Tryz.ntmps122
   go_wp2_with fail
   go_ret
   exact ⟨_, rfl, Law.Tree4.new (ls := []) (rs := []) .nil .nil (by simp) rfl, ((Below.refl _ w).alloc (Nat.le_refl _) _).alloc (by simp) _⟩
 | succ n ih =>
   intro w B p xs hn h hB hR hx
   cases p with
   | none =>
     obtain rfl := h.of_nil
     exact ih w B none [] (Nat.zero_le _) h hB hR hx
   | some ad =>
     obtain ⟨b, l, r, ls, rs, a, u, rfl, rfl, hb, hi, hl, hr⟩ := (h.wide hB).of_some
     have c0 := hi.cell 0
     have c5 := hi.cell 5
     have c6 := hi.cell 6
     have c7 := hi.cell 7
     simp only [List.getElem?_toArray, List.getElem?_cons_zero, List.getElem?_cons_succ] at c0 c5 c6 c7
     have HN : Hid ((ls ++ (a, u) :: rs).length = ls.length + (rs.length + 1)) := by show _ = _; simp
     rw [HN.out] at hn hx
     obtain ⟨W1, hW⟩ : ∃ W1, w.alloc (.cells #[.slice v.A v.n v.c, .int .i64 v.st, .int .i64 v.pr, .int .i64 v.lv] 145) = W1 := ⟨_, rfl⟩
     have KW : Kept w W1 := by rw [← hW]; exact (Below.refl _ w).alloc (Nat.le_refl _) _
     have iB : Law.Is W1 w.heap.size 145 #[.slice v.A v.n v.c, .int .i64 v.st, .int .i64 v.pr, .int .i64 v.lv] := by rw [← hW]; exact Law.Is.new _ _ _ rfl
     have hg : w.heap.size < W1.heap.size := by rw [← hW]; simp
     have hb1 : b < W1.heap.size := by omega
     have d0 := KW.cell hb c0
     have d1 := KW.val hb (val_of hi)
     have hl1 := KW.after hl
     have hr1 := KW.after hr
     have HW := Lib.hid hW
     have HKW := Lib.hid KW
     have HK : Hid (∀ w', Kept W1 w' → (w'.cell? ⟨b, 5, none⟩ = some (.pointer l) ∧ w'.cell? ⟨b, 6, none⟩ = some (.pointer r) ∧ w'.cell? ⟨b, 7, none⟩ = some (.int .i64 ((ls ++ (a, u) :: rs).length : Int)) ∧ w'.cell? ⟨w.heap.size, 0, none⟩ = some (.slice v.A v.n v.c) ∧ w'.cell? ⟨w.heap.size, 1, none⟩ = some (.int .i64 v.st) ∧ w'.cell? ⟨w.heap.size, 2, none⟩ = some (.int .i64 v.pr) ∧ w'.cell? ⟨w.heap.size, 3, none⟩ = some (.int .i64 v.lv)) ∧ Kept W1 w') := fun w' K => ⟨⟨K.cell hb1 (KW.cell hb c5), K.cell hb1 (KW.cell hb c6), K.cell hb1 (KW.cell hb c7), K.cell hg (iB.cell' rfl), K.cell hg (iB.cell' rfl), K.cell hg (iB.cell' rfl), K.cell hg (iB.cell' rfl)⟩, K⟩
     have K0 : Kept W1 (W1.drewN 1) := Kept.drew W1
     have pl := Law.putK_length lt k v ls
     have pr := Law.putK_length lt k v rs
     clear KW hW iB
     rcases cmp k a with ⟨hlt, e1, _⟩ | ⟨rfl, e1⟩ | ⟨hgt, e1, e2, _⟩
     ·have HI : Hid (∀ w', Kept W1 w' → Calls Tryz.prog 122 #[.pointer l, .string k, .agg #[.slice v.A v.n v.c, .int .i64 v.st, .int .i64 v.pr, .int .i64 v.lv]] w' (Next W1 w' (Law.putK lt k v ls))) := fun w' K =>
       Made.next K (ih w' _ l ls (by omega) (K.after hl1) (Nat.le_refl _) hR.left (by omega))
      have HA : Hid (∀ w' p1, Kept W1 w' → At w' w'.heap.size p1 (Law.putK lt k v ls) → Calls Tryz.prog 135 #[.pointer (some ⟨b, 0, none⟩), .pointer p1, .pointer r] w' (Next W1 w' (Law.putK lt k v ls ++ (a, u) :: rs))) := fun w' p1 K t1 =>
       balanced_next d0 d1 hb1 K t1 (K.after hr1) (by omega)
      have HE := Lib.hid (Law.putK_left lt hlt (v := v) (b := u) (ys := rs) ls)
      clear ih h hR hi hl hr hlt c5 c6 c7 pl pr hl1 hr1 d0 d1
      generalize (ls ++ (a, u) :: rs).length = m at *
      go_enter Tryz.func122, Tryz.ntmps122
      go_wp2_with fail
      rw [HW.out]
      go_region_held3 (fun w' => (w'.cell? ⟨b, 5, none⟩ = some (.pointer l) ∧ w'.cell? ⟨b, 6, none⟩ = some (.pointer r) ∧ w'.cell? ⟨b, 7, none⟩ = some (.int .i64 (m : Int)) ∧ w'.cell? ⟨w.heap.size, 0, none⟩ = some (.slice v.A v.n v.c) ∧ w'.cell? ⟨w.heap.size, 1, none⟩ = some (.int .i64 v.st) ∧ w'.cell? ⟨w.heap.size, 2, none⟩ = some (.int .i64 v.pr) ∧ w'.cell? ⟨w.heap.size, 3, none⟩ = some (.int .i64 v.lv)) ∧ Kept W1 w') (exact HK.out _ (by assumption)) (first
       | (go_at_call 122; refine (HI.out _ (by assumption)).mono ?_; rintro e w1 ⟨p1, rfl, t1, K1, _⟩; have T1 := Lib.hid t1; clear t1)
       | (go_at_call 135; refine (HA.out _ _ (by assumption) T1.out).mono ?_; rintro e w2 ⟨p2, rfl, t2, K2, _⟩; have T2 := Lib.hid t2; clear t2))
      go_wp2_with fail
      go_ret
      exact ⟨_, rfl, by rw [HE.out]; exact T2.out, Below.trans HKW.out (Below.mono K2 HKW.out.size)⟩
     ·have HE := Lib.hid (Law.putK_same lt tri (v := v) (b := u) (ys := rs) ls hR)
      have HL := Lib.hid hl1
      have HR := Lib.hid hr1
      have HZ : Hid (((ls ++ (k, u) :: rs).length : Int) = ((ls ++ (k, v) :: rs).length : Int)) := by show _ = _; simp
      clear ih h hR hi hl hr pl pr HN hl1 hr1 d0 d1 c5 c6 c7
      obtain ⟨z0, z1, z2, z3, z4, z5, z6⟩ := (HK.out W1 (Below.refl _ _)).1
      clear HK K0
      generalize (ls ++ (k, u) :: rs).length = m at *
      go_enter Tryz.func122, Tryz.ntmps122
      go_wp2_with fail
      rw [HW.out]
      go_region_held3 (fun w' => w'.cell? ⟨b, 5, none⟩ = some (.pointer l) ∧ w'.cell? ⟨b, 6, none⟩ = some (.pointer r) ∧ w'.cell? ⟨b, 7, none⟩ = some (.int .i64 (m : Int)) ∧ w'.cell? ⟨w.heap.size, 0, none⟩ = some (.slice v.A v.n v.c) ∧ w'.cell? ⟨w.heap.size, 1, none⟩ = some (.int .i64 v.st) ∧ w'.cell? ⟨w.heap.size, 2, none⟩ = some (.int .i64 v.pr) ∧ w'.cell? ⟨w.heap.size, 3, none⟩ = some (.int .i64 v.lv)) (go_keep) (fail)
      go_wp2_with fail
      go_ret
      exact ⟨_, rfl, by rw [HE.out]; exact Law.Tree4.new (HL.out.drewN 1) (HR.out.drewN 1) rfl HZ.out, (Law.below_drewN HKW.out 1).alloc (by simp; omega) _⟩
     ·have HI : Hid (∀ w', Kept W1 w' → Calls Tryz.prog 122 #[.pointer r, .string k, .agg #[.slice v.A v.n v.c, .int .i64 v.st, .int .i64 v.pr, .int .i64 v.lv]] w' (Next W1 w' (Law.putK lt k v rs))) := fun w' K =>
       Made.next K (ih w' _ r rs (by omega) (K.after hr1) (Nat.le_refl _) hR.right (by omega))
      have HA : Hid (∀ w' p1, Kept W1 w' → At w' w'.heap.size p1 (Law.putK lt k v rs) → Calls Tryz.prog 135 #[.pointer (some ⟨b, 0, none⟩), .pointer l, .pointer p1] w' (Next W1 w' (ls ++ (a, u) :: Law.putK lt k v rs))) := fun w' p1 K t1 =>
       balanced_next d0 d1 hb1 K (K.after hl1) t1 (by omega)
      have HE := Lib.hid (Law.putK_right lt tri hgt (v := v) (b := u) (ys := rs) ls hR)
      clear ih h hR hi hl hr hgt c5 c6 c7 pl pr hl1 hr1 d0 d1
      generalize (ls ++ (a, u) :: rs).length = m at *
      go_enter Tryz.func122, Tryz.ntmps122
      go_wp2_with fail
      rw [HW.out]
      go_region_held3 (fun w' => (w'.cell? ⟨b, 5, none⟩ = some (.pointer l) ∧ w'.cell? ⟨b, 6, none⟩ = some (.pointer r) ∧ w'.cell? ⟨b, 7, none⟩ = some (.int .i64 (m : Int)) ∧ w'.cell? ⟨w.heap.size, 0, none⟩ = some (.slice v.A v.n v.c) ∧ w'.cell? ⟨w.heap.size, 1, none⟩ = some (.int .i64 v.st) ∧ w'.cell? ⟨w.heap.size, 2, none⟩ = some (.int .i64 v.pr) ∧ w'.cell? ⟨w.heap.size, 3, none⟩ = some (.int .i64 v.lv)) ∧ Kept W1 w') (exact HK.out _ (by assumption)) (first
       | (go_at_call 122; refine (HI.out _ (by assumption)).mono ?_; rintro e w1 ⟨p1, rfl, t1, K1, _⟩; have T1 := Lib.hid t1; clear t1)
       | (go_at_call 135; refine (HA.out _ _ (by assumption) T1.out).mono ?_; rintro e w2 ⟨p2, rfl, t2, K2, _⟩; have T2 := Lib.hid t2; clear t2))
      go_wp2_with fail
      go_ret
      exact ⟨_, rfl, by rw [HE.out]; exact T2.out, Below.trans HKW.out (Below.mono K2 HKW.out.size)⟩

set_option maxHeartbeats 1000000 in
theorem least {w : World} {B : Nat} {p : Option Addr} {k : ByteArray} {v : EnV} {xs : List (ByteArray × EnV)} (h : At w B p ((k, v) :: xs)) :
  Calls Tryz.prog 136 #[.pointer p] w fun e w' => ∃ b, e = .returned (.pointer (some ⟨b, 0, none⟩)) ∧ w = w' ∧ b < B ∧ w.cell? ⟨b, 0, none⟩ = some (.string k) ∧ Val w b v := by
 have H := Lib.hid h
 clear h
 go_enter Tryz.func136, Tryz.ntmps136
 go_wp2_with fail
 go_loop [0] (fun q => ∃ p' zs, q = .pointer p' ∧ At w B p' ((k, v) :: zs)) (fun q => Law.sizeAt4 w q)
 case atStart => exact ⟨p, xs, rfl, H.out⟩
 case round =>
  obtain ⟨p', zs, rfl, hz⟩ := hrel
  obtain ⟨b, l, r, ls, rs, a, u, rfl, hzs, hb, hi, hl, _⟩ := hz.full (by simp)
  have HM : Hid (Law.sizeAt4 w (.pointer (some ⟨b, 0, none⟩)) = ls.length + (rs.length + 1)) := by show _ = _; rw [hz.size, hzs]; simp
  have HL := Lib.hid hl
  have c0 := hi.cell 0
  have c1 := val_of hi
  have c2 := hi.cell 5
  simp only [List.getElem?_toArray, List.getElem?_cons_zero, List.getElem?_cons_succ] at c0 c1 c2
  have HZ := Lib.hid hzs
  clear hz hi hl hzs H
  cases l with
  | none =>
    obtain rfl := HL.out.of_nil
    have e1 : k = a ∧ v = u := by have := HZ.out; simp at this; exact ⟨this.1.1, this.1.2⟩
    obtain ⟨rfl, rfl⟩ := e1
    go_wp2_with fail
    go_ret
    exact ⟨b, rfl, rfl, hb, c0, c1⟩
  | some ad =>
    obtain ⟨b', l', r', ls', rs', a', u', rfl, rfl, _⟩ := HL.out.of_some
    have HN : Hid (∃ zs', At w B (some ⟨b', 0, none⟩) ((k, v) :: zs')) := by
     have h1 := HL.out
     have h2 := HZ.out
     show ∃ zs', _
     cases ls' with
     | nil =>
       simp at h1 h2
       rw [h2.1.1, h2.1.2]
       exact ⟨_, h1⟩
     | cons q ls' =>
       simp at h1 h2
       rw [← h2.1] at h1
       exact ⟨_, h1⟩
    have HS := Lib.hid HL.out.size
    clear HL HZ
    go_wp2_with fail
    go_round
    case rel =>
     obtain ⟨zs', h'⟩ := HN.out
     exact ⟨_, zs', rfl, h'⟩
    case measure =>
     rw [HS.out, HM.out]
     omega

def Found (w : World) (B : Nat) (o : Option EnV) (e : Ending) (w' : World) : Prop :=
 w = w' ∧ ((e = .returned (.pointer none) ∧ o = none) ∨ ∃ b u, e = .returned (.pointer (some ⟨b, 0, none⟩)) ∧ b < B ∧ Val w b u ∧ o = some u)

set_option maxHeartbeats 1000000 in
theorem find {w : World} {B : Nat} {p : Option Addr} (k : ByteArray) {xs : List (ByteArray × EnV)} (h : At w B p xs) (hR : Law.Rises lt xs) :
  Calls Tryz.prog 87 #[.pointer p, .string k] w (Found w B (Law.getK k xs)) := by
 have H := Lib.hid h
 have HR := Lib.hid hR
 clear h hR
 go_enter Tryz.func87, Tryz.ntmps87
 go_wp2_with fail
 go_loop [0] (fun q => ∃ p' zs, q = .pointer p' ∧ At w B p' zs ∧ Law.Rises lt zs ∧ Law.getK k zs = Law.getK k xs) (fun q => Law.sizeAt4 w q)
 case atStart => exact ⟨p, xs, rfl, H.out, HR.out, rfl⟩
 case round =>
  obtain ⟨p', zs, rfl, hz, hrz, hg⟩ := hrel
  have HG := Lib.hid hg
  clear H HR hg
  cases p' with
  | none =>
    obtain rfl := hz.of_nil
    clear hz hrz
    go_wp2_with fail
    go_ret
    exact ⟨rfl, .inl ⟨rfl, HG.out.symm⟩⟩
  | some ad =>
    obtain ⟨b, l, r, ls, rs, a, u, rfl, rfl, hb, hi, hl, hr⟩ := hz.of_some
    have HM : Hid (Law.sizeAt4 w (.pointer (some ⟨b, 0, none⟩)) = ls.length + (rs.length + 1)) := by show _ = _; rw [hz.size]; simp
    have c0 := hi.cell 0
    have c1 := val_of hi
    have c2 := hi.cell 5
    have c3 := hi.cell 6
    simp only [List.getElem?_toArray, List.getElem?_cons_zero, List.getElem?_cons_succ] at c0 c1 c2 c3
    have HZ := Lib.hid hrz
    have HL := Lib.hid hl
    have HR := Lib.hid hr
    clear hz hrz hi hl hr
    rcases cmp k a with ⟨hlt, d1, d2⟩ | ⟨rfl, d1⟩ | ⟨hgt, d1, d2, d3⟩
    ·have HE := Lib.hid ((Law.getK_left lt tri hlt HZ.out).symm.trans HG.out)
     have HS := Lib.hid HL.out.size
     clear hlt
     go_wp2_with fail
     go_round
     case rel => exact ⟨_, ls, rfl, HL.out, HZ.out.left, HE.out⟩
     case measure => rw [HS.out, HM.out]; omega
    ·have HE := Lib.hid ((Law.getK_same lt tri HZ.out).symm.trans HG.out)
     go_wp2_with fail
     go_ret
     exact ⟨rfl, .inr ⟨b, u, rfl, hb, c1, HE.out.symm⟩⟩
    ·have HE := Lib.hid ((Law.getK_right lt tri hgt HZ.out).symm.trans HG.out)
     have HS := Lib.hid HR.out.size
     clear hgt
     go_wp2_with fail
     go_round
     case rel => exact ⟨_, rs, rfl, HR.out, HZ.out.right, HE.out⟩
     case measure => rw [HS.out, HM.out]; omega

set_option maxRecDepth 100000 in
set_option maxHeartbeats 4000000 in
theorem without : ∀ (n : Nat) (k : ByteArray) (w : World) (B : Nat) (p : Option Addr) (xs : List (ByteArray × EnV)), xs.length ≤ n → At w B p xs → B ≤ w.heap.size → Law.Rises lt xs → xs.length ≤ 999 →
  Calls Tryz.prog 121 #[.pointer p, .string k] w (Made w (Law.outK k xs)) := by
 intro n
 induction n with
 | zero =>
   intro k w B p xs hn h hB _ _
   obtain rfl := List.eq_nil_of_length_eq_zero (by omega : xs.length = 0)
   obtain rfl := h.is_nil
   clear h
   go_enter Tryz.func121, Tryz.ntmps121
   go_wp2_with fail
   go_ret
   exact ⟨_, rfl, .nil, Below.refl _ w⟩
 | succ n ih =>
   intro k w B p xs hn h hB hR hx
   cases p with
   | none =>
     obtain rfl := h.of_nil
     exact ih k w B none [] (Nat.zero_le _) h hB hR hx
   | some ad =>
     obtain ⟨b, l, r, ls, rs, a, u, rfl, rfl, hb, hi, hl, hr⟩ := (h.wide hB).of_some
     have c0 := hi.cell 0
     have c1 := val_of hi
     have c2 := hi.cell 5
     have c3 := hi.cell 6
     simp only [List.getElem?_toArray, List.getElem?_cons_zero, List.getElem?_cons_succ] at c0 c1 c2 c3
     have HN : Hid ((ls ++ (a, u) :: rs).length = ls.length + (rs.length + 1)) := by show _ = _; simp
     rw [HN.out] at hn hx
     have HK : Hid (∀ w', Kept w w' → w'.cell? ⟨b, 5, none⟩ = some (.pointer l) ∧ w'.cell? ⟨b, 6, none⟩ = some (.pointer r) ∧ Kept w w') := fun w' K => ⟨K.cell hb c2, K.cell hb c3, K⟩
     have K0 : Kept w (w.drewN 1) := Kept.drew w
     have pl := Law.outK_length k ls
     have pr := Law.outK_length k rs
     rcases cmp k a with ⟨hlt, d1, _⟩ | ⟨rfl, d1⟩ | ⟨hgt, d1, d2, _⟩
     ·have HI : Hid (∀ w', Kept w w' → Calls Tryz.prog 121 #[.pointer l, .string k] w' (Next w w' (Law.outK k ls))) := fun w' K =>
       Made.next K (ih k w' _ l ls (by omega) (K.after hl) (Nat.le_refl _) hR.left (by omega))
      have HA : Hid (∀ w' p1, Kept w w' → At w' w'.heap.size p1 (Law.outK k ls) → Calls Tryz.prog 135 #[.pointer (some ⟨b, 0, none⟩), .pointer p1, .pointer r] w' (Next w w' (Law.outK k ls ++ (a, u) :: rs))) := fun w' p1 K t1 =>
       balanced_next c0 c1 hb K t1 (K.after hr) (by omega)
      have HE := Lib.hid (Law.outK_left lt tri hlt hR)
      clear ih h hR hi hl hr hlt c1 pl pr
      go_enter Tryz.func121, Tryz.ntmps121
      go_wp2_with fail
      go_region_held3 (fun w' => w'.cell? ⟨b, 5, none⟩ = some (.pointer l) ∧ w'.cell? ⟨b, 6, none⟩ = some (.pointer r) ∧ Kept w w') (exact HK.out _ (by assumption)) (first
       | (go_at_call 121; refine (HI.out _ (by assumption)).mono ?_; rintro e w1 ⟨p1, rfl, t1, K1, _⟩; have T1 := Lib.hid t1; clear t1)
       | (go_at_call 135; refine (HA.out _ _ (by assumption) T1.out).mono ?_; rintro e w2 ⟨p2, rfl, t2, K2, _⟩; have T2 := Lib.hid t2; clear t2))
      go_wp2_with fail
      go_ret
      exact ⟨_, rfl, by rw [HE.out]; exact T2.out, K2⟩
     ·have HE := Lib.hid (Law.outK_same lt tri hR)
      have HL := Lib.hid hl
      have HR := Lib.hid hr
      cases l with
      | none =>
        obtain rfl := HL.out.of_nil
        clear ih h hR hi hl hr pl pr HK K0 HN c1
        go_enter Tryz.func121, Tryz.ntmps121
        go_wp2_with fail
        go_ret
        exact ⟨_, rfl, by have := HE.out; simp only [List.nil_append] at this; rw [this]; exact HR.out, Below.refl _ w⟩
      | some la =>
        cases r with
        | none =>
          obtain rfl := HR.out.of_nil
          clear ih h hR hi hl hr pl pr HK K0 HN c1
          go_enter Tryz.func121, Tryz.ntmps121
          go_wp2_with fail
          go_ret
          exact ⟨_, rfl, by rw [HE.out, List.append_nil]; exact HL.out, Below.refl _ w⟩
        | some ra =>
          obtain ⟨nk, nv, rt, rfl⟩ : ∃ nk nv rt, rs = (nk, nv) :: rt := by
           cases rs with
           | nil => have := hr.is_nil; cases this
           | cons q rt => exact ⟨q.1, q.2, rt, rfl⟩
          have hrt : Law.outK nk ((nk, nv) :: rt) = rt := Law.outK_same (xs := []) lt tri hR.right
          have HI : Hid (∀ w', Kept w w' → Calls Tryz.prog 121 #[.pointer (some ra), .string nk] w' (Next w w' rt)) := fun w' K => by
           have := Made.next K (ih nk w' _ (some ra) ((nk, nv) :: rt) (by omega) (K.after hr) (Nat.le_refl _) hR.right (by omega))
           rwa [hrt] at this
          have HA : Hid (∀ b' w' p1, b' < w.heap.size → w.cell? ⟨b', 0, none⟩ = some (.string nk) → Val w b' nv → Kept w w' → At w' w'.heap.size p1 rt →
            Calls Tryz.prog 135 #[.pointer (some ⟨b', 0, none⟩), .pointer (some la), .pointer p1] w' (Next w w' (ls ++ (nk, nv) :: rt))) := fun b' w' p1 hb' e0 e1 K t1 =>
           balanced_next e0 e1 hb' K (K.after hl) t1 (by simp at hx; omega)
          clear ih h hR hi hl hr pl pr HK HN c1 hrt HL
          go_enter Tryz.func121, Tryz.ntmps121
          go_wp2_with fail
          refine (least HR.out).mono ?_
          rintro e w' ⟨nb, rfl, rfl, hnb, n0, n1⟩
          have HB := Lib.hid (HA.out nb · · hnb n0 n1)
          have HK : Hid (∀ w', Kept w w' → w'.cell? ⟨b, 5, none⟩ = some (.pointer (some la)) ∧ w'.cell? ⟨b, 6, none⟩ = some (.pointer (some ra)) ∧ w'.cell? ⟨nb, 0, none⟩ = some (.string nk) ∧ Kept w w') := fun w' K => ⟨K.cell hb c2, K.cell hb c3, K.cell hnb n0, K⟩
          clear HA n1
          go_wp2_with fail
          go_region_held3 (fun w' => w'.cell? ⟨b, 5, none⟩ = some (.pointer (some la)) ∧ w'.cell? ⟨b, 6, none⟩ = some (.pointer (some ra)) ∧ w'.cell? ⟨nb, 0, none⟩ = some (.string nk) ∧ Kept w w') (exact HK.out _ (by assumption)) (first
           | (go_at_call 121; refine (HI.out _ (by assumption)).mono ?_; rintro e w1 ⟨p1, rfl, t1, K1, _⟩; have T1 := Lib.hid t1; clear t1)
           | (go_at_call 135; refine (HB.out _ _ (by assumption) T1.out).mono ?_; rintro e w2 ⟨p2, rfl, t2, K2, _⟩; have T2 := Lib.hid t2; clear t2))
          go_wp2_with fail
          go_ret
          exact ⟨_, rfl, by rw [HE.out]; exact T2.out, K2⟩
     ·have HI : Hid (∀ w', Kept w w' → Calls Tryz.prog 121 #[.pointer r, .string k] w' (Next w w' (Law.outK k rs))) := fun w' K =>
       Made.next K (ih k w' _ r rs (by omega) (K.after hr) (Nat.le_refl _) hR.right (by omega))
      have HA : Hid (∀ w' p1, Kept w w' → At w' w'.heap.size p1 (Law.outK k rs) → Calls Tryz.prog 135 #[.pointer (some ⟨b, 0, none⟩), .pointer l, .pointer p1] w' (Next w w' (ls ++ (a, u) :: Law.outK k rs))) := fun w' p1 K t1 =>
       balanced_next c0 c1 hb K (K.after hl) t1 (by omega)
      have HE := Lib.hid (Law.outK_right lt tri hgt hR)
      clear ih h hR hi hl hr hgt c1 pl pr
      go_enter Tryz.func121, Tryz.ntmps121
      go_wp2_with fail
      go_region_held3 (fun w' => w'.cell? ⟨b, 5, none⟩ = some (.pointer l) ∧ w'.cell? ⟨b, 6, none⟩ = some (.pointer r) ∧ Kept w w') (exact HK.out _ (by assumption)) (first
       | (go_at_call 121; refine (HI.out _ (by assumption)).mono ?_; rintro e w1 ⟨p1, rfl, t1, K1, _⟩; have T1 := Lib.hid t1; clear t1)
       | (go_at_call 135; refine (HA.out _ _ (by assumption) T1.out).mono ?_; rintro e w2 ⟨p2, rfl, t2, K2, _⟩; have T2 := Lib.hid t2; clear t2))
      go_wp2_with fail
      go_ret
      exact ⟨_, rfl, by rw [HE.out]; exact T2.out, K2⟩
end OmapB
end Go.Proofs.YtohdlnefgieenaaGreat
namespace Go.Law
open Go.RowKit

structure Touch (w w' : World) (T : Nat → Prop) : Prop where
 os : w'.os = w.os
 tape : w'.tape = w.tape
 output : w'.output = w.output
 size : w.heap.size ≤ w'.heap.size
 block : ∀ k, k < w.heap.size → ¬ T k → w'.heap[k]? = w.heap[k]?
section
variable {w w' w'' : World} {T T' : Nat → Prop}
theorem Touch.refl (w : World) (T : Nat → Prop) : Touch w w T := ⟨rfl, rfl, rfl, Nat.le_refl _, fun _ _ _ => rfl⟩
theorem Touch.trans (h : Touch w w' T) (h' : Touch w' w'' T') (hT : ∀ k, T' k → T k ∨ w.heap.size ≤ k) : Touch w w'' T :=
 ⟨h'.os.trans h.os, h'.tape.trans h.tape, h'.output.trans h.output, Nat.le_trans h.size h'.size, fun k hk hn =>
  (h'.block k (Nat.lt_of_lt_of_le hk h.size) (fun e => by rcases hT k e with e | e; exact hn e; omega)).trans (h.block k hk hn)⟩
theorem Touch.mono (h : Touch w w' T) (hT : ∀ k, T k → T' k) : Touch w w' T' := ⟨h.os, h.tape, h.output, h.size, fun k hk hn => h.block k hk fun e => hn (hT k e)⟩
theorem Touch.grown {row : Option Nat} (hg : w.grownBy w' row) (h : ∀ k, row = some k → T k) : Touch w w' T :=
 ⟨hg.os, hg.tape, hg.output, hg.size, fun k hk hn => hg.block k hk fun e => hn (h k e.symm)⟩
theorem Touch.alloc (w : World) (o : Obj) (T : Nat → Prop) : Touch w (w.alloc o) T := Touch.grown (World.grownBy_alloc w o none) (fun _ h => by cases h)
theorem Touch.store (w : World) (p : Addr) (u : Value) (h : T p.block) : Touch w (w.setCell p u) T :=
 ⟨rfl, rfl, rfl, by simp, fun k _ hn => Below.heap_setCell w p u k (fun e => hn (by rw [e]; exact h))⟩
theorem Touch.of_below (hb : Below w.heap.size w w') (T : Nat → Prop) : Touch w w' T := ⟨hb.os, hb.tape, hb.output, hb.size, fun k hk _ => hb.block k hk⟩
theorem Touch.below {B : Nat} {a : World} (h : Touch w w' T) (hb : Below B a w) (hT : ∀ k, T k → B ≤ k) (hs : B ≤ w.heap.size) : Below B a w' :=
 hb.trans ⟨h.os, h.tape, h.output, h.size, fun k hk => h.block k (by omega) (fun e => by have := hT k e; omega)⟩
theorem Touch.is {g : Nat} {t : TypeId} {cs : Array Value} (h : Touch w w' T) (hi : Is w g t cs) (hg : ¬ T g) : Is w' g t cs := (h.block g hi.lt hg).trans hi
theorem Touch.own {base : Nat} {e : TypeId} {size n : Nat} {v : Value} {xs : List Value} (h : Touch w w' T) (ho : w.ownsRow base e size v n xs) (hg : ∀ g, v.ownBlock = some g → ¬ T g) : w'.ownsRow base e size v n xs := by
 refine ⟨ho.1, ?_⟩
 rcases ho.2 with hn | ⟨g, cap, cur, rfl, hb, hgg, rest⟩
 ·exact .inl hn
 ·exact .inr ⟨g, cap, cur, rfl, hb, (h.block g (Array.getElem?_eq_some_iff.1 hgg).1 (hg g rfl)).trans hgg, rest⟩
theorem Touch.seq {lo B : Nat} {A : Option Addr} {xs : List Value} (h : Touch w w' T) (hs : Seq w lo B A xs) (hB : B ≤ w.heap.size) (hT : ∀ k, T k → k < lo ∨ B ≤ k) : Seq w' lo B A xs :=
 hs.keep fun p h1 h2 => World.cell?_of_block (h.block p.block (by omega) fun e => by have := hT _ e; omega)
end

section
variable {t e : TypeId} {w w' : World} {base b room : Nat} {S T : Nat → Prop} {v : Value} {xs : List Value} {lost : Bool}
theorem Touch.putObj (w : World) (l : Nat) (o : Obj) : Touch w (w.putObj l o) (fun k => k = l) := Touch.grown (grownBy_putObj' w l o) (fun _ h => Option.some.inj h.symm)
theorem Touch.drewN (w : World) (n : Nat) (T : Nat → Prop) : Touch w (w.drewN n) T := ⟨rfl, rfl, rfl, Nat.le_refl _, fun _ _ _ => rfl⟩
end
def putL {α : Type} (room : Nat) (zs : List α) (x : α) : List α := if zs.length < room then zs ++ [x] else zs
theorem putL_yes {α : Type} {room : Nat} {zs : List α} {x : α} (h : zs.length < room) : putL room zs x = zs ++ [x] := by simp [putL, h]
theorem putL_no {α : Type} {room : Nat} {zs : List α} {x : α} (h : ¬ zs.length < room) : putL room zs x = zs := by simp [putL, h]
end Go.Law

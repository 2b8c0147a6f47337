/-
  Trees as in Trees, whose values take no cell. General over programs. (Made by mkomap0.py.)
-/
import Derived.Test.YtohdlnefgieenaaGreatJ1
import Derived.Test.YtohdlnefgieenaaGreatJ4
import Derived.WalkKit
import Derived.WalkSpells
import Derived.WalkLawsBesides
import Derived.Lib.Hide
import Derived.Deep.QuietTactic
import Derived.BigQuiet
import Derived.Deep.RegionLaw
import Derived.Deep.RegionHeld3
import Derived.Deep.DeepCutAuto
namespace Go.Law
open Go.RowKit
/-! ### A tree in memory -/
inductive Tree0 (t : TypeId) {κ ν : Type} (ek : κ → Value) (w : World) (B : Nat) : Option Addr → List (κ × ν) → Prop
 | nil : Tree0 t ek w B none []
 | node {b : Nat} {l r : Option Addr} {xs ys : List (κ × ν)} {k : κ} {v : ν} : b < B → Is w b t #[ek k, .pointer l, .pointer r, .int .i64 ((xs ++ (k, v) :: ys).length : Int)] → Tree0 t ek w B l xs → Tree0 t ek w B r ys →
  Tree0 t ek w B (some ⟨b, 0, none⟩) (xs ++ (k, v) :: ys)
section
variable {t : TypeId} {κ ν : Type} {ek : κ → Value} {w w' : World} {B B' : Nat} {p : Option Addr} {xs : List (κ × ν)}
theorem Tree0.under (h : Tree0 t ek w B p xs) (hb : Below B w w') : Tree0 t ek w' B p xs := by
 induction h with
 | nil => exact .nil
 | node hB hi _ _ ihl ihr => exact .node hB (hi.below hb hB) ihl ihr
theorem Tree0.wide (h : Tree0 t ek w B p xs) (hB : B ≤ B') : Tree0 t ek w B' p xs := by
 induction h with
 | nil => exact .nil
 | node hb hi _ _ ihl ihr => exact .node (by omega) hi ihl ihr
theorem Tree0.of_nil (h : Tree0 t ek w B none xs) : xs = [] := by cases h; rfl
theorem Tree0.is_nil (h : Tree0 t ek w B p ([] : List (κ × ν))) : p = none := by
 generalize hx : ([] : List (κ × ν)) = zs at h
 cases h with
 | nil => rfl
 | node _ _ _ _ => simp at hx
theorem Tree0.of_some {a : Addr} (h : Tree0 t ek w B (some a) xs) : ∃ (b : Nat) (l r : Option Addr) (ls rs : List (κ × ν)) (k : κ) (v : ν), a = ⟨b, 0, none⟩ ∧ xs = ls ++ (k, v) :: rs ∧ b < B ∧
  Is w b t #[ek k, .pointer l, .pointer r, .int .i64 ((ls ++ (k, v) :: rs).length : Int)] ∧ Tree0 t ek w B l ls ∧ Tree0 t ek w B r rs := by
 cases h with
 | node hb hi hl hr => exact ⟨_, _, _, _, _, _, _, rfl, rfl, hb, hi, hl, hr⟩
theorem Tree0.full (h : Tree0 t ek w B p xs) (hx : 0 < xs.length) : ∃ (b : Nat) (l r : Option Addr) (ls rs : List (κ × ν)) (k : κ) (v : ν), p = some ⟨b, 0, none⟩ ∧ xs = ls ++ (k, v) :: rs ∧ b < B ∧
  Is w b t #[ek k, .pointer l, .pointer r, .int .i64 ((ls ++ (k, v) :: rs).length : Int)] ∧ Tree0 t ek w B l ls ∧ Tree0 t ek w B r rs := by
 cases h with
 | nil => simp at hx
 | node hb hi hl hr => exact ⟨_, _, _, _, _, _, _, rfl, rfl, hb, hi, hl, hr⟩
def sizeAt0 (w : World) : Value → Nat
 | .pointer (some a) => match w.cell? ⟨a.block, 3, none⟩ with
   | some (.int _ n) => n.toNat
   | _ => 0
 | _ => 0
theorem Tree0.size (h : Tree0 t ek w B p xs) : sizeAt0 w (.pointer p) = xs.length := by
 cases h with
 | nil => rfl
 | node hb hi hl hr =>
   have := hi.cell 3
   simp only [sizeAt0]
   rw [this]
   simp
   omega
theorem Tree0.new {l r : Option Addr} {ls rs : List (κ × ν)} {k : κ} {v : ν} {g : Nat} {n : Int} (hl : Tree0 t ek w w.heap.size l ls) (hr : Tree0 t ek w w.heap.size r rs) (hg : g = w.heap.size) (hn : n = ((ls ++ (k, v) :: rs).length : Int)) :
  Tree0 t ek (w.alloc (.cells #[ek k, .pointer l, .pointer r, .int .i64 n] t)) (w.alloc (.cells #[ek k, .pointer l, .pointer r, .int .i64 n] t)).heap.size (some ⟨g, 0, none⟩) (ls ++ (k, v) :: rs) := by
 subst hg hn
 have hb := (Below.refl w.heap.size w).alloc (Nat.le_refl _) (.cells #[ek k, .pointer l, .pointer r, .int .i64 ((ls ++ (k, v) :: rs).length : Int)] t)
 exact .node (by simp) (Is.new _ _ _ rfl) ((hl.under hb).wide (by simp)) ((hr.under hb).wide (by simp))
theorem Tree0.keeps (h : Tree0 t ek w B p xs) (hb : Keeps t w w') : Tree0 t ek w' B p xs := by
 induction h with
 | nil => exact .nil
 | node hB hi _ _ ihl ihr => exact .node hB (hb.is hi) ihl ihr
theorem Tree0.far (h : Tree0 t ek w B p xs) {g i : Nat} {t' : TypeId} {cs : Array Value} (hg : Is w g t' cs) (ht : t ≠ t') (u : Value) : Tree0 t ek (w.setCell ⟨g, i, none⟩ u) B p xs := by
 induction h with
 | nil => exact .nil
 | node hB hi _ _ ihl ihr =>
   refine .node hB (hi.far (p := ⟨g, i, none⟩) ?_ u) ihl ihr
   intro e
   subst e
   unfold Is at hi hg
   rw [hi] at hg
   injection hg with hg
   injection hg with _ h2
   exact ht h2
theorem Tree0.drewN (h : Tree0 t ek w B p xs) (n : Nat) : Tree0 t ek (w.drewN n) B p xs := by
 induction h with
 | nil => exact .nil
 | node hB hi _ _ ihl ihr => exact .node hB (hi.drewN n) ihl ihr
end
end Go.Law
namespace Go.Proofs.YtohdlnefgieenaaGreat
open Go.RowKit
namespace OmapU
@[go_sem] theorem no_cells (n : Nat) (cs : Array Value) : Array.foldl (fun cs x => cs.setIfInBounds (n + x.snd) x.fst) cs (#[] : Array Value).zipIdx 0 0 = cs := rfl
abbrev Part (w : World) (b : Nat) : Prop := (partAt ⟨b, 0, none⟩ 1 16).run Tryz.prog w = .ok ⟨b, 1, none⟩ w
theorem part_of {w : World} {b : Nat} {k l r s : Value} (h : Law.Is w b 200 #[k, l, r, s]) : Part w b := by
 unfold Law.Is at h
 have e0 : Tryz.prog.cellsOf 200 = 4 := by kernel_rfl
 have e1 : Tryz.prog.bytesOf 200 = 40 := by kernel_rfl
 have e2 : byteOfCell Tryz.prog Tryz.prog.depth 200 0 = some 0 := by kernel_rfl
 have e3 : byteOfCell Tryz.prog Tryz.prog.depth 200 1 = some 16 := by kernel_rfl
 have e4 : ∀ g : Option (TypeId × Nat) → Sem (Option (TypeId × Nat)), (Sem.shape b g).run Tryz.prog w = (g (w.shape? b)).run Tryz.prog w := fun g => rfl
 have e5 : w.shape? b = some (200, 4) := by simp [World.shape?, h]
 simp [Part, partAt, byteOf, noView, viewAt, shape, getObj, go_sem, e0, e1, e2, e3, e4, e5]
def Val (w : World) (b : Nat) (_ : Int) : Prop := ∃ k l r s, Law.Is w b 200 #[k, l, r, s]
theorem val_of {w : World} {b : Nat} {k : ByteArray} {v : Int} {ls rs : List (ByteArray × Int)} {l r : Value} (h : Law.Is w b 200 #[.string k, l, r, .int .i64 ((ls ++ (k, v) :: rs).length : Int)]) : Val w b v := ⟨_, _, _, _, h⟩
theorem Val.part {w : World} {b : Nat} {v : Int} (h : Val w b v) : Part w b := by obtain ⟨_, _, _, _, h⟩ := h; exact part_of h
def Kept (W w : World) : Prop := Below W.heap.size W w
theorem Kept.drew (W : World) : Kept W (W.drewN 1) := Law.below_drewN (Below.refl _ W) 1
theorem Kept.cell {W w : World} (K : Kept W w) {b i : Nat} {u : Value} (hb : b < W.heap.size) (h : W.cell? ⟨b, i, none⟩ = some u) : w.cell? ⟨b, i, none⟩ = some u := (Below.cell K (p := ⟨b, i, none⟩) hb).trans h
theorem Kept.val {W w : World} (K : Kept W w) {b : Nat} {v : Int} (h : Val W b v) : Val w b v := by obtain ⟨_, _, _, _, h⟩ := h; exact ⟨_, _, _, _, h.below K h.lt⟩
end OmapU
end Go.Proofs.YtohdlnefgieenaaGreat
namespace Go.Proofs.YtohdlnefgieenaaGreat
open Go.RowKit
namespace OmapU
abbrev At (w : World) (B : Nat) (p : Option Addr) (xs : List (ByteArray × Int)) : Prop := Law.Tree0 200 Value.string w B p xs

set_option maxHeartbeats 400000 in
theorem count {w : World} {B : Nat} {p : Option Addr} {xs : List (ByteArray × Int)} (h : At w B p xs) :
  Calls Tryz.prog 130 #[.pointer p] w fun e w' => e = .returned (.int .i64 (xs.length : Int)) ∧ w = w' := by
 cases p with
 | none =>
   have := h.of_nil
   subst this
   clear h
   go_enter Tryz.func130, Tryz.ntmps130
   go_wp2
   go_ret
   exact ⟨rfl, rfl⟩
 | some a =>
   obtain ⟨b, l, r, ls, rs, k, v, rfl, rfl, hb, hi, _, _⟩ := h.of_some
   have c4 := hi.cell 3
   clear hi h
   simp only [List.getElem?_toArray, List.getElem?_cons_zero, List.getElem?_cons_succ] at c4
   generalize (ls ++ (k, v) :: rs).length = n at *
   go_enter Tryz.func130, Tryz.ntmps130
   go_wp2
   go_ret
   exact ⟨rfl, rfl⟩

set_option maxHeartbeats 400000 in
theorem weight {w : World} {B : Nat} {p : Option Addr} {xs : List (ByteArray × Int)} (h : At w B p xs) (hx : xs.length ≤ 1000) :
  Calls Tryz.prog 141 #[.pointer p] w fun e w' => e = .returned (.int .i64 ((xs.length : Int) + 1)) ∧ w = w' := by
 have H := Lib.hid h
 clear h
 go_enter Tryz.func141, Tryz.ntmps141
 go_wp2_with fail
 refine (count H.out).mono ?_
 rintro e w' ⟨rfl, rfl⟩
 go_wp2_with fail
 go_ret
 exact ⟨rfl, rfl⟩

set_option maxHeartbeats 400000 in
theorem heavy {w : World} {B C : Nat} {p q : Option Addr} {xs ys : List (ByteArray × Int)} (h : At w B p xs) (hx : xs.length ≤ 1000) (g : At w C q ys) (hy : ys.length ≤ 1000) :
  Calls Tryz.prog 131 #[.pointer p, .pointer q] w fun e w' => e = .returned (.bool (decide (3 * ((ys.length : Int) + 1) < (xs.length : Int) + 1))) ∧ w = w' := by
 have H := Lib.hid h
 have G := Lib.hid g
 clear h g
 go_enter Tryz.func131, Tryz.ntmps131
 go_wp2_with fail
 refine (weight H.out hx).mono ?_
 rintro e w' ⟨rfl, rfl⟩
 go_wp2_with fail
 refine (weight G.out hy).mono ?_
 rintro e w' ⟨rfl, rfl⟩
 go_wp2_with fail
 go_ret
 exact ⟨rfl, rfl⟩

set_option maxHeartbeats 400000 in
theorem narrow {w : World} {B C : Nat} {p q : Option Addr} {xs ys : List (ByteArray × Int)} (h : At w B p xs) (hx : xs.length ≤ 1000) (g : At w C q ys) (hy : ys.length ≤ 1000) :
  Calls Tryz.prog 142 #[.pointer p, .pointer q] w fun e w' => e = .returned (.bool (decide ((xs.length : Int) + 1 < 2 * ((ys.length : Int) + 1)))) ∧ w = w' := by
 have H := Lib.hid h
 have G := Lib.hid g
 clear h g
 go_enter Tryz.func142, Tryz.ntmps142
 go_wp2_with fail
 refine (weight H.out hx).mono ?_
 rintro e w' ⟨rfl, rfl⟩
 go_wp2_with fail
 refine (weight G.out hy).mono ?_
 rintro e w' ⟨rfl, rfl⟩
 go_wp2_with fail
 go_ret
 exact ⟨rfl, rfl⟩

def Made (w : World) (zs : List (ByteArray × Int)) (e : Ending) (w' : World) : Prop := ∃ p, e = .returned (.pointer p) ∧ At w' w'.heap.size p zs ∧ Below w.heap.size w w'

set_option maxRecDepth 100000 in
set_option maxHeartbeats 2000000 in
theorem above {w : World} {b B : Nat} {k : ByteArray} {v : Int} {l r : Option Addr} {xs ys : List (ByteArray × Int)} (h0 : w.cell? ⟨b, 0, none⟩ = some (.string k)) (h1 : Val w b v) (hl : At w B l xs) (hr : At w B r ys) (hB : B ≤ w.heap.size) (hx : xs.length + ys.length ≤ 1000) :
  Calls Tryz.prog 134 #[.pointer (some ⟨b, 0, none⟩), .pointer l, .pointer r] w (Made w (xs ++ (k, v) :: ys)) := by
 have HL := Lib.hid (hl.wide hB)
 have HR := Lib.hid (hr.wide hB)
 have hx1 : xs.length ≤ 1000 := by omega
 have hy1 : ys.length ≤ 1000 := by omega
 have HS : Hid (IntKind.i64.wrap (IntKind.i64.wrap ((xs.length : Int) + (ys.length : Int)) + 1) = ((xs ++ (k, v) :: ys).length : Int)) := by
  show _ = _
  rw [IntWalk.i64_in ((xs.length : Int) + (ys.length : Int)) (by omega), IntWalk.i64_in _ (by omega)]
  simp
  omega
 have hb := World.block_lt_of_cell? w _ h0
 have HK : Hid (∀ w', Kept w w' → w'.cell? ⟨b, 0, none⟩ = some (.string k) ∧ Part w' b ∧ Kept w w') := fun w' K => ⟨K.cell hb h0, (K.val h1).part, K⟩
 have K0 : Kept w (w.drewN 1) := Kept.drew w
 clear hl hr hB h1
 go_enter Tryz.func134, Tryz.ntmps134
 go_wp2_with fail
 go_region_held3 (fun w' => w'.cell? ⟨b, 0, none⟩ = some (.string k) ∧ Part w' b ∧ Kept w w') (first | exact HK.out _ (by assumption) | exact HK.out _ (Below.alloc K0 (by simp) _)) (first
  | (go_at_call_of 130 (Value.pointer l); refine (count (HL.out.drewN 1)).mono ?_; rintro e w' ⟨rfl, rfl⟩)
  | (go_at_call_of 130 (Value.pointer r); refine (count (HR.out.drewN 1)).mono ?_; rintro e w' ⟨rfl, rfl⟩))
 go_wp2_with fail
 go_ret
 exact ⟨_, rfl, Law.Tree0.new (HL.out.drewN 1) (HR.out.drewN 1) rfl HS.out, (Law.below_drewN (Below.refl _ w) 1).alloc (Nat.le_refl _) _⟩

theorem Kept.at {W w : World} (K : Kept W w) {B : Nat} {p : Option Addr} {xs : List (ByteArray × Int)} (h : At W B p xs) (hB : B ≤ W.heap.size) : At w w.heap.size p xs := ((h.wide hB).under K).wide K.size
def Next (W w : World) (zs : List (ByteArray × Int)) (e : Ending) (w' : World) : Prop := ∃ p, e = .returned (.pointer p) ∧ At w' w'.heap.size p zs ∧ Kept W w' ∧ Kept w w'
theorem Made.next {W w : World} {zs : List (ByteArray × Int)} {f : FuncId} {args : Array Value} (K : Kept W w) (h : Calls Tryz.prog f args w (Made w zs)) : Calls Tryz.prog f args w (Next W w zs) :=
 h.mono fun _ _ ⟨p, he, ht, hb⟩ => ⟨p, he, ht, Below.trans K (Below.mono hb K.size), hb⟩

theorem above_next {W w : World} {b : Nat} {k : ByteArray} {v : Int} {l r : Option Addr} {xs ys : List (ByteArray × Int)} (h0 : W.cell? ⟨b, 0, none⟩ = some (.string k)) (h1 : Val W b v) (hb : b < W.heap.size) (K : Kept W w) (hl : At w w.heap.size l xs) (hr : At w w.heap.size r ys) (hx : xs.length + ys.length ≤ 1000) :
  Calls Tryz.prog 134 #[.pointer (some ⟨b, 0, none⟩), .pointer l, .pointer r] w (Next W w (xs ++ (k, v) :: ys)) :=
 Made.next K (above (K.cell hb h0) (K.val h1) hl hr (Nat.le_refl _) hx)
theorem Next.made {W w w' : World} {zs zs' : List (ByteArray × Int)} {e : Ending} (h : Next W w zs e w') (hz : zs = zs') : Made W zs' e w' := by
 obtain ⟨p, he, ht, K, _⟩ := h
 exact ⟨p, he, hz ▸ ht, K⟩
theorem Kept.after {w w' : World} (K : Kept w w') {p : Option Addr} {xs : List (ByteArray × Int)} (h : At w w.heap.size p xs) : At w' w'.heap.size p xs := K.at h (Nat.le_refl _)

set_option maxRecDepth 100000 in
set_option maxHeartbeats 4000000 in
theorem turnedLeft {w : World} {b B : Nat} {k : ByteArray} {v : Int} {l r : Option Addr} {xs ys : List (ByteArray × Int)} (h0 : w.cell? ⟨b, 0, none⟩ = some (.string k)) (h1 : Val w b v) (hbl : b < w.heap.size) (hl : At w B l xs) (hr : At w B r ys) (hB : B ≤ w.heap.size) (hx : xs.length + ys.length ≤ 1000) (hh : 0 < ys.length) :
  Calls Tryz.prog 132 #[.pointer (some ⟨b, 0, none⟩), .pointer l, .pointer r] w (Made w (xs ++ (k, v) :: ys)) := by
 have HL := Lib.hid (hl.wide hB)
 obtain ⟨rb, il, ir, ils, irs, rk, rv, rfl, rfl, hrb, hri, hil, hir⟩ := (hr.wide hB).full hh
 have HI := Lib.hid hil
 have HO := Lib.hid hir
 have r0 := hri.cell 0
 have r1 := val_of hri
 have r2 := hri.cell 1
 have r3 := hri.cell 2
 simp only [List.getElem?_toArray, List.getElem?_cons_zero, List.getElem?_cons_succ] at r0 r1 r2 r3
 simp only [List.length_append, List.length_cons] at hx
 have hi1 : ils.length ≤ 1000 := by omega
 have ho1 : irs.length ≤ 1000 := by omega
 clear hl hr hri hil hir hh
 by_cases hn : (ils.length : Int) + 1 < 2 * ((irs.length : Int) + 1)
 ·have d1 : decide ((ils.length : Int) + 1 < 2 * ((irs.length : Int) + 1)) = true := by simpa using hn
  have HA : Hid (∀ w', Kept w w' → Calls Tryz.prog 134 #[.pointer (some ⟨b, 0, none⟩), .pointer l, .pointer il] w' (Next w w' (xs ++ (k, v) :: ils))) := fun w' K =>
   above_next h0 h1 hbl K (K.after HL.out) (K.after HI.out) (by omega)
  have HE : Hid (∀ w' p1, Kept w w' → At w' w'.heap.size p1 (xs ++ (k, v) :: ils) → Calls Tryz.prog 134 #[.pointer (some ⟨rb, 0, none⟩), .pointer p1, .pointer ir] w' (Made w (xs ++ (k, v) :: (ils ++ (rk, rv) :: irs)))) := fun w' p1 K t1 =>
   (above_next r0 r1 hrb K t1 (K.after HO.out) (by simp; omega)).mono fun _ _ h => h.made (by simp)
  clear hn h0 h1 r0 r1
  go_enter Tryz.func132, Tryz.ntmps132
  go_wp2_with fail
  go_quiet (fail)
  go_wp2_with fail
  refine (narrow (HI.out.drewN _) hi1 (HO.out.drewN _) ho1).mono ?_
  rintro e w' ⟨rfl, rfl⟩
  rw [d1]
  go_wp2_with fail
  refine (HA.out _ (Law.below_drewN (Below.refl _ w) _)).mono ?_
  rintro e w1 ⟨p1, rfl, t1, K1, _⟩
  have H2 := Lib.hid (HE.out w1 p1 K1 t1)
  clear t1 K1 HA HE
  go_wp2_with fail
  refine H2.out.mono ?_
  rintro e w2 ⟨p2, rfl, h2⟩
  have H3 := Lib.hid h2
  clear h2 H2
  go_wp2_with fail
  go_ret
  exact ⟨p2, rfl, H3.out⟩
 ·have d1 : decide ((ils.length : Int) + 1 < 2 * ((irs.length : Int) + 1)) = false := by simpa using hn
  obtain ⟨ib, jl, jr, jls, jrs, ik, iv, rfl, rfl, hib, hii, hjl, hjr⟩ := HI.out.full (by omega)
  have i0 := hii.cell 0
  have i1 := val_of hii
  have i2 := hii.cell 1
  have i3 := hii.cell 2
  simp only [List.getElem?_toArray, List.getElem?_cons_zero, List.getElem?_cons_succ] at i0 i1 i2 i3
  simp only [List.length_append, List.length_cons] at hx
  have HA : Hid (∀ w', Kept w w' → Calls Tryz.prog 134 #[.pointer (some ⟨b, 0, none⟩), .pointer l, .pointer jl] w' (Next w w' (xs ++ (k, v) :: jls))) := fun w' K =>
   above_next h0 h1 hbl K (K.after HL.out) (K.after hjl) (by omega)
  have HC : Hid (∀ w', Kept w w' → Calls Tryz.prog 134 #[.pointer (some ⟨rb, 0, none⟩), .pointer jr, .pointer ir] w' (Next w w' (jrs ++ (rk, rv) :: irs))) := fun w' K =>
   above_next r0 r1 hrb K (K.after hjr) (K.after HO.out) (by omega)
  have HE : Hid (∀ w' p1 p2, Kept w w' → At w' w'.heap.size p1 (xs ++ (k, v) :: jls) → At w' w'.heap.size p2 (jrs ++ (rk, rv) :: irs) → Calls Tryz.prog 134 #[.pointer (some ⟨ib, 0, none⟩), .pointer p1, .pointer p2] w' (Next w w' (xs ++ (k, v) :: (jls ++ (ik, iv) :: jrs ++ (rk, rv) :: irs)))) := fun w' p1 p2 K t1 t2 =>
   (above_next i0 i1 hib K t1 t2 (by simp; omega)).mono fun _ _ ⟨p, he, ht, hk⟩ => ⟨p, he, by simpa using ht, hk⟩
  have HK : Hid (∀ w', Kept w w' → w'.cell? ⟨ib, 1, none⟩ = some (.pointer jl) ∧ w'.cell? ⟨ib, 2, none⟩ = some (.pointer jr) ∧ Kept w w') := fun w' K => ⟨K.cell hib i2, K.cell hib i3, K⟩
  clear hn h0 h1 r0 r1 i0 i1 hii hjl hjr
  go_enter Tryz.func132, Tryz.ntmps132
  go_wp2_with fail
  go_quiet (fail)
  go_wp2_with fail
  refine (narrow (HI.out.drewN _) hi1 (HO.out.drewN _) ho1).mono ?_
  rintro e w' ⟨rfl, rfl⟩
  rw [d1]
  go_wp2_with fail
  have K0 : Kept w (w.drewN nq).drew := Law.below_drewN (Law.below_drewN (Below.refl _ w) nq) 1
  go_region_held3 (fun w' => w'.cell? ⟨ib, 1, none⟩ = some (.pointer jl) ∧ w'.cell? ⟨ib, 2, none⟩ = some (.pointer jr) ∧ Kept w w') (exact HK.out _ (by assumption)) (first
   | (go_at_call_of 134 (Value.pointer (some ⟨b, 0, none⟩)); refine (HA.out _ (by assumption)).mono ?_; rintro e w1 ⟨p1, rfl, t1, K1, _⟩; have T1 := Lib.hid t1; clear t1)
   | (go_at_call_of 134 (Value.pointer (some ⟨rb, 0, none⟩)); refine (HC.out _ (by assumption)).mono ?_; rintro e w2 ⟨p2, rfl, t2, K2, k2⟩; have T2 := Lib.hid t2; have T1' := Lib.hid (k2.after T1.out); clear t2 k2 T1)
   | (go_at_call_of 134 (Value.pointer (some ⟨ib, 0, none⟩)); refine (HE.out _ _ _ (by assumption) T1'.out T2.out).mono ?_; rintro e w3 ⟨p3, rfl, t3, K3, _⟩; have T3 := Lib.hid t3; clear t3))
  go_wp2_with fail
  go_ret
  exact ⟨_, rfl, T3.out, K3⟩

set_option maxRecDepth 100000 in
set_option maxHeartbeats 4000000 in
theorem turnedRight {w : World} {b B : Nat} {k : ByteArray} {v : Int} {l r : Option Addr} {xs ys : List (ByteArray × Int)} (h0 : w.cell? ⟨b, 0, none⟩ = some (.string k)) (h1 : Val w b v) (hbl : b < w.heap.size) (hl : At w B l xs) (hr : At w B r ys) (hB : B ≤ w.heap.size) (hx : xs.length + ys.length ≤ 1000) (hh : 0 < xs.length) :
  Calls Tryz.prog 133 #[.pointer (some ⟨b, 0, none⟩), .pointer l, .pointer r] w (Made w (xs ++ (k, v) :: ys)) := by
 have HR := Lib.hid (hr.wide hB)
 obtain ⟨lb, ol, il, ols, ils, lk, lv, rfl, rfl, hlb, hli, hol, hil⟩ := (hl.wide hB).full hh
 have HI := Lib.hid hil
 have HO := Lib.hid hol
 have r0 := hli.cell 0
 have r1 := val_of hli
 have r2 := hli.cell 1
 have r3 := hli.cell 2
 simp only [List.getElem?_toArray, List.getElem?_cons_zero, List.getElem?_cons_succ] at r0 r1 r2 r3
 simp only [List.length_append, List.length_cons] at hx
 have hi1 : ils.length ≤ 1000 := by omega
 have ho1 : ols.length ≤ 1000 := by omega
 clear hl hr hli hol hil hh
 by_cases hn : (ils.length : Int) + 1 < 2 * ((ols.length : Int) + 1)
 ·have d1 : decide ((ils.length : Int) + 1 < 2 * ((ols.length : Int) + 1)) = true := by simpa using hn
  have HA : Hid (∀ w', Kept w w' → Calls Tryz.prog 134 #[.pointer (some ⟨b, 0, none⟩), .pointer il, .pointer r] w' (Next w w' (ils ++ (k, v) :: ys))) := fun w' K =>
   above_next h0 h1 hbl K (K.after HI.out) (K.after HR.out) (by omega)
  have HE : Hid (∀ w' p1, Kept w w' → At w' w'.heap.size p1 (ils ++ (k, v) :: ys) → Calls Tryz.prog 134 #[.pointer (some ⟨lb, 0, none⟩), .pointer ol, .pointer p1] w' (Made w (ols ++ (lk, lv) :: ils ++ (k, v) :: ys))) := fun w' p1 K t1 =>
   (above_next r0 r1 hlb K (K.after HO.out) t1 (by simp; omega)).mono fun _ _ h => h.made (by simp)
  clear hn h0 h1 r0 r1
  go_enter Tryz.func133, Tryz.ntmps133
  go_wp2_with fail
  go_quiet (fail)
  go_wp2_with fail
  refine (narrow (HI.out.drewN _) hi1 (HO.out.drewN _) ho1).mono ?_
  rintro e w' ⟨rfl, rfl⟩
  rw [d1]
  go_wp2_with fail
  refine (HA.out _ (Law.below_drewN (Below.refl _ w) _)).mono ?_
  rintro e w1 ⟨p1, rfl, t1, K1, _⟩
  have H2 := Lib.hid (HE.out w1 p1 K1 t1)
  clear t1 K1 HA HE
  go_wp2_with fail
  refine H2.out.mono ?_
  rintro e w2 ⟨p2, rfl, h2⟩
  have H3 := Lib.hid h2
  clear h2 H2
  go_wp2_with fail
  go_ret
  exact ⟨p2, rfl, H3.out⟩
 ·have d1 : decide ((ils.length : Int) + 1 < 2 * ((ols.length : Int) + 1)) = false := by simpa using hn
  obtain ⟨ib, jl, jr, jls, jrs, ik, iv, rfl, rfl, hib, hii, hjl, hjr⟩ := HI.out.full (by omega)
  have i0 := hii.cell 0
  have i1 := val_of hii
  have i2 := hii.cell 1
  have i3 := hii.cell 2
  simp only [List.getElem?_toArray, List.getElem?_cons_zero, List.getElem?_cons_succ] at i0 i1 i2 i3
  simp only [List.length_append, List.length_cons] at hx
  have HA : Hid (∀ w', Kept w w' → Calls Tryz.prog 134 #[.pointer (some ⟨lb, 0, none⟩), .pointer ol, .pointer jl] w' (Next w w' (ols ++ (lk, lv) :: jls))) := fun w' K =>
   above_next r0 r1 hlb K (K.after HO.out) (K.after hjl) (by omega)
  have HC : Hid (∀ w', Kept w w' → Calls Tryz.prog 134 #[.pointer (some ⟨b, 0, none⟩), .pointer jr, .pointer r] w' (Next w w' (jrs ++ (k, v) :: ys))) := fun w' K =>
   above_next h0 h1 hbl K (K.after hjr) (K.after HR.out) (by omega)
  have HE : Hid (∀ w' p1 p2, Kept w w' → At w' w'.heap.size p1 (ols ++ (lk, lv) :: jls) → At w' w'.heap.size p2 (jrs ++ (k, v) :: ys) → Calls Tryz.prog 134 #[.pointer (some ⟨ib, 0, none⟩), .pointer p1, .pointer p2] w' (Next w w' (ols ++ (lk, lv) :: (jls ++ (ik, iv) :: jrs) ++ (k, v) :: ys))) := fun w' p1 p2 K t1 t2 =>
   (above_next i0 i1 hib K t1 t2 (by simp; omega)).mono fun _ _ ⟨p, he, ht, hk⟩ => ⟨p, he, by simpa using ht, hk⟩
  have HK : Hid (∀ w', Kept w w' → w'.cell? ⟨ib, 1, none⟩ = some (.pointer jl) ∧ w'.cell? ⟨ib, 2, none⟩ = some (.pointer jr) ∧ Kept w w') := fun w' K => ⟨K.cell hib i2, K.cell hib i3, K⟩
  clear hn h0 h1 r0 r1 i0 i1 hii hjl hjr
  go_enter Tryz.func133, Tryz.ntmps133
  go_wp2_with fail
  go_quiet (fail)
  go_wp2_with fail
  refine (narrow (HI.out.drewN _) hi1 (HO.out.drewN _) ho1).mono ?_
  rintro e w' ⟨rfl, rfl⟩
  rw [d1]
  go_wp2_with fail
  have K0 : Kept w (w.drewN nq).drew := Law.below_drewN (Law.below_drewN (Below.refl _ w) nq) 1
  go_region_held3 (fun w' => w'.cell? ⟨ib, 1, none⟩ = some (.pointer jl) ∧ w'.cell? ⟨ib, 2, none⟩ = some (.pointer jr) ∧ Kept w w') (exact HK.out _ (by assumption)) (first
   | (go_at_call_of 134 (Value.pointer (some ⟨lb, 0, none⟩)); refine (HA.out _ (by assumption)).mono ?_; rintro e w1 ⟨p1, rfl, t1, K1, _⟩; have T1 := Lib.hid t1; clear t1)
   | (go_at_call_of 134 (Value.pointer (some ⟨b, 0, none⟩)); refine (HC.out _ (by assumption)).mono ?_; rintro e w2 ⟨p2, rfl, t2, K2, k2⟩; have T2 := Lib.hid t2; have T1' := Lib.hid (k2.after T1.out); clear t2 k2 T1)
   | (go_at_call_of 134 (Value.pointer (some ⟨ib, 0, none⟩)); refine (HE.out _ _ _ (by assumption) T1'.out T2.out).mono ?_; rintro e w3 ⟨p3, rfl, t3, K3, _⟩; have T3 := Lib.hid t3; clear t3))
  go_wp2_with fail
  go_ret
  exact ⟨_, rfl, T3.out, K3⟩

set_option maxHeartbeats 1000000 in
theorem balanced {w : World} {b B : Nat} {k : ByteArray} {v : Int} {l r : Option Addr} {xs ys : List (ByteArray × Int)} (h0 : w.cell? ⟨b, 0, none⟩ = some (.string k)) (h1 : Val w b v) (hbl : b < w.heap.size) (hl : At w B l xs) (hr : At w B r ys) (hB : B ≤ w.heap.size) (hx : xs.length + ys.length ≤ 1000) :
  Calls Tryz.prog 119 #[.pointer (some ⟨b, 0, none⟩), .pointer l, .pointer r] w (Made w (xs ++ (k, v) :: ys)) := by
 have hx1 : xs.length ≤ 1000 := by omega
 have hy1 : ys.length ≤ 1000 := by omega
 have HL := Lib.hid hl
 have HR := Lib.hid hr
 have H0 := Lib.hid h0
 have H1 := Lib.hid h1
 clear hl hr h0 h1
 by_cases c1 : 3 * ((xs.length : Int) + 1) < (ys.length : Int) + 1
 ·have d1 : decide (3 * ((xs.length : Int) + 1) < (ys.length : Int) + 1) = true := by simpa using c1
  go_enter Tryz.func119, Tryz.ntmps119
  go_wp2_with fail
  refine (heavy HR.out hy1 HL.out hx1).mono ?_
  rintro e w' ⟨rfl, rfl⟩
  rw [d1]
  go_wp2_with fail
  refine (turnedLeft H0.out H1.out hbl HL.out HR.out hB hx (by omega)).mono ?_
  rintro e w' ⟨p, rfl, h2⟩
  have H2 := Lib.hid h2
  clear h2
  go_wp2_with fail
  go_ret
  exact ⟨p, rfl, H2.out⟩
 ·have d1 : decide (3 * ((xs.length : Int) + 1) < (ys.length : Int) + 1) = false := by simpa using c1
  by_cases c2 : 3 * ((ys.length : Int) + 1) < (xs.length : Int) + 1
  ·have d2 : decide (3 * ((ys.length : Int) + 1) < (xs.length : Int) + 1) = true := by simpa using c2
   go_enter Tryz.func119, Tryz.ntmps119
   go_wp2_with fail
   refine (heavy HR.out hy1 HL.out hx1).mono ?_
   rintro e w' ⟨rfl, rfl⟩
   rw [d1]
   go_wp2_with fail
   refine (heavy HL.out hx1 HR.out hy1).mono ?_
   rintro e w' ⟨rfl, rfl⟩
   rw [d2]
   go_wp2_with fail
   refine (turnedRight H0.out H1.out hbl HL.out HR.out hB hx (by omega)).mono ?_
   rintro e w' ⟨p, rfl, h2⟩
   have H2 := Lib.hid h2
   clear h2
   go_wp2_with fail
   go_ret
   exact ⟨p, rfl, H2.out⟩
  ·have d2 : decide (3 * ((ys.length : Int) + 1) < (xs.length : Int) + 1) = false := by simpa using c2
   go_enter Tryz.func119, Tryz.ntmps119
   go_wp2_with fail
   refine (heavy HR.out hy1 HL.out hx1).mono ?_
   rintro e w' ⟨rfl, rfl⟩
   rw [d1]
   go_wp2_with fail
   refine (heavy HL.out hx1 HR.out hy1).mono ?_
   rintro e w' ⟨rfl, rfl⟩
   rw [d2]
   go_wp2_with fail
   refine (above H0.out H1.out HL.out HR.out hB hx).mono ?_
   rintro e w' ⟨p, rfl, h2⟩
   have H2 := Lib.hid h2
   clear h2
   go_wp2_with fail
   go_ret
   exact ⟨p, rfl, H2.out⟩
theorem balanced_next {W w : World} {b : Nat} {k : ByteArray} {v : Int} {l r : Option Addr} {xs ys : List (ByteArray × Int)} (h0 : W.cell? ⟨b, 0, none⟩ = some (.string k)) (h1 : Val W b v) (hb : b < W.heap.size) (K : Kept W w) (hl : At w w.heap.size l xs) (hr : At w w.heap.size r ys) (hx : xs.length + ys.length ≤ 1000) :
  Calls Tryz.prog 119 #[.pointer (some ⟨b, 0, none⟩), .pointer l, .pointer r] w (Next W w (xs ++ (k, v) :: ys)) :=
 Made.next K (balanced (K.cell hb h0) (K.val h1) (Nat.lt_of_lt_of_le hb K.size) hl hr (Nat.le_refl _) hx)
end OmapU
end Go.Proofs.YtohdlnefgieenaaGreat

/-
  More on lists that rise; the functions that OmapWhole hands in.
-/
import Derived.Test.YtekkddejgkmofaaOmap02
namespace Go.Law
section
variable {κ ν : Type} {lt : κ → κ → Prop} [DecidableRel lt] [DecidableEq κ]
omit [DecidableEq κ] in
theorem putK_end (ht : Tri lt) {k : κ} {v : ν} : ∀ {xs : List (κ × ν)}, (∀ p ∈ xs, lt p.1 k) → putK lt k v xs = xs ++ [(k, v)]
  | [], _ => rfl
  | p :: r, h => by
    have h1 := h p (by simp)
    rw [putK, if_neg (ht.asym h1), if_pos h1, putK_end ht fun q hq => h q (by simp [hq])]
    rfl
omit [DecidableRel lt] in
theorem getK_mem (ht : Tri lt) {k : κ} {v : ν} {xs : List (κ × ν)} (hr : Rises lt xs) (hm : (k, v) ∈ xs) : getK k xs = some v := by
  obtain ⟨a, b, rfl⟩ := List.append_of_mem hm
  exact getK_same lt ht hr
omit [DecidableRel lt] [DecidableEq κ] in
theorem Rises.part {xs pre : List (κ × ν)} {k : κ} {v : ν} (h : Rises lt xs) (hp : pre ++ [(k, v)] <+: xs) : ∀ p ∈ pre, lt p.1 k := by
  obtain ⟨t, rfl⟩ := hp
  rw [List.append_assoc] at h
  exact h.less
omit [DecidableRel lt] [DecidableEq κ] in
theorem Rises.prefix {xs pre : List (κ × ν)} (h : Rises lt xs) (hp : pre <+: xs) : Rises lt pre := List.Pairwise.sublist hp.sublist h
end
end Go.Law
namespace Go.Proofs.Ytekkddejgkmofaa
open Go.RowKit
namespace Omap
/-- the last key of those that came -/
def lastK (pre : List (ByteArray × Int)) : ByteArray := (pre.getLast?.map Prod.fst).getD .empty
theorem lastK_snoc (pre : List (ByteArray × Int)) (k : ByteArray) (v : Int) : lastK (pre ++ [(k, v)]) = k := by simp [lastK]
theorem lastK_less {pre : List (ByteArray × Int)} {k : ByteArray} (h : ∀ p ∈ pre, OmapS.lt p.1 k) (hn : pre ≠ []) : OmapS.lt (lastK pre) k := by
  have e : pre.getLast? = some (pre.getLast hn) := List.getLast?_eq_some_getLast hn
  unfold lastK
  rw [e]
  exact h _ (List.getLast_mem hn)
/-- between two rounds of OmapWhole's first function: block bn holds what has come, bm all; s, s + 1, s + 2 the last key, whether it is the first one, whether all rise -/
structure Whole (w : World) (bm bn s : Nat) (xs pre : List (ByteArray × Int)) (W : World) : Prop where
  m : Var W bm xs
  n : Var W bn pre
  last : Law.Is W s 9 #[.string (lastK pre)]
  first : Law.Is W (s + 1) 4 #[.bool pre.isEmpty]
  rises : Law.Is W (s + 2) 4 #[.bool true]
  bel : Below w.heap.size w W
theorem Var.drewN {w : World} {b : Nat} {xs : List (ByteArray × Int)} (h : Var w b xs) (n : Nat) : Var (w.drewN n) b xs := h.below (Law.below_drewN (Below.refl _ w) n)
theorem Whole.drewN {w : World} {bm bn s : Nat} {xs pre : List (ByteArray × Int)} {W : World} (h : Whole w bm bn s xs pre W) (n : Nat) : Whole w bm bn s xs pre (W.drewN n) :=
  ⟨h.m.drewN n, h.n.drewN n, h.last.drewN n, h.first.drewN n, h.rises.drewN n, Law.below_drewN h.bel n⟩

set_option maxHeartbeats 1600000 in
theorem whole1 (w : World) (bm bn s : Nat) (xs pre : List (ByteArray × Int)) (k : ByteArray) (v : Int) (W : World) (hJ : Whole w bm bn s xs pre W) (hp : pre ++ [(k, v)] <+: xs) (hr : Law.Rises OmapS.lt xs) (hl : xs.length ≤ 900) (hmn : bm ≠ bn) (hws : w.heap.size ≤ s) (hwn : w.heap.size ≤ bn) :
    Calls Try.prog 24 #[.string k, .int .i64 v, .pointer (some ⟨bn, 0, none⟩), .pointer (some ⟨s + 2, 0, none⟩), .pointer (some ⟨s + 1, 0, none⟩), .pointer (some ⟨s, 0, none⟩)] W fun e W' =>
      e = .returned (.bool true) ∧ Whole w bm bn s xs (pre ++ [(k, v)]) W' ∧ Law.Keeps 69 W W' := by
  have hless := hr.part hp
  have hpl : pre.length ≤ 999 := by have := hp.length_le; simp at this; omega
  have HE : Hid (Law.putK OmapS.lt k v pre = pre ++ [(k, v)]) := Law.putK_end OmapS.tri hless
  have HR2 := Lib.hid (hr.prefix hp)
  obtain ⟨p, ip, tp, rp⟩ := hJ.n
  have c0 : W.cell? ⟨bn, 0, none⟩ = some (.pointer p) := ip.cell' rfl
  have HT := Lib.hid tp
  have HR := Lib.hid rp
  have HJ := Lib.hid hJ
  have HL := Lib.hid hless
  clear tp rp hless hJ hp hr
  go_enter Try.func24, Try.ntmps24
  go_wp2_with fail
  refine (OmapS.withM k v HT.out (Nat.le_refl _) HR.out hpl).mono ?_
  rintro e w2 ⟨p2, rfl, t2, b2⟩
  rw [HE.out] at t2
  have i2 := ip.below b2 ip.lt
  have M2 := HJ.out.m.below b2
  have L2 := HJ.out.last.below b2 HJ.out.last.lt
  have F2 := HJ.out.first.below b2 HJ.out.first.lt
  have R2 := HJ.out.rises.below b2 HJ.out.rises.lt
  have B2 := HJ.out.bel.trans (b2.mono HJ.out.bel.size)
  have n1 : bn ≠ s := i2.type_ne L2 (by decide)
  have n2 : bn ≠ s + 1 := i2.type_ne F2 (by decide)
  have n3 : bn ≠ s + 2 := i2.type_ne R2 (by decide)
  have m1 : bm ≠ s := by obtain ⟨_, i, _⟩ := M2; exact i.type_ne L2 (by decide)
  have m2 : bm ≠ s + 1 := by obtain ⟨_, i, _⟩ := M2; exact i.type_ne F2 (by decide)
  have m3 : bm ≠ s + 2 := by obtain ⟨_, i, _⟩ := M2; exact i.type_ne R2 (by decide)
  have cn : w2.cell? ⟨bn, 0, none⟩ = some (.pointer p) := i2.cell' rfl
  have fn := i2.frozen 0
  have ln := i2.lt
  have cl : w2.cell? ⟨s, 0, none⟩ = some (.string (lastK pre)) := L2.cell' rfl
  have fl := L2.frozen 0
  have ll := L2.lt
  have cf : w2.cell? ⟨s + 1, 0, none⟩ = some (.bool pre.isEmpty) := F2.cell' rfl
  have ff := F2.frozen 0
  have lf := F2.lt
  have cr : w2.cell? ⟨s + 2, 0, none⟩ = some (.bool true) := R2.cell' rfl
  have fr := R2.frozen 0
  have lr := R2.lt
  -- the four stores, one by one
  have v1 : Var (w2.setCell ⟨bn, 0, none⟩ (.pointer p2)) bn (pre ++ [(k, v)]) := Var.of i2 t2 HR2.out
  have vm1 : Var (w2.setCell ⟨bn, 0, none⟩ (.pointer p2)) bm xs := M2.far i2 (by decide) hmn _
  have k1 : Law.Keeps 69 W (w2.setCell ⟨bn, 0, none⟩ (.pointer p2)) := (Law.Keeps.of_below b2).trans (Law.Keeps.store i2 (by decide) _)
  have l1 := L2.far (p := ⟨bn, 0, none⟩) n1.symm (.pointer p2)
  have f1 := F2.far (p := ⟨bn, 0, none⟩) n2.symm (.pointer p2)
  have r1 := R2.far (p := ⟨bn, 0, none⟩) n3.symm (.pointer p2)
  have b1 := B2.setCell (p := ⟨bn, 0, none⟩) hwn (.pointer p2)
  have HF : Hid (Whole w bm bn s xs (pre ++ [(k, v)]) ((((w2.setCell ⟨bn, 0, none⟩ (.pointer p2)).setCell ⟨s + 2, 0, none⟩ (.bool true)).setCell ⟨s, 0, none⟩ (.string k)).setCell ⟨s + 1, 0, none⟩ (.bool false)) ∧
      Law.Keeps 69 W ((((w2.setCell ⟨bn, 0, none⟩ (.pointer p2)).setCell ⟨s + 2, 0, none⟩ (.bool true)).setCell ⟨s, 0, none⟩ (.string k)).setCell ⟨s + 1, 0, none⟩ (.bool false))) := by
    generalize w2.setCell ⟨bn, 0, none⟩ (.pointer p2) = u1 at *
    have v2 := v1.far (i := 0) r1 (by decide) n3 (.bool true)
    have vm2 := vm1.far (i := 0) r1 (by decide) m3 (.bool true)
    have k2 := k1.trans (Law.Keeps.store (i := 0) r1 (by decide) (.bool true))
    have l2 := l1.far (p := ⟨s + 2, 0, none⟩) (by simp) (.bool true)
    have f2 := f1.far (p := ⟨s + 2, 0, none⟩) (by simp) (.bool true)
    have r2 : Law.Is (u1.setCell ⟨s + 2, 0, none⟩ (.bool true)) (s + 2) 4 #[.bool true] := r1.set 0 _ rfl
    have b2' := b1.setCell (p := ⟨s + 2, 0, none⟩) (by show _ ≤ s + 2; omega) (.bool true)
    generalize u1.setCell ⟨s + 2, 0, none⟩ (.bool true) = u2 at *
    have v3 := v2.far (i := 0) l2 (by decide) n1 (.string k)
    have vm3 := vm2.far (i := 0) l2 (by decide) m1 (.string k)
    have k3 := k2.trans (Law.Keeps.store (i := 0) l2 (by decide) (.string k))
    have l3 : Law.Is (u2.setCell ⟨s, 0, none⟩ (.string k)) s 9 #[.string (lastK (pre ++ [(k, v)]))] := by rw [lastK_snoc]; exact l2.set 0 _ rfl
    have f3 := f2.far (p := ⟨s, 0, none⟩) (by simp) (.string k)
    have r3 := r2.far (p := ⟨s, 0, none⟩) (by simp) (.string k)
    have b3 := b2'.setCell (p := ⟨s, 0, none⟩) hws (.string k)
    generalize u2.setCell ⟨s, 0, none⟩ (.string k) = u3 at *
    exact ⟨⟨vm3.far (i := 0) f3 (by decide) m2 _, v3.far (i := 0) f3 (by decide) n2 _, l3.far (p := ⟨s + 1, 0, none⟩) (by simp) _, by have : Law.Is (u3.setCell ⟨s + 1, 0, none⟩ (.bool false)) (s + 1) 4 #[.bool false] := f3.set 0 _ rfl; rwa [show (pre ++ [(k, v)]).isEmpty = false by cases pre <;> rfl],
      r3.far (p := ⟨s + 1, 0, none⟩) (by simp) _, b3.setCell (p := ⟨s + 1, 0, none⟩) (by show _ ≤ s + 1; omega) _⟩, k3.trans (Law.Keeps.store (i := 0) f3 (by decide) _)⟩
  clear v1 vm1 k1 l1 f1 r1 b1 i2 t2 b2 M2 L2 F2 R2 B2 HT HR HJ HE HR2
  by_cases hn : pre = []
  · have e1 : pre.isEmpty = true := by simpa using hn
    rw [e1] at cf
    clear hn HL
    go_wp2_with fail
    go_ret
    exact ⟨rfl, HF.out⟩
  · have e1 : pre.isEmpty = false := by simpa using hn
    rw [e1] at cf
    have hlt := lastK_less HL.out hn
    clear hn HL
    generalize lastK pre = la at *
    rcases OmapS.cmp k la with ⟨h, _⟩ | ⟨h, _⟩ | ⟨_, d1, d2, _⟩
    · exact absurd h (OmapS.tri.asym hlt)
    · exact absurd h.symm (OmapS.tri.ne hlt)
    · clear hlt
      go_wp2_with fail
      go_ret
      exact ⟨rfl, HF.out⟩

/-- between two rounds of OmapWhole's second function -/
structure Good (w : World) (bm g : Nat) (xs : List (ByteArray × Int)) (W : World) : Prop where
  m : Var W bm xs
  good : Law.Is W g 4 #[.bool true]
  bel : Below w.heap.size w W

set_option maxHeartbeats 1600000 in
theorem whole2 (w : World) (bm g : Nat) (xs pre : List (ByteArray × Int)) (k : ByteArray) (v : Int) (W : World) (hJ : Good w bm g xs W) (hp : pre ++ [(k, v)] <+: xs) (hg : w.heap.size ≤ g) :
    Calls Try.prog 25 #[.string k, .int .i64 v, .pointer (some ⟨bm, 0, none⟩), .pointer (some ⟨g, 0, none⟩)] W fun e W' =>
      e = .returned (.bool true) ∧ Good w bm g xs W' ∧ Law.Keeps 69 W W' := by
  obtain ⟨p, ip, tp, rp⟩ := hJ.m
  have hG : Law.getK k xs = some v := Law.getK_mem OmapS.tri rp (hp.mem (by simp))
  have HG := Lib.hid hG
  have c0 : W.cell? ⟨bm, 0, none⟩ = some (.pointer p) := ip.cell' rfl
  have HT := Lib.hid tp
  have HR := Lib.hid rp
  have HJ := Lib.hid hJ
  clear tp rp hJ hp hG
  go_enter Try.func25, Try.ntmps25
  go_wp2_with fail
  refine (OmapS.get k HT.out (Nat.le_refl _) HR.out).mono ?_
  rintro e w2 ⟨rfl, b2⟩
  rw [HG.out]
  have G2 := HJ.out.good.below b2 HJ.out.good.lt
  have M2 := HJ.out.m.below b2
  have cg : w2.cell? ⟨g, 0, none⟩ = some (.bool true) := G2.cell' rfl
  have fg := G2.frozen 0
  have lg := G2.lt
  have n1 : bm ≠ g := by obtain ⟨_, i, _⟩ := M2; exact i.type_ne G2 (by decide)
  have HF : Hid (Good w bm g xs (w2.setCell ⟨g, 0, none⟩ (.bool true)) ∧ Law.Keeps 69 W (w2.setCell ⟨g, 0, none⟩ (.bool true))) :=
    ⟨⟨M2.far (i := 0) G2 (by decide) n1 _, G2.set 0 _ rfl, (HJ.out.bel.trans (b2.mono HJ.out.bel.size)).setCell (p := ⟨g, 0, none⟩) hg _⟩, (Law.Keeps.of_below b2).trans (Law.Keeps.store (i := 0) G2 (by decide) _)⟩
  clear G2 M2 HJ HT HR HG b2
  go_wp2_with fail
  go_ret
  exact ⟨rfl, HF.out⟩
end Omap
end Go.Proofs.Ytekkddejgkmofaa

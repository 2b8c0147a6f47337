/-
  What slices.Insert and slices.Delete come to at sessions.
-/
import Derived.Test.YtdkjcheannehhaaGreatSess01
import Derived.WalkKit
import Derived.Lib.AppendZeros
namespace Go.Law
open Go.RowKit
theorem inserted {cur : List Value} {zs : List Sn} {s : Sn} {i : Nat} (hi : i < zs.length) (ht : cur.take (i * 4) = flatS (zs.take i)) :
    (splice (splice cur (i * 4) (cellsS s)) ((i + 1) * 4) (flatS (zs.drop i))).take ((zs.length + 1) * 4) = flatS (zs.take i ++ s :: zs.drop i) := by
  have hc : (cellsS s).length = 4 := rfl
  have hf : (flatS (zs.take i)).length = i * 4 := by rw [flatS_length, List.length_take]; omega
  have hd : (flatS (zs.drop i)).length = (zs.length - i) * 4 := by rw [flatS_length, List.length_drop]
  have e1 : splice cur (i * 4) (cellsS s) = (flatS (zs.take i) ++ cellsS s) ++ cur.drop (i * 4 + 4) := by unfold splice; rw [ht, hc, List.append_assoc]
  have e2 : (splice cur (i * 4) (cellsS s)).take ((i + 1) * 4) = flatS (zs.take i) ++ cellsS s := by
    rw [e1, List.take_append_of_le_length (by rw [List.length_append, hf, hc]; omega), List.take_of_length_le (by rw [List.length_append, hf, hc]; omega)]
  rw [splice, e2, ← List.append_assoc, List.take_append_of_le_length (by simp only [List.length_append, hf, hc, hd]; omega), List.take_of_length_le (by simp only [List.length_append, hf, hc, hd]; omega), flatS_app, List.append_assoc]
  rfl
theorem deleted {zs : List Sn} {i r : Nat} (z : List Value) (hl : zs.length = i + 1 + r) :
    (splice (splice (flatS zs) (i * 4) (flatS (zs.drop (i + 1)))) ((i + r) * 4) z).take ((i + r) * 4) = flatS (zs.take i ++ zs.drop (i + 1)) := by
  have hf : (flatS (zs.take i)).length = i * 4 := by rw [flatS_length, List.length_take]; omega
  have hd : (flatS (zs.drop (i + 1))).length = r * 4 := by rw [flatS_length, List.length_drop]; omega
  have e1 : (splice (flatS zs) (i * 4) (flatS (zs.drop (i + 1)))).take ((i + r) * 4) = flatS (zs.take i) ++ flatS (zs.drop (i + 1)) := by
    unfold splice
    rw [← flatS_take, ← List.append_assoc, List.take_append_of_le_length (by rw [List.length_append, hf, hd]; omega), List.take_of_length_le (by rw [List.length_append, hf, hd]; omega)]
  rw [splice, e1, List.take_append_of_le_length (by rw [List.length_append, hf, hd]; omega), List.take_of_length_le (by rw [List.length_append, hf, hd]; omega), flatS_app]
end Go.Law
namespace Go.Proofs.YtdkjcheannehhaaGreat
open Go.RowKit
namespace Sess
open Go.Law

set_option maxRecDepth 100000 in
set_option maxHeartbeats 1600000 in
theorem insertEnd (zs : List Sn) (s : Sn) (g p : Nat) (w : World) (hg : Is w g 143 (flatS zs).toArray) (hp : Is w p 143 (cellsS s).toArray) (hl : zs.length ≤ 1000) :
    Calls Tryz.prog 135 #[.slice (some ⟨g, 0, none⟩) zs.length zs.length, .int .i64 (zs.length : Int), .slice (some ⟨p, 0, none⟩) 1 1] w (Listed w w.heap.size (zs ++ [s])) := by
  obtain ⟨i0, hE⟩ := elem
  have hc4 : (cellsS s).length = 4 := rfl
  obtain ⟨W1, G, hr, hR, b1⟩ : ∃ (W1 : World) (G : Nat), (∀ ty, (Builtin.append_ #[110, 110] ty #[.slice (some ⟨g, 0, none⟩) zs.length zs.length, .slice (some ⟨p, 0, none⟩) 1 1]).run Tryz.prog w = .ok (.slice (some ⟨w.heap.size, 0, none⟩) (zs.length + 1) G) W1) ∧
      W1.ownsRow w.heap.size 143 4 (.slice (some ⟨w.heap.size, 0, none⟩) (zs ++ [s]).length G) (zs ++ [s]).length (flatS (zs ++ [s])) ∧ Below w.heap.size w W1 := by
    have hge := grownCap_ge w (zs.length + 1) zs.length 143
    refine ⟨_, _, fun ty => run_append_grow (P := Tryz.prog) w 110 ty 143 i0 _ hE.ut hE.info hE.zero ⟨g, 0, none⟩ zs.length zs.length (flatS zs) (by rw [hE.sz, flatS_length]) (hg.seqS.adds rfl) ⟨p, 0, none⟩ 1 1 (cellsS s) (by rw [hE.sz]; rfl) (hp.seqS.adds rfl) (by omega) (by omega) (by rw [hE.by_]; exact growslice_fits (by omega) (by omega)), ?_, (Below.refl _ w).drew.alloc (Nat.le_refl _) _⟩
    refine row_of (cur := ((flatS zs).toArray ++ (cellsS s).toArray ++ Builtin.zeroCells (Value.agg #[.int .i64 0, .int .i64 0, .int .i64 0, .int .u64 0]).cells (grownCap w (zs.length + 1) zs.length 143 - (zs.length + 1))).toList) (heap_alloc_new w.drew _) (Nat.le_refl _) (by simpa using hge) (grownCap_le_maxLen _ _ _ _ (by unfold maxLen; omega)) ?_ ?_
    · rw [Array.length_toList, Array.size_append, Array.size_append, size_zeroCells, List.size_toArray, List.size_toArray, flatS_length, hc4]
      generalize grownCap w (zs.length + 1) zs.length 143 = G at *
      simp [Value.cells]
      omega
    · simp only [Array.toList_append, List.length_append, List.length_cons, List.length_nil]
      rw [List.take_append_of_le_length (by simp [flatS_length, hc4]; omega), List.take_of_length_le (by simp [flatS_length, hc4]; omega), flatS_snoc]
  have HR := Lib.hid hR
  have HB := Lib.hid b1
  clear hE hg hp hR b1
  go_enter Tryz.func135, Tryz.ntmps135
  go_wp2_with (at_builtin; refine Lib.wpList_append_run _ rfl _ _ _ _ rfl _ _ rfl rfl _ _ (hr _) ?_)
  go_ret
  exact ⟨some ⟨w.heap.size, 0, none⟩, G, by simp, HR.out, HB.out⟩

set_option maxRecDepth 100000 in
set_option maxHeartbeats 1600000 in
theorem insertIn (zs : List Sn) (s : Sn) (i g p : Nat) (w : World) (hg : Is w g 143 (flatS zs).toArray) (hp : Is w p 143 (cellsS s).toArray) (hl : zs.length ≤ 1000) (hi : i < zs.length) :
    Calls Tryz.prog 135 #[.slice (some ⟨g, 0, none⟩) zs.length zs.length, .int .i64 (i : Int), .slice (some ⟨p, 0, none⟩) 1 1] w (Listed w w.heap.size (zs.take i ++ s :: zs.drop i)) := by
  obtain ⟨i0, hE⟩ := elem
  have HE := Lib.hid hE
  have HG := Lib.hid hg
  have HP := Lib.hid hp
  have lg := hg.lt
  have lp := hp.lt
  have hold : (Builtin.firstCells i0.size i (.slice (some ⟨g, 0, none⟩) i zs.length)).run Tryz.prog w.drew = .ok (flatS (zs.take i)).toArray w.drew := by
    rw [hE.sz]
    refine run_firstCells_some w.drew 4 i ⟨g, 0, none⟩ i zs.length (flatS (zs.take i)) (by rw [flatS_length, List.length_take]; omega) (fun j v hj => ?_)
    have h1 : Seq w.drew g (g + 1) (some ⟨g, 0, none⟩) (flatS zs) := hg.drew.seqS
    refine h1.adds rfl j v ?_
    rw [flatS_take, List.getElem?_take] at hj
    split at hj
    · exact hj
    · cases hj
  have hik : i + (zs.length + 1 - i) = zs.length + 1 := by omega
  have hkk : (zs.length : Int) + 1 - (i : Int) = ((zs.length + 1 - i : Nat) : Int) := by omega
  have hrz : ∀ ty, (Builtin.append_ #[110, 3] ty #[.slice (some ⟨g, 0, none⟩) i zs.length, .int .i64 ((zs.length : Int) + 1 - (i : Int))]).run Tryz.prog w =
      .ok (.slice (some ⟨w.heap.size, 0, none⟩) (zs.length + 1) (grownCap w (zs.length + 1) zs.length 143)) (w.drew.alloc (.cells ((flatS (zs.take i)).toArray ++ Builtin.zeroCells (Value.agg #[.int .i64 0, .int .i64 0, .int .i64 0, .int .u64 0]).cells (zs.length + 1 - i) ++ Builtin.zeroCells (Value.agg #[.int .i64 0, .int .i64 0, .int .i64 0, .int .u64 0]).cells (grownCap w (zs.length + 1) zs.length 143 - (zs.length + 1))) 143)) := fun ty => by
    have h := Lib.run_append_grow_zeros w 110 3 ty 143 i0 _ .i64 .i64 HE.out.ut Tryz.underlying3 HE.out.info HE.out.zero (some ⟨g, 0, none⟩) i zs.length (flatS (zs.take i)) hold (zs.length + 1 - i) (by omega) (by rw [HE.out.sz]; omega) (by omega) (by omega) (by rw [HE.out.by_]; omega) (by rw [HE.out.by_, hik]; exact growslice_fits (by omega) (by omega))
    rw [hik] at h
    rw [hkk]
    exact h
  obtain ⟨W1, G, cur, hrz', hgc, hcm, h1, hcl, hct, b1⟩ : ∃ (W1 : World) (G : Nat) (cur : List Value), (∀ ty, (Builtin.append_ #[110, 3] ty #[.slice (some ⟨g, 0, none⟩) i zs.length, .int .i64 ((zs.length : Int) + 1 - (i : Int))]).run Tryz.prog w = .ok (.slice (some ⟨w.heap.size, 0, none⟩) (zs.length + 1) G) W1) ∧
      zs.length + 1 ≤ G ∧ G ≤ maxLen ∧ Is W1 w.heap.size 143 cur.toArray ∧ cur.length = G * 4 ∧ cur.take (i * 4) = flatS (zs.take i) ∧ Below w.heap.size w W1 := by
    have hge := grownCap_ge w (zs.length + 1) zs.length 143
    refine ⟨_, _, ((flatS (zs.take i)).toArray ++ Builtin.zeroCells (Value.agg #[.int .i64 0, .int .i64 0, .int .i64 0, .int .u64 0]).cells (zs.length + 1 - i) ++ Builtin.zeroCells (Value.agg #[.int .i64 0, .int .i64 0, .int .i64 0, .int .u64 0]).cells (grownCap w (zs.length + 1) zs.length 143 - (zs.length + 1))).toList, hrz, hge, grownCap_le_maxLen _ _ _ _ (by unfold maxLen; omega), heap_alloc_new w.drew _, ?_, ?_, (Below.refl _ w).drew.alloc (Nat.le_refl _) _⟩
    · rw [Array.length_toList, Array.size_append, Array.size_append, size_zeroCells, size_zeroCells, List.size_toArray, flatS_length, List.length_take]
      generalize grownCap w (zs.length + 1) zs.length 143 = G at *
      simp [Value.cells]
      omega
    · simp only [Array.toList_append, List.append_assoc]
      rw [List.take_append_of_le_length (by simp [flatS_length]; omega), List.take_of_length_le (by simp [flatS_length]; omega)]
  clear hrz hold hik hkk hg hp hE
  have H1 := Lib.hid h1
  have HCL := Lib.hid hcl
  have HCT := Lib.hid hct
  have HB1 := Lib.hid b1
  have sb1 := b1.size
  have hGi : ¬ (G = i) := by omega
  have hGi2 : ¬ (G = i + 1) := by omega
  have hci : ¬ (zs.length = i) := by omega
  have hin : i ≤ zs.length := by omega
  unfold maxLen at hcm
  clear h1 hcl hct b1
  go_enter Tryz.func135, Tryz.ntmps135
  have HI : Hid ((Tryz.prog.info? 143).map (·.size) = some 4) := by show _ = _; rw [HE.out.info, Option.map_some, HE.out.sz]
  have P1 := Lib.hid ((HP.out.below HB1.out lp).seqS)
  have L1 : Hid (i * 4 + (cellsS s).length ≤ cur.length) := by show _ ≤ _; rw [HCL.out]; simp [cellsS]; omega
  go_wp2_with (first
    | (at_builtin; refine Lib.wpList_append_run _ rfl _ _ _ _ rfl _ _ rfl rfl _ _ (hrz' _) ?_)
    | (refine Law.wpList_copy_any _ rfl (.tmp 43) (.tmp 44) (size := 4) (cs := cellsS s) (o := i * 4) rfl rfl rfl HE.out.ut HI.out H1.out ?_ P1.out L1.out (four_one _) ?_))
  · simp only [cellsS, List.length_cons, List.length_nil, Nat.min_def]; rw [if_pos (by omega)]
  intro w2 hi2 ht2
  have HB2 := Lib.hid (ht2.below HB1.out (Nat.le_refl _))
  have H2 := Lib.hid hi2
  have HG2 := Lib.hid (HG.out.below HB2.out lg)
  have S2 : Hid (Seq w2.drew g (g + 1) (some ⟨g, i * 4, none⟩) (flatS (zs.drop i))) := fun _ =>
    ⟨g, i * 4, rfl, Nat.le_refl _, Nat.lt_succ_self _, fun j u hu => by
      rw [HG2.out.drew.cell, List.getElem?_toArray]
      rwa [flatS_drop, List.getElem?_drop] at hu⟩
  have L2 : Hid ((i + 1) * 4 + (flatS (zs.drop i)).length ≤ (splice cur (i * 4) (cellsS s)).length) := by
    show _ ≤ _
    rw [length_splice _ _ _ L1.out, HCL.out, flatS_length, List.length_drop]; omega
  have N2 : Hid ((flatS (zs.drop i)).length = Nat.min (zs.length - i) (zs.length - i) * 4) := by
    show _ = _
    rw [flatS_length, List.length_drop]; exact congrArg (· * 4) (Nat.min_self _).symm
  have hw1 : IntKind.i64.wrap ((i : Int) + 1) = (i : Int) + 1 := by rw [IntKind.wrap_i64]; omega
  have hb1 : (0 : Int) ≤ (i : Int) + 1 := by omega
  have htn : ((i : Int) + 1).toNat = i + 1 := by omega
  have hb3 : (i : Int) ≤ (zs.length : Int) := by omega
  have sb2 := HB2.out.size
  clear hi2 ht2
  go_wp2_with fail
  go_region_law (refine Law.step_copy_any _ rfl (.tmp 50) (.tmp 53) (size := 4) (cs := flatS (zs.drop i)) (o := (i + 1) * 4) (g := w.heap.size) (dLen := zs.length - i) (dCap := G - (i + 1)) (A := some ⟨g, i * 4, none⟩) (sLen := zs.length - i) (sCap := zs.length - i) rfl (by simp [Act.eval, Act.put]) (by simp [Act.eval, Act.put]) HE.out.ut HI.out H2.out.drew N2.out S2.out L2.out (flatS_one _) ?_; intro w3 hi3 ht3)
  have HB3 := Lib.hid (ht3.below HB2.out.drew (Nat.le_refl _))
  have HR3 : Hid (Row w3 w.heap.size (.slice (some ⟨w.heap.size, 0, none⟩) (zs.take i ++ s :: zs.drop i).length G) (zs.take i ++ s :: zs.drop i)) := by
    have hlen : (zs.take i ++ s :: zs.drop i).length = zs.length + 1 := by simp; omega
    refine row_of hi3 (by omega) (by omega) (by unfold maxLen; omega) ?_ ?_
    · rw [length_splice _ _ _ L2.out, length_splice _ _ _ L1.out, HCL.out]
    · rw [hlen]; exact inserted hi HCT.out
  clear hi3 ht3
  go_wp2_with fail
  go_ret
  refine ⟨some ⟨w.heap.size, 0, none⟩, G, ?_, HR3.out, HB3.out⟩
  have hlen : (zs.take i ++ s :: zs.drop i).length = zs.length + 1 := by simp; omega
  rw [hlen]; rfl

theorem insert (zs : List Sn) (s : Sn) (i g p : Nat) (w : World) (hg : Is w g 143 (flatS zs).toArray) (hp : Is w p 143 (cellsS s).toArray) (hl : zs.length ≤ 1000) (hi : i ≤ zs.length) :
    Calls Tryz.prog 135 #[.slice (some ⟨g, 0, none⟩) zs.length zs.length, .int .i64 (i : Int), .slice (some ⟨p, 0, none⟩) 1 1] w (Listed w w.heap.size (zs.take i ++ s :: zs.drop i)) := by
  rcases Nat.lt_or_ge i zs.length with h | h
  · exact insertIn zs s i g p w hg hp hl h
  · obtain rfl : i = zs.length := by omega
    rw [List.take_length, List.drop_length]
    exact insertEnd zs s g p w hg hp hl

set_option maxRecDepth 100000 in
set_option maxHeartbeats 1600000 in
theorem delete (zs : List Sn) (i r g base : Nat) (w : World) (hg : Is w g 143 (flatS zs).toArray) (hb : base ≤ g) (hl : zs.length ≤ 1000) (hr : zs.length = i + 1 + r) :
    Calls Tryz.prog 137 #[.slice (some ⟨g, 0, none⟩) (i + 1 + r) (i + 1 + r), .int .i64 (i : Int), .int .i64 ((i : Int) + 1)] w (Listed w base (zs.take i ++ zs.drop (i + 1))) := by
  obtain ⟨i0, hE⟩ := elem
  have HE := Lib.hid hE
  have HG := Lib.hid hg
  have HL := Lib.hid hr
  have lg := hg.lt
  rw [hr] at hl
  have hd : (flatS (zs.drop (i + 1))).length = r * 4 := by rw [flatS_length, List.length_drop]; omega
  have HD := Lib.hid hd
  obtain ⟨A, hA, S2⟩ : ∃ A : Option Addr, (if r = 0 then some (⟨g, 0, none⟩ : Addr) else some ⟨g, (i + 1) * 4, none⟩) = A ∧ Hid (Seq w.drew g (g + 1) A (flatS (zs.drop (i + 1)))) := by
    refine ⟨_, rfl, fun hn => ?_⟩
    have h0 : r ≠ 0 := by intro h; subst h; exact hn (List.eq_nil_of_length_eq_zero (by omega))
    rw [if_neg h0]
    exact ⟨g, (i + 1) * 4, rfl, Nat.le_refl _, Nat.lt_succ_self _, fun j u hu => by
      rw [hg.drew.cell, List.getElem?_toArray]
      rwa [flatS_drop, List.getElem?_drop] at hu⟩
  have hz : ∀ w, (zeroValue 143).run Tryz.prog w = .ok (.agg #[.int .i64 0, .int .i64 0, .int .i64 0, .int .u64 0]) w := fun w => by
    simp [zeroValue, typeInfo, hE.info, hE.zero]
  have HZV := Lib.hid hz
  have hw1 : IntKind.i64.wrap ((i : Int) + 1) = (i : Int) + 1 := by rw [IntKind.wrap_i64]; omega
  have h1r : i + 1 + r - (i + r) = 1 := by omega
  have hb1 : (i : Int) ≤ (i : Int) + 1 + (r : Int) := by omega
  have hb0 : (0 : Int) ≤ (i : Int) + 1 := by omega
  have hb2 : (i : Int) + 1 ≤ (i : Int) + 1 + (r : Int) := by omega
  have hb3 : (i : Int) + (r : Int) ≤ (i : Int) + 1 + (r : Int) := by omega
  have hne : ¬ (i + 1 + r = i + r) := by omega
  have htn : ((i : Int) + 1).toNat = i + 1 := by omega
  clear hE hg hr hd hz
  go_enter Tryz.func137, Tryz.ntmps137
  go_wp2_with fail
  go_region_law (refine Law.step_append_fits _ rfl (.tmp 22) (.tmp 25) rfl HE.out (g := g) (sLen := i) (sCap := i + 1 + r) (A := A) (m := r) (c := r) (news := flatS (zs.drop (i + 1))) (by simp [Act.eval, Act.put]) (by simp [Act.eval, Act.put]) HG.out.drew HD.out S2.out (flatS_one _) (by omega) (by rw [HD.out, flatS_length, HL.out]; omega) ?_; intro w3 hi3 ht3)
  have L3 : Hid ((i * 4 + (flatS (zs.drop (i + 1))).length) ≤ (flatS zs).length) := by show _ ≤ _; rw [HD.out, flatS_length, HL.out]; omega
  have hcl : ∀ ty, (Builtin.clear_ #[110] ty #[.slice (some ⟨g, (i + r) * 4, none⟩) 1 1]).run Tryz.prog w3 = .ok (.tuple #[]) (w3.setRow g (splice (splice (flatS zs) (i * 4) (flatS (zs.drop (i + 1)))) ((i + r) * 4) (Builtin.zeroCells (Value.agg #[.int .i64 0, .int .i64 0, .int .i64 0, .int .u64 0]).cells 1).toList).toArray) := fun ty =>
    Law.clear_any w3 (size := 4) HE.out.ut HZV.out rfl (by decide) (by omega) (by omega) hi3 (by rw [length_splice _ _ _ L3.out, flatS_length, HL.out]; omega)
  have L4 : Hid (((i + r) * 4 + (Builtin.zeroCells (Value.agg #[.int .i64 0, .int .i64 0, .int .i64 0, .int .u64 0]).cells 1).toList.length) ≤ (splice (flatS zs) (i * 4) (flatS (zs.drop (i + 1)))).length) := by
    show _ ≤ _
    rw [length_splice _ _ _ L3.out, flatS_length, HL.out, Array.length_toList, size_zeroCells]; simp [Value.cells]; omega
  generalize (Builtin.zeroCells (Value.agg #[.int .i64 0, .int .i64 0, .int .i64 0, .int .u64 0]).cells 1).toList = z at *
  have H4 : Hid (Is (w3.setRow g (splice (splice (flatS zs) (i * 4) (flatS (zs.drop (i + 1)))) ((i + r) * 4) z).toArray) g 143 (splice (splice (flatS zs) (i * 4) (flatS (zs.drop (i + 1)))) ((i + r) * 4) z).toArray) := setRow_heap w3 g _ _ _ _ hi3
  have B4 := Lib.hid ((Turned.setRow w3 g (splice (splice (flatS zs) (i * 4) (flatS (zs.drop (i + 1)))) ((i + r) * 4) z).toArray).below (ht3.below (Below.refl base w).drew hb) hb)
  have D4 : Hid ((splice (splice (flatS zs) (i * 4) (flatS (zs.drop (i + 1)))) ((i + r) * 4) z).take ((i + r) * 4) = flatS (zs.take i ++ zs.drop (i + 1))) := deleted z HL.out
  have L5 : Hid ((splice (splice (flatS zs) (i * 4) (flatS (zs.drop (i + 1)))) ((i + r) * 4) z).length = (i + 1 + r) * 4) := by
    show _ = _
    rw [length_splice _ _ _ L4.out, length_splice _ _ _ L3.out, flatS_length, HL.out]
  clear hi3 ht3
  generalize splice (splice (flatS zs) (i * 4) (flatS (zs.drop (i + 1)))) ((i + r) * 4) z = cur at *
  generalize w3.setRow g cur.toArray = w4 at *
  have HR : Hid ((zs.take i ++ zs.drop (i + 1)).length = i + r) := by show _ = _; have := HL.out; simp; omega
  go_wp2_with fail
  go_ret
  refine ⟨some ⟨g, 0, none⟩, i + 1 + r, by rw [HR.out]; rfl, row_of H4.out hb (by rw [HR.out]; omega) (by unfold maxLen; omega) L5.out (by rw [HR.out]; exact D4.out), B4.out⟩
theorem deleteAt (zs : List Sn) (i g base : Nat) (w : World) (hg : Is w g 143 (flatS zs).toArray) (hb : base ≤ g) (hl : zs.length ≤ 1000) (hi : i < zs.length) :
    Calls Tryz.prog 137 #[.slice (some ⟨g, 0, none⟩) zs.length zs.length, .int .i64 (i : Int), .int .i64 ((i : Int) + 1)] w (Listed w base (zs.take i ++ zs.drop (i + 1))) := by
  have hr : zs.length = i + 1 + (zs.length - (i + 1)) := by omega
  rw [hr]
  exact delete zs i _ g base w hg hb hl hr
end Sess
end Go.Proofs.YtdkjcheannehhaaGreat

/-
  What Users of layer 8's statements comes to: a book, as a list of users.
-/
import Derived.Test.YtjjemdmbhgmiiaaBook03
namespace Go.Law
open Go.RowKit
/-- a user's cells -/
def cellsU (q : ByteArray × EnV) : List Value := [.string q.1, .slice q.2.A q.2.n q.2.c, .int .i64 q.2.st, .int .i64 q.2.pr, .int .i64 q.2.lv]
def flatU (l : List (ByteArray × EnV)) : List Value := l.flatMap cellsU
theorem flatU_one (l : List (ByteArray × EnV)) : ∀ u ∈ flatU l, u.oneCell' = true := by
  intro u hu
  obtain ⟨q, _, hq⟩ := List.mem_flatMap.1 hu
  simp [cellsU] at hq
  rcases hq with rfl | rfl | rfl | rfl | rfl <;> rfl
theorem cellsU_one (q : ByteArray × EnV) : ∀ u ∈ cellsU q, u.oneCell' = true := by
  intro u hq
  simp [cellsU] at hq
  rcases hq with rfl | rfl | rfl | rfl | rfl <;> rfl
theorem flatU_length (l : List (ByteArray × EnV)) : (flatU l).length = l.length * 5 := rows_length (cells := cellsU) (fun _ => rfl) l
theorem flatU_app (xs ys : List (ByteArray × EnV)) : flatU (xs ++ ys) = flatU xs ++ flatU ys := List.flatMap_append
theorem Seq.us {w : World} {lo B : Nat} {A : Option Addr} {l : List (ByteArray × EnV)} {i : Nat} (h : Seq w lo B A (flatU l)) (hi : i < l.length) : ∃ b off, A = some ⟨b, off, none⟩ ∧ lo ≤ b ∧ b < B ∧
    w.cell? ⟨b, off + i * 5, none⟩ = some (.string l[i].1) ∧ w.cell? ⟨b, off + i * 5 + 1, none⟩ = some (.slice l[i].2.A l[i].2.n l[i].2.c) ∧ w.cell? ⟨b, off + i * 5 + 2, none⟩ = some (.int .i64 l[i].2.st) ∧ w.cell? ⟨b, off + i * 5 + 3, none⟩ = some (.int .i64 l[i].2.pr) ∧ w.cell? ⟨b, off + i * 5 + 4, none⟩ = some (.int .i64 l[i].2.lv) := by
  obtain ⟨b, off, hA, h1, h2, hc⟩ := Seq.row (cells := cellsU) (fun _ => rfl) (by decide : 0 < 5) h hi
  exact ⟨b, off, hA, h1, h2, by simpa using hc 0 _ rfl, hc 1 _ rfl, hc 2 _ rfl, hc 3 _ rfl, hc 4 _ rfl⟩
theorem new_five (w : World) (q : ByteArray × EnV) (t : TypeId) {g : Nat} (hg : g = w.heap.size) : ∀ (j : Nat) (u : Value), (cellsU q)[j]? = some u → (w.alloc (.cells #[.string q.1, .slice q.2.A q.2.n q.2.c, .int .i64 q.2.st, .int .i64 q.2.pr, .int .i64 q.2.lv] t)).cell? ((⟨g, 0, none⟩ : Addr).add j) = some u := by
  intro j u hu
  rw [add_plainR]
  simp only [Nat.zero_add]
  refine ((Is.new w t _ hg).cell j).trans ?_
  simpa [cellsU] using hu
end Go.Law
namespace Go.Proofs.Ytjjemdmbhgmiiaa
open Go.RowKit
namespace Bk
open Go.Law Go.Proofs.Ytjjemdmbhgmiiaa.OmapB Door
theorem elemU : ∃ i, Law.Elem Try.prog 28 55 i (.agg #[.string .empty, .slice none 0 0, .int .i64 0, .int .i64 0, .int .i64 0]) 5 64 := Law.Elem.of Try.underlying28 (by kernel_rfl) rfl (by decide)
/-- at A lies a list of users that is this book -/
def UsersAt (w : World) (A : Option Addr) (b : List (ByteArray × En)) : Prop := ∃ xs, Lain 55 w A (flatU xs) ∧ (∀ q ∈ xs, q.2.In 63 w) ∧ mapV EnV.en xs = b
/-- on the way through a book -/
def Gone (w : World) (g : Nat) (pre : List (ByteArray × EnV)) (W : World) : Prop := ∃ v, Is W g 28 #[v] ∧ W.ownsRow w.heap.size 55 5 v pre.length (flatU pre) ∧ Below w.heap.size w W

set_option maxRecDepth 100000 in
set_option maxHeartbeats 4000000 in
theorem users1 (w : World) (g : Nat) (hg : w.heap.size ≤ g) (pre : List (ByteArray × EnV)) (k : ByteArray) (v : EnV) (W : World) (h : Gone w g pre W) (hl : pre.length ≤ 900) :
    Calls Try.prog 39 #[.string k, .agg #[.slice v.A v.n v.c, .int .i64 v.st, .int .i64 v.pr, .int .i64 v.lv], .pointer (some ⟨g, 0, none⟩)] W fun e W' => e = .returned (.bool true) ∧ Gone w g (pre ++ [(k, v)]) W' ∧ Law.Keeps 98 W W' := by
  obtain ⟨u, i1, ho, hB⟩ := h
  obtain ⟨A4, c4, rfl, _⟩ := own_shape ho
  obtain ⟨i0, hE⟩ := elemU
  have HE := Lib.hid hE
  have HI := Lib.hid i1
  have HO := Lib.hid ho
  have HB := Lib.hid hB
  have c1 := i1.cell' (i := 0) rfl
  have f1 := i1.frozen 0
  have l1 := i1.lt
  have s1 := hB.size
  clear i1 ho hB hE
  go_enter Try.func39, Try.ntmps39
  have bx := ((Below.refl W.heap.size W).alloc (Nat.le_refl _) (.cells #[.slice v.A v.n v.c, .int .i64 v.st, .int .i64 v.pr, .int .i64 v.lv] 70)).alloc (by simp) (.cells #[.string k, .slice v.A v.n v.c, .int .i64 v.st, .int .i64 v.pr, .int .i64 v.lv] 55)
  have HU := Lib.hid (Is.new (W.alloc (.cells #[.slice v.A v.n v.c, .int .i64 v.st, .int .i64 v.pr, .int .i64 v.lv] 70)) 55 #[.string k, .slice v.A v.n v.c, .int .i64 v.st, .int .i64 v.pr, .int .i64 v.lv] (g := W.heap.size + 1) (by simp))
  have HO1 := Lib.hid (own_below HO.out bx)
  have HI1 := Lib.hid (HI.out.below bx HI.out.lt)
  have HQ1 := Lib.hid (Lain.is HU.out rfl : Lain 55 ((W.alloc (.cells #[.slice v.A v.n v.c, .int .i64 v.st, .int .i64 v.pr, .int .i64 v.lv] 70)).alloc (.cells #[.string k, .slice v.A v.n v.c, .int .i64 v.st, .int .i64 v.pr, .int .i64 v.lv] 55)) (some ⟨W.heap.size + 1, 0, none⟩) (cellsU (k, v)))
  have HB1 := Lib.hid bx
  clear bx
  go_wp2_with (at_builtin; refine Law.wpList_append_seq _ w.heap.size 28 rfl _ _ rfl HE.out _ _ _ rfl HO1.out 0 _ (some ⟨W.heap.size + 1, 0, none⟩) 1 1 (cellsU (k, v)) rfl rfl HQ1.out.seq (cellsU_one _) (by unfold maxLen; omega) (by omega) (by simp; omega) ?_; intro v' w7 hown7 hgrow7; have i7 := HI1.out.grown hgrow7 (own_ne HO1.out HI1.out (by decide)); have c7 := i7.cell' (i := 0) rfl; have f7 := i7.frozen 0; have l7 := i7.lt; obtain ⟨A7, d7, rfl, _⟩ := own_shape hown7)
  have i8 := i7.set 0 (.slice A7 (pre.length + 1) d7) rfl
  have jo := hown7.kept (grownBy_setCell' w7 g (.slice A7 (pre.length + 1) d7)) (.inr (own_ne hown7 i7 (by decide)))
  have jb : Below w.heap.size w (w7.setCell ⟨g, 0, none⟩ (.slice A7 (pre.length + 1) d7)) := ((HB.out.trans (HB1.out.mono s1)).grown hgrow7 (by simp; omega) (fun g hg => (HO1.out.lt g hg).1)).setCell (p := ⟨g, 0, none⟩) hg _
  have jk : Law.Keeps 98 W (w7.setCell ⟨g, 0, none⟩ (.slice A7 (pre.length + 1) d7)) := ((Keeps.of_below HB1.out).trans (Keeps.grown HO1.out hgrow7 (by decide))).trans (Keeps.store (i := 0) i7 (by decide) _)
  have HZ : Hid (Gone w g (pre ++ [(k, v)]) (w7.setCell ⟨g, 0, none⟩ (.slice A7 (pre.length + 1) d7)) ∧ Law.Keeps 98 W (w7.setCell ⟨g, 0, none⟩ (.slice A7 (pre.length + 1) d7))) := ⟨⟨_, i8, by simpa [flatU_app, flatU] using jo, jb⟩, jk⟩
  clear i8 jo jb jk i7 hown7 hgrow7 c7 f7 l7
  generalize w7.setCell ⟨g, 0, none⟩ (.slice A7 (pre.length + 1) d7) = w8 at *
  go_ret
  exact ⟨rfl, HZ.out⟩

set_option maxRecDepth 100000 in
set_option maxHeartbeats 4000000 in
theorem users {w : World} {p : Option Addr} {b : List (ByteArray × En)} (h : Booked w p b) (hl : b.length ≤ 900) :
    Calls Try.prog 17 #[M p] w fun e w' => ∃ A c, e = .returned (.slice A b.length c) ∧ UsersAt w' A b ∧ Below w.heap.size w w' := by
  obtain ⟨xs, hx, hin, hb⟩ := h
  have hxl : xs.length = b.length := by rw [← hb, mapV_length]
  have HX := Lib.hid hx
  have HIN := Lib.hid hin
  have HBE := Lib.hid hb
  have HXL := Lib.hid hxl
  have HB := Lib.hid (Below.refl w.heap.size w)
  have hxl9 : xs.length ≤ 900 := by omega
  clear hx hin hb hxl
  go_enter Try.func17, Try.ntmps17
  go_wp2_with fail
  refine (all _ p).mono ?_
  rintro e w' ⟨rfl, rfl⟩
  simp only [World.size_alloc]
  have bx := ((((Below.refl w.heap.size w).alloc (Nat.le_refl _) (.cells #[.pointer p] 27)).alloc (by simp only [World.size_alloc]; omega) (.cells #[.slice none 0 0] 28)).alloc (by simp only [World.size_alloc]; omega) (.cells #[.pointer p] 27))
  have HI0 := Lib.hid (((Is.new w 27 #[.pointer p] rfl).alloc (.cells #[.slice none 0 0] 28)).alloc (.cells #[.pointer p] 27))
  have HI1 := Lib.hid ((Is.new (w.alloc (.cells #[.pointer p] 27)) 28 #[.slice none 0 0] (g := w.heap.size + 1) (by simp only [World.size_alloc])).alloc (.cells #[.pointer p] 27))
  have HI2 := Lib.hid (Is.new ((w.alloc (.cells #[.pointer p] 27)).alloc (.cells #[.slice none 0 0] 28)) 27 #[.pointer p] (g := w.heap.size + 1 + 1) (by simp only [World.size_alloc]))
  replace HB := Lib.hid (HB.out.trans (bx.mono HB.out.size))
  generalize (((w.alloc (.cells #[.pointer p] 27)).alloc (.cells #[.slice none 0 0] 28)).alloc (.cells #[.pointer p] 27)) = W0 at *
  clear bx
  have HX0 := Lib.hid (HX.out.under HB.out)
  have c2 := HI2.out.cell' (i := 0) rfl
  go_wp2_with fail
  refine (each 39 #[.pointer (some ⟨w.heap.size + 1, 0, none⟩)] (enters_of Try.func39 (by kernel_rfl) rfl) (Gone w (w.heap.size + 1)) (fun _ => true) w.heap.size xs
    (fun pre k v W hj hp => users1 w (w.heap.size + 1) (by omega) pre k v W hj (by have := hp.length_le; simp at this; omega))
    (fun pre W n ⟨v, h1, h2, h3⟩ => ⟨v, h1.drewN n, own_drewN h2 n, below_drewN h3 n⟩) W0 (w.heap.size + 1 + 1) p c2 HX0.out ⟨_, HI1.out, World.ownsRow_nil _ _ _ _, HB.out⟩).mono ?_
  rintro e W ⟨⟨v0, rfl⟩, hj, _⟩
  rw [Law.runW_true (fun _ => rfl)] at hj
  obtain ⟨v, i1, ho, hB⟩ := hj
  obtain ⟨A4, c4, rfl, _⟩ := own_shape ho
  have c1 := i1.cell' (i := 0) rfl
  have l1 := i1.lt
  have HZ : Hid (UsersAt W A4 b ∧ Below w.heap.size w W) := ⟨⟨xs, Lain.own ho, fun q hq => (HIN.out q hq).keeps (Keeps.of_below hB), HBE.out⟩, hB⟩
  clear i1 ho hB HX0 c2 HI0 HI1 HI2 HB
  go_wp2_with fail
  go_ret
  exact ⟨A4, c4, by rw [HXL.out]; rfl, HZ.out⟩
end Bk
end Go.Proofs.Ytjjemdmbhgmiiaa

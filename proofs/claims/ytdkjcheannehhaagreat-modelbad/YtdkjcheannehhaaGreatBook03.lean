/-
  What Stored, Sweep and Same of layer 8 (book) come to: ranges over a book.
-/
import Derived.Test.YtdkjcheannehhaaGreatBook02
import Derived.Test.YtdkjcheannehhaaGreatRoundHeld
import Derived.RangeFuncBox
namespace Go.Law
open Go.RowKit Go.Shelf
theorem Keeps.own_ {t : TypeId} {B : Nat} {W W' : World} {row : Option Nat} (hg : W.grownBy W' row) (hr : ∀ r, row = some r → B ≤ r ∧ ∃ o : Obj, W.heap[r]? = some o ∧ o.isCells = false) : Keeps t W W' :=
  ⟨hg.size, fun {b cs} hi => (hg.block b hi.lt fun e => by
    obtain ⟨_, o, ho, hc⟩ := hr b e.symm
    unfold Is at hi
    rw [hi] at ho
    cases ho
    cases hc).trans hi⟩
end Go.Law
namespace Go.Proofs.YtdkjcheannehhaaGreat
open Go.RowKit Go.Shelf
attribute [local go_sem] Oper.semAt_some
namespace Bk
open Go.Law Go.Proofs.YtdkjcheannehhaaGreat.OmapB Door
theorem Calm.own_ {B : Nat} {W W' : World} {row : Option Nat} (hg : W.grownBy W' row) (hr : ∀ r, row = some r → B ≤ r ∧ ∃ o : Obj, W.heap[r]? = some o ∧ o.isCells = false) : Calm W W' := ⟨Keeps.own_ hg hr, Keeps.own_ hg hr⟩
/-- how many sessions entries have, in all -/
def lenV {xs : List (ByteArray × EnV)} (l : List {x // x ∈ xs}) : Nat := (l.map fun q => q.1.2.n).sum
theorem ownFrom_calm {β : Type} {B : Nat} {I : β → World → Prop} (h : ∀ s W W', I s W → Calm W W' → I s W') : OwnFrom B I := fun s W W' _ hs hg hr => h s W W' hs (Calm.own_ hg hr)

set_option maxRecDepth 100000 in
set_option maxHeartbeats 4000000 in
theorem stored_in (n : Nat) (hn : 4 ≤ n) {w : World} {p : Option Addr} {b : List (ByteArray × En)} (h : Booked w p b) (hl : b.length ≤ 900) (hm : ∀ q ∈ b, q.2.1.length ≤ 900) :
    CallsIn Fence.wide n Tryz.prog 53 #[M p] w fun e w' => e = .returned (.int .i64 (storedB b : Int)) ∧ Below w.heap.size w w' := by
  have hF : ∀ f, Fence.wide.fn f := fun _ => trivial
  have hro : Fence.wide.round = none := rfl
  have h1 : 1 ≤ n := by omega
  obtain ⟨xs, hx, hin, hb⟩ := h
  have HX := Lib.hid hx
  have hxl : xs.length ≤ 900 := by rw [← hb, mapV_length] at hl; exact hl
  have HXM : Hid (∀ q ∈ xs, q.2.n ≤ 900) := fun q hq => by
    rw [(hin q hq).1]
    exact hm (q.1, q.2.en) (by rw [← hb]; exact List.mem_map.2 ⟨q, hq, rfl⟩)
  have HSB : Hid (storedB b = (xs.map fun q => q.2.n).sum) := by
    show _ = _
    rw [← hb]
    unfold storedB mapV
    rw [List.map_map]
    congr 1
    exact List.map_congr_left fun q hq => (hin q hq).1.symm
  have HB := Lib.hid (Below.refl w.heap.size w)
  clear hx hin hb hl hm
  refine callsIn_of_wp_marks Tryz.func53 rfl (hF _) ?_ hro
  simp only [Tryz.ntmps53, List.size_toArray, List.length_cons, List.length_nil, Nat.reduceAdd, Nat.reduceSub, Array.replicate_succ, Array.replicate_zero, List.push_toArray, List.append_toArray, List.nil_append, List.cons_append]
  gi_wp2
  refine (all_in Fence.wide (n - 1) hF hro _ p).mono ?_
  rintro e w' ⟨rfl, rfl⟩
  simp only [World.size_alloc]
  have bx := ((((Below.refl w.heap.size w).alloc (Nat.le_refl _) (.cells #[.pointer p] 77)).alloc (by simp only [World.size_alloc]; omega) (.cells #[.int .i64 0] 3)).alloc (by simp only [World.size_alloc]; omega) (.cells #[.pointer p] 77))
  have HI0 := Lib.hid (((Is.new w 77 #[.pointer p] rfl).alloc (.cells #[.int .i64 0] 3)).alloc (.cells #[.pointer p] 77))
  have HI1 := Lib.hid ((Is.new (w.alloc (.cells #[.pointer p] 77)) 3 #[.int .i64 0] (g := w.heap.size + 1) (by simp only [World.size_alloc])).alloc (.cells #[.pointer p] 77))
  have HI2 := Lib.hid (Is.new ((w.alloc (.cells #[.pointer p] 77)).alloc (.cells #[.int .i64 0] 3)) 77 #[.pointer p] (g := w.heap.size + 1 + 1) (by simp only [World.size_alloc]))
  replace HB := Lib.hid (HB.out.trans (bx.mono HB.out.size))
  generalize (((w.alloc (.cells #[.pointer p] 77)).alloc (.cells #[.int .i64 0] 3)).alloc (.cells #[.pointer p] 77)) = W0 at *
  clear bx
  have l2 := HI2.out.lt
  have HX0 := Lib.hid (HX.out.under HB.out)
  gi_wp2
  refine wpIn_rangeFunc_ownH hro h1 (gf := 102) (lb := #[.pointer (some ⟨w.heap.size + 1 + 1, 0, none⟩)]) rfl (hF _) (enters_of Tryz.func102 (by kernel_rfl) rfl)
    (all_stops Fence.wide rfl (n - 1) hF hro (w.heap.size + 1 + 1) w.heap.size p xs W0 l2 (by omega) (HI2.out.cell' rfl) HX0.out) belowK_t (belowK_b (by omega)) (Below.refl _ _) (fun _ => rfl)
    (fun pre W => Is W (w.heap.size + 1) 3 #[.int .i64 (lenV pre : Int)] ∧ Below w.heap.size w W ∧ w.heap.size + 2 < W.heap.size)
    (fun _ _ _ => False)
    (OwnFrom.and (ownFrom_is _) (OwnFrom.and (ownFrom_below (Nat.le_refl _) (by omega)) ownFrom_size))
    (fun _ _ _ _ _ hs _ _ => hs)
    ⟨HI1.out, HB.out, by omega⟩
    (fun x a' W => ∃ Bx, w.heap.size + 2 < Bx ∧ Is W Bx 150 #[.slice x.1.2.A x.1.2.n x.1.2.c, .int .i64 x.1.2.st, .int .i64 x.1.2.pr, .int .i64 x.1.2.lv] ∧ a' = { tmps := #[M p, .pointer (some ⟨w.heap.size, 0, none⟩), .int .i64 0, .pointer (some ⟨w.heap.size + 1, 0, none⟩), undef, .pointer (some ⟨Bx, 0, none⟩), .agg #[.pointer p], .func (.func 102) #[] #[.pointer (some ⟨w.heap.size + 1 + 1, 0, none⟩)], .string x.1.1, .agg #[.slice x.1.2.A x.1.2.n x.1.2.c, .int .i64 x.1.2.st, .int .i64 x.1.2.pr, .int .i64 x.1.2.lv], undef, undef, undef, undef, undef, undef], defers := [] })
    (fun x a' _ X Y row hs hg hr => by obtain ⟨Bx, h1, h3, h4⟩ := hs; exact ⟨Bx, h1, ownFrom_is (fun (_ : Unit) => #[.slice x.1.2.A x.1.2.n x.1.2.c, .int .i64 x.1.2.st, .int .i64 x.1.2.pr, .int .i64 x.1.2.lv]) () X Y row h3 hg hr, h4⟩)
    ?assign ?body ?done ?stop
  case assign =>
    rintro l pre x W K ⟨i1, hB, hz⟩ hK
    gi_wp2
    exact hK _ _ ((KeepsOthers.alloc _ _).from _) ((Below.refl _ W).alloc (by omega) _) ⟨i1.alloc _, hB.alloc hB.size _, by simp; omega⟩ ⟨W.heap.size, by omega, Is.new W _ _ rfl, rfl⟩
  case body =>
    rintro l pre x a' W hl ⟨r, hr⟩ ⟨i1, hB, hz⟩ ⟨Bx, hBx, iX, rfl⟩ hlt
    have hxm := HXM.out x.1 x.2
    have hpl : lenV pre ≤ pre.length * 900 := by
      unfold lenV
      clear i1 hlt
      induction pre with
      | nil => simp
      | cons q r ih => have := HXM.out q.1 q.2; simp only [List.map_cons, List.sum_cons, List.length_cons, Nat.add_mul]; omega
    have hps : lenV (pre ++ [x]) = lenV pre + x.1.2.n := by unfold lenV; simp
    have hpb : lenV pre ≤ 810000 := by
      have : pre.length * 900 ≤ 900 * 900 := Nat.mul_le_mul_right 900 (by omega)
      omega
    have HPS := Lib.hid hps
    clear hps hpl
    have c0 := i1.cell' (i := 0) rfl
    have f0 := i1.frozen 0
    have d0 := iX.cell' (i := 0) rfl
    have l1 := i1.lt
    have HII := Lib.hid i1
    have HBW := Lib.hid hB
    clear i1 hB iX hr
    generalize lenV pre = m at *
    generalize x.1.2.n = k at *
    gi_wp2
    refine ⟨(KeepsOthers.setCell W _ _).from _, (Below.refl _ W).setCell (by simp) _, ?_, HBW.out.setCell (by simp) _, by simpa using hz⟩
    rw [HPS.out]
    exact HII.out.set 0 _ (by simp)
  case done =>
    rintro D ys W hD hys ⟨i1, hB, hz⟩ hK
    have HE : Hid (storedB b = lenV ys) := by
      have e := congrArg (fun l => (l.map fun q => q.2.n).sum) hys
      simp only [List.map_map] at e
      exact HSB.out.trans e.symm
    have c0 := i1.cell' (i := 0) rfl
    have l1 := i1.lt
    have HBW := Lib.hid hB
    clear i1 hB hys
    generalize lenV ys = m at *
    gi_wp2
    refine ⟨by simp, .inl ⟨_, _, rfl, run_takeDeferred hK, ?_⟩⟩
    exact ⟨_, results_tmp rfl _ _ _, by rw [HE.out]; rfl, HBW.out.trans (belowK_b (w := w) (Nat.le_refl _) W D _ _ (by omega) hK rfl rfl)⟩
  case stop =>
    rintro D c pre W _ _ h _
    exact h.elim
theorem stored {w : World} {p : Option Addr} {b : List (ByteArray × En)} (h : Booked w p b) (hl : b.length ≤ 900) (hm : ∀ q ∈ b, q.2.1.length ≤ 900) :
    Calls Tryz.prog 53 #[M p] w fun e w' => e = .returned (.int .i64 (storedB b : Int)) ∧ Below w.heap.size w w' :=
  (callsIn_wide (n := 4)).1 (stored_in 4 (Nat.le_refl _) h hl hm)
end Bk
end Go.Proofs.YtdkjcheannehhaaGreat

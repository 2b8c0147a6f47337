/-
  What Next (layer 7) comes to.
-/
import Derived.Test.YtmcbjfmlncellaaAggr02
import Derived.RegionIn
import Derived.BigRegionIn
namespace Go.Law
def lv0 (l : List Sn) : Int := (least l).getD 0
def lvB (l : List Sn) : Bool := (least l).isSome
theorem lv_nil : lv0 [] = 0 ∧ lvB [] = false := ⟨rfl, rfl⟩
theorem lv_yes {l : List Sn} {x : Sn} (h : lvB l = false ∨ x.2.2.2 < lv0 l) : lv0 (l ++ [x]) = x.2.2.2 ∧ lvB (l ++ [x]) = true := by
  unfold lv0 lvB at *
  rw [least_snoc]
  cases h' : least l with
  | none => exact ⟨rfl, rfl⟩
  | some u =>
    rw [h'] at h
    simp at h
    simp [stepN, h]
theorem lv_no {l : List Sn} {x : Sn} (h : lvB l = true) (h2 : ¬ x.2.2.2 < lv0 l) : lv0 (l ++ [x]) = lv0 l ∧ lvB (l ++ [x]) = true := by
  unfold lv0 lvB at *
  rw [least_snoc]
  cases h' : least l with
  | none => rw [h'] at h; cases h
  | some u =>
    rw [h'] at h2
    simp at h2
    simp [stepN]; omega
end Go.Law
namespace Go.Proofs.Ytmcbjfmlncellaa
open Go.RowKit Go.Shelf
attribute [local go_sem] Oper.semAt_some
namespace Aggr
open Go.Law

set_option maxRecDepth 100000 in
set_option maxHeartbeats 4000000 in
theorem next_in (F : Fence) (n : Nat) (hF : ∀ f, F.fn f) (hro : F.round = none) (hn : 4 ≤ n) (now : Int) (zs : List Sn) (A : Option Addr) (c : Nat) (w : World) (hs : Seq w 0 w.heap.size A (flatS zs)) (hl : zs.length ≤ maxLen) :
    CallsIn F n Try.prog 17 #[.slice A zs.length c, .int .u64 now] w fun e w' => e = .returned (.tuple #[.int .u64 (lv0 (live now zs)), .bool (lvB (live now zs))]) ∧ Below w.heap.size w w' := by
  have h1 : 1 ≤ n := by omega
  have HS := Lib.hid hs
  have HLM := Lib.hid hl
  unfold maxLen at hl
  clear hs
  refine callsIn_of_wp_marks Try.func17 rfl (hF _) ?_ hro
  simp only [Try.ntmps17, List.size_toArray, List.length_cons, List.length_nil, Nat.reduceAdd, Nat.reduceSub, Array.replicate_succ, Array.replicate_zero, List.push_toArray, List.append_toArray, List.nil_append, List.cons_append]
  gi_wp2
  refine (living_in F (n - 1) hF hro _ A zs.length c now).mono ?_
  rintro e w' ⟨rfl, rfl⟩
  have I5 := (((Is.new w 23 #[.int .u64 0] rfl).alloc (.cells #[.bool false] 4)).alloc (.cells #[.slice A zs.length c] 22)).alloc (.cells #[.int .u64 now] 23)
  have I6 := ((Is.new (w.alloc (.cells #[.int .u64 0] 23)) 4 #[.bool false] (g := w.heap.size + 1) (by simp)).alloc (.cells #[.slice A zs.length c] 22)).alloc (.cells #[.int .u64 now] 23)
  have I7 := (Is.new ((w.alloc (.cells #[.int .u64 0] 23)).alloc (.cells #[.bool false] 4)) 22 #[.slice A zs.length c] (g := w.heap.size + 1 + 1) (by simp)).alloc (.cells #[.int .u64 now] 23)
  have I8 := Is.new (((w.alloc (.cells #[.int .u64 0] 23)).alloc (.cells #[.bool false] 4)).alloc (.cells #[.slice A zs.length c] 22)) 23 #[.int .u64 now] (g := w.heap.size + 1 + 1 + 1) (by simp)
  have B0 := ((((Below.refl w.heap.size w).alloc (Nat.le_refl _) (.cells #[.int .u64 0] 23)).alloc (by simp) (.cells #[.bool false] 4)).alloc (by simp; omega) (.cells #[.slice A zs.length c] 22)).alloc (by simp; omega) (.cells #[.int .u64 now] 23)
  have hsz : w.heap.size + 4 ≤ ((((w.alloc (.cells #[.int .u64 0] 23)).alloc (.cells #[.bool false] 4)).alloc (.cells #[.slice A zs.length c] 22)).alloc (.cells #[.int .u64 now] 23)).heap.size := by simp
  simp only [World.size_alloc]
  generalize (((w.alloc (.cells #[.int .u64 0] 23)).alloc (.cells #[.bool false] 4)).alloc (.cells #[.slice A zs.length c] 22)).alloc (.cells #[.int .u64 now] 23) = W0 at *
  have HB0 := Lib.hid B0
  have HS0 := Lib.hid (HS.out.below B0)
  clear HS B0
  gi_wp2
  refine wpIn_rangeFunc_ownH hro h1 (gf := 23) (lb := #[.pointer (some ⟨w.heap.size + 1 + 1, 0, none⟩), .pointer (some ⟨w.heap.size + 1 + 1 + 1, 0, none⟩)]) rfl (hF _) (enters_of Try.func23 (by kernel_rfl) rfl)
    (living_stops F (n - 1) hF hro (by omega) (w.heap.size + 1 + 1) (w.heap.size + 1 + 1 + 1) w.heap.size c A now zs HLM.out W0 (by omega) (I7.cell' rfl) (I8.cell' rfl) HS0.out) (fun h k => h.trans k) (stays_b (by omega) (by omega)) (Below.refl _ _) (fun _ => rfl)
    (fun pre W => (Is W w.heap.size 23 #[.int .u64 (lv0 pre)] ∧ Is W (w.heap.size + 1) 4 #[.bool (lvB pre)]) ∧ Below w.heap.size w W ∧ w.heap.size + 3 < W.heap.size)
    (fun _ _ _ => False)
    (OwnFrom.and (OwnFrom.and (ownFrom_is _) (ownFrom_is _)) (OwnFrom.and (ownFrom_below (Nat.le_refl _) (by omega)) ownFrom_size))
    (fun _ _ _ _ _ hs _ _ => hs)
    ⟨⟨I5, I6⟩, HB0.out, by omega⟩
    (fun x a' W => ∃ Bx, w.heap.size + 3 < Bx ∧ Is W Bx 30 #[.int .i64 x.1, .int .i64 x.2.1, .int .i64 x.2.2.1, .int .u64 x.2.2.2] ∧ a' = { tmps := #[.slice A zs.length c, .int .u64 now, undef, undef, .int .u64 0, .bool false, .pointer (some ⟨w.heap.size, 0, none⟩), .pointer (some ⟨w.heap.size + 1, 0, none⟩), .pointer (some ⟨Bx, 0, none⟩), .slice A zs.length c, .int .u64 now, .func (.func 23) #[] #[.pointer (some ⟨w.heap.size + 1 + 1, 0, none⟩), .pointer (some ⟨w.heap.size + 1 + 1 + 1, 0, none⟩)], V x, undef, undef, undef, undef, undef, undef, undef, undef, undef, undef, undef, undef], defers := [] })
    (fun x a' _ X Y row hs hg hr => by obtain ⟨Bx, h1, h3, h4⟩ := hs; exact ⟨Bx, h1, ownFrom_is (fun (_ : Unit) => #[.int .i64 x.1, .int .i64 x.2.1, .int .i64 x.2.2.1, .int .u64 x.2.2.2]) () X Y row h3 hg hr, h4⟩)
    ?assign ?body ?done ?stop
  case assign =>
    rintro l pre ⟨x0, x1, x2, x3⟩ W K ⟨⟨i5, i6⟩, hB, hz⟩ hK
    simp only [V]
    gi_wp2
    exact hK _ _ ((KeepsOthers.alloc _ _).from _) ((Stays.refl _ _ W).alloc (by omega) (by omega) _) ⟨⟨i5.alloc _, i6.alloc _⟩, hB.alloc hB.size _, by simp; omega⟩ ⟨W.heap.size, by omega, Is.new W _ _ rfl, rfl⟩
  case body =>
    rintro l pre ⟨x0, x1, x2, x3⟩ a' W hl ⟨r, hr⟩ ⟨⟨i5, i6⟩, hB, hz⟩ ⟨Bx, hBx, iX, rfl⟩ hlt
    clear HS0 HB0 I5 I6 I7 I8 hr hlt
    have hw : Trip w.heap.size (w.heap.size + 1 + 1 + 1) (w.heap.size + 3) w W W := Trip.refl hB hz
    have HY := Lib.hid (lv_yes (l := pre) (x := (x0, x1, x2, x3)))
    have HN := Lib.hid (lv_no (l := pre) (x := (x0, x1, x2, x3)))
    generalize lv0 pre = u at *
    generalize lvB pre = b at *
    have c50 : W.cell? ⟨w.heap.size, 0, none⟩ = some (.int .u64 u) := i5.cell' rfl
    have f50 := i5.frozen 0
    have c60 : W.cell? ⟨w.heap.size + 1, 0, none⟩ = some (.bool b) := i6.cell' rfl
    have f60 := i6.frozen 0
    have cX3 : W.cell? ⟨Bx, 3, none⟩ = some (.int .u64 x3) := iX.cell' rfl
    have l6 := i6.lt
    have l5 := i5.lt
    have lX := iX.lt
    have IW := Lib.hid (⟨i5, i6, hw⟩ : _ ∧ _ ∧ _)
    clear i5 i6 iX hw hB
    cases b with
    | false =>
      gi_wp2
      obtain ⟨i5, i6, hw⟩ := IW.out
      have hy := HY.out (.inl (by simp))
      have h2 := (hw.store (p := ⟨w.heap.size, 0, none⟩) (Nat.le_refl _) (by simp only; omega) (.int .u64 x3)).store (p := ⟨w.heap.size + 1, 0, none⟩) (by simp only; omega) (by simp only; omega) (.bool true)
      have q5 : Is ((W.setCell ⟨w.heap.size, 0, none⟩ (.int .u64 x3)).setCell ⟨w.heap.size + 1, 0, none⟩ (.bool true)) w.heap.size 23 #[.int .u64 (lv0 (pre ++ [(x0, x1, x2, x3)]))] := by rw [hy.1]; exact (i5.set 0 (.int .u64 x3) rfl).far (p := ⟨w.heap.size + 1, 0, none⟩) (by simp only; omega) _
      have q6 : Is ((W.setCell ⟨w.heap.size, 0, none⟩ (.int .u64 x3)).setCell ⟨w.heap.size + 1, 0, none⟩ (.bool true)) (w.heap.size + 1) 4 #[.bool (lvB (pre ++ [(x0, x1, x2, x3)]))] := by rw [hy.2]; exact (i6.far (p := ⟨w.heap.size, 0, none⟩) (by simp only; omega) _).set 0 (.bool true) rfl
      exact ⟨h2.keeps.from _, h2.stays, ⟨q5, q6⟩, h2.below, h2.size⟩
    | true =>
      by_cases hx : x3 < u
      · have d0 : decide (x3 < u) = true := by simpa using hx
        gi_wp2
        obtain ⟨i5, i6, hw⟩ := IW.out
        have hy := HY.out (.inr hx)
        have h2 := (hw.store (p := ⟨w.heap.size, 0, none⟩) (Nat.le_refl _) (by simp only; omega) (.int .u64 x3)).store (p := ⟨w.heap.size + 1, 0, none⟩) (by simp only; omega) (by simp only; omega) (.bool true)
        have q5 : Is ((W.setCell ⟨w.heap.size, 0, none⟩ (.int .u64 x3)).setCell ⟨w.heap.size + 1, 0, none⟩ (.bool true)) w.heap.size 23 #[.int .u64 (lv0 (pre ++ [(x0, x1, x2, x3)]))] := by rw [hy.1]; exact (i5.set 0 (.int .u64 x3) rfl).far (p := ⟨w.heap.size + 1, 0, none⟩) (by simp only; omega) _
        have q6 : Is ((W.setCell ⟨w.heap.size, 0, none⟩ (.int .u64 x3)).setCell ⟨w.heap.size + 1, 0, none⟩ (.bool true)) (w.heap.size + 1) 4 #[.bool (lvB (pre ++ [(x0, x1, x2, x3)]))] := by rw [hy.2]; exact (i6.far (p := ⟨w.heap.size, 0, none⟩) (by simp only; omega) _).set 0 (.bool true) rfl
        exact ⟨h2.keeps.from _, h2.stays, ⟨q5, q6⟩, h2.below, h2.size⟩
      · have d0 : decide (x3 < u) = false := by simpa using hx
        gi_wp2
        obtain ⟨i5, i6, hw⟩ := IW.out
        have hy := HN.out (by simp) (by omega)
        have q5 : Is W w.heap.size 23 #[.int .u64 (lv0 (pre ++ [(x0, x1, x2, x3)]))] := by rw [hy.1]; exact i5
        have q6 : Is W (w.heap.size + 1) 4 #[.bool (lvB (pre ++ [(x0, x1, x2, x3)]))] := by rw [hy.2]; exact i6
        exact ⟨hw.keeps.from _, hw.stays, ⟨q5, q6⟩, hw.below, hw.size⟩
  case done =>
    rintro D ys W hD rfl ⟨⟨i5, i6⟩, hB, hz⟩ hK
    generalize hu : lv0 (live now zs) = u at *
    generalize hv : lvB (live now zs) = b at *
    have c50 : W.cell? ⟨w.heap.size, 0, none⟩ = some (.int .u64 u) := i5.cell' rfl
    have c60 : W.cell? ⟨w.heap.size + 1, 0, none⟩ = some (.bool b) := i6.cell' rfl
    gi_wp2
    gi_region
    all_goals gi_wp2
    all_goals exact ⟨by simp, .inl ⟨_, _, rfl, run_takeDeferred (w := W.drew) hK, _, results_tmp2 rfl _ _ _, by rw [hu, hv]; rfl, hB.drew.trans (belowK_b (w := w) (Nat.le_refl _) W.drew D _ _ (by omega) hK rfl rfl)⟩⟩
  case stop =>
    rintro D c pre W _ _ h _
    exact h.elim
theorem next_ (now : Int) (zs : List Sn) (A : Option Addr) (c : Nat) (w : World) (hs : Seq w 0 w.heap.size A (flatS zs)) (hl : zs.length ≤ maxLen) :
    Calls Try.prog 17 #[.slice A zs.length c, .int .u64 now] w fun e w' => e = .returned (.tuple #[.int .u64 (lv0 (live now zs)), .bool (lvB (live now zs))]) ∧ Below w.heap.size w w' :=
  (callsIn_wide (n := 4)).1 (next_in Fence.wide 4 (fun _ => trivial) rfl (Nat.le_refl _) now zs A c w hs hl)
end Aggr
end Go.Proofs.Ytmcbjfmlncellaa

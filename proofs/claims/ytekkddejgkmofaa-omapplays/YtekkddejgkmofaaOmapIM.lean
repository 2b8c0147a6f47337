/-
  What the calls of an ordered map (layer 4) of numbers (to texts) come to: With, Without, Get, Len, All, Keys.
-/
import Derived.Test.YtekkddejgkmofaaOmapII
namespace Go.Proofs.Ytekkddejgkmofaa
open Go.RowKit Go.Shelf
attribute [local go_sem] Oper.semAt_some
namespace OmapI
/-- a map -/
abbrev M (p : Option Addr) : Value := .agg #[.pointer p]
theorem elem : ∃ i, Law.Elem Try.prog 63 3 i (.int .i64 0) 1 8 := Law.Elem.of Try.underlying63 (by kernel_rfl) rfl (by decide)
/-- behind what makes a map of these pairs -/
def MadeM (w : World) (zs : List (Int × ByteArray)) (e : Ending) (w' : World) : Prop := ∃ p, e = .returned (M p) ∧ At w' w'.heap.size p zs ∧ Below w.heap.size w w'

set_option maxHeartbeats 1000000 in
theorem withM (k : Int) (v : ByteArray) {w : World} {B : Nat} {p : Option Addr} {xs : List (Int × ByteArray)} (h : At w B p xs) (hB : B ≤ w.heap.size) (hR : Law.Rises lt xs) (hx : xs.length ≤ 999) :
    Calls Try.prog 26 #[M p, .int .i64 k, .string v] w (MadeM w (Law.putK lt k v xs)) := by
  have H := Lib.hid h
  have HR := Lib.hid hR
  clear h hR
  go_enter Try.func26, Try.ntmps26
  go_wp2_with fail
  have B0 : Below w.heap.size w ((w.alloc (.cells #[.pointer p] 61)).alloc (.cells #[.pointer none] 61)) := ((Below.refl _ w).alloc (Nat.le_refl _) _).alloc (by simp) _
  refine (with_ k v xs.length _ B p xs (Nat.le_refl _) (H.out.under (B0.mono hB)) (by simp; omega) HR.out hx).mono ?_
  rintro e w1 ⟨p1, rfl, t1, b1⟩
  have I1 : Law.Is w1 (w.heap.size + 1) 61 #[.pointer none] := (Law.Is.new (w.alloc (.cells #[.pointer p] 61)) 61 #[.pointer none] (by simp)).below b1 (by simp)
  have c0 := I1.cell 0
  have f0 := I1.frozen 0
  have l0 := I1.lt
  simp only [List.getElem?_toArray, List.getElem?_cons_zero] at c0
  have hb : Below w.heap.size w w1 := B0.trans (b1.mono (by simp; omega))
  have T1 := Lib.hid t1
  have HB := Lib.hid hb
  have HI := Lib.hid I1
  clear t1 hb b1 I1 B0
  go_wp2_with fail
  have T2 := Lib.hid (T1.out.far (i := 0) HI.out (by decide) (.pointer p1))
  have I2 : Law.Is (w1.setCell ⟨w.heap.size + 1, 0, none⟩ (.pointer p1)) (w.heap.size + 1) 61 #[.pointer p1] := HI.out.set 0 _ rfl
  have c2 : (w1.setCell ⟨w.heap.size + 1, 0, none⟩ (.pointer p1)).cell? ⟨w.heap.size + 1, 0, none⟩ = some (Value.pointer p1) := (I2.cell 0).trans rfl
  have B2 := Lib.hid (HB.out.setCell (p := ⟨w.heap.size + 1, 0, none⟩) (Nat.le_succ _) (.pointer p1))
  have e2 : w1.heap.size = (w1.setCell ⟨w.heap.size + 1, 0, none⟩ (.pointer p1)).heap.size := by simp
  rw [e2] at T2
  clear c0 f0 l0 T1 HB HI e2 I2
  generalize w1.setCell ⟨w.heap.size + 1, 0, none⟩ (.pointer p1) = w2 at *
  exact bodyPost_ret (v := M p1) (by simp [results, Try.results26, go_sem, c2]) rfl ⟨p1, rfl, T2.out, B2.out⟩

set_option maxHeartbeats 1000000 in
theorem len {w : World} {B : Nat} {p : Option Addr} {xs : List (Int × ByteArray)} (h : At w B p xs) (hB : B ≤ w.heap.size) :
    Calls Try.prog 28 #[M p] w fun e w' => e = .returned (.int .i64 (xs.length : Int)) ∧ w.alloc (.cells #[.pointer p] 61) = w' := by
  have H := Lib.hid h
  clear h
  go_enter Try.func28, Try.ntmps28
  go_wp2_with fail
  refine (count (H.out.under (((Below.refl _ w).alloc (Nat.le_refl _) _).mono hB))).mono ?_
  rintro e w1 ⟨rfl, rfl⟩
  go_wp2_with fail
  go_ret
  exact ⟨rfl, rfl⟩

set_option maxHeartbeats 400000 in
theorem all_in (F : Fence) (n : Nat) (hF : ∀ f, F.fn f) (hro : F.round = none) (w : World) (p : Option Addr) :
    CallsIn F n Try.prog 41 #[M p] w fun e w' => e = .returned (.func (.func 49) #[] #[.pointer (some ⟨w.heap.size, 0, none⟩)]) ∧ w.alloc (.cells #[.pointer p] 61) = w' := by
  refine callsIn_of_wp Try.func41 rfl (hF _) ?_ hro
  simp only [Try.ntmps41, List.size_toArray, List.length_cons, List.length_nil, Nat.reduceAdd, Nat.reduceSub, Array.replicate_succ, Array.replicate_zero, List.push_toArray, List.append_toArray, List.nil_append, List.cons_append]
  gi_wp2
  go_ret
  exact ⟨rfl, rfl⟩
theorem all (w : World) (p : Option Addr) :
    Calls Try.prog 41 #[M p] w fun e w' => e = .returned (.func (.func 49) #[] #[.pointer (some ⟨w.heap.size, 0, none⟩)]) ∧ w.alloc (.cells #[.pointer p] 61) = w' :=
  (callsIn_wide (n := 1)).1 (all_in Fence.wide 1 (fun _ => trivial) rfl w p)

set_option maxRecDepth 100000 in
set_option maxHeartbeats 1000000 in
theorem all1_in (F : Fence) (hd : F.depth = none) (n : Nat) (hF : ∀ f, F.fn f) (hro : F.round = none) (l Bs n₀ : Nat) (p : Option Addr) (xs : List (Int × ByteArray)) (J Jx : List (Int × ByteArray) → World → Prop) (hD : ∀ pre W, J pre W → J pre W.drew)
    (hY : ∀ pre x W, J pre W → pre.length < xs.length → YieldAt F (n - 1) Try.prog l #[.int .i64 x.1, .string x.2] W fun e W' =>
      (e = .returned (.bool true) ∧ J (pre ++ [x]) W' ∧ Below n₀ W W') ∨ (e = .returned (.bool false) ∧ Jx (pre ++ [x]) W'))
    (W : World) (hBs : W.cell? ⟨Bs, 0, none⟩ = some (.pointer p)) (hs : At W n₀ p xs) (h0 : J [] W) :
    CallsIn F n Try.prog 49 #[.func (.yield l) #[] #[], .pointer (some ⟨Bs, 0, none⟩)] W fun e W' => (∃ v, e = .returned v) ∧
      ((∃ ys, ys = xs ∧ J ys W') ∨ (∃ pre, pre <+: xs ∧ Jx pre W')) := by
  have hdd : ∀ k : Nat, (F.depth.isSome = true → 1 ≤ k) := fun k h => by rw [hd] at h; cases h
  have HP := Lib.hid (walk_in F hd hF hro l n₀ xs.length J Jx hD (fun m pre x W hj hl => yield_deep hd m (hY pre x W hj hl)) xs.length (n - 1) p [] xs W (Nat.le_refl _) hs h0 (by simp))
  clear hY hs h0 hD
  refine callsIn_of_wp Try.func49 rfl (hF _) ?_ hro
  simp only [Try.ntmps49, List.size_toArray, List.length_cons, List.length_nil, Nat.reduceAdd, Nat.reduceSub, Array.replicate_succ, Array.replicate_zero, List.push_toArray, List.append_toArray, List.nil_append, List.cons_append]
  gi_wp2_with ((try refine ⟨hdd _, ?_⟩); gi_at_call 50; refine HP.out.mono ?_; clear HP; rintro e W1 (⟨rfl, hJ1, _⟩ | ⟨rfl, q, hq, hx⟩))
  · go_end0
    exact ⟨⟨_, rfl⟩, .inl ⟨_, rfl, by simpa using hJ1⟩⟩
  · go_end0
    exact ⟨⟨_, rfl⟩, .inr ⟨q, hq, by simpa using hx⟩⟩
theorem grown_drew (W : World) : W.grownBy W.drew none := ⟨rfl, rfl, rfl, Nat.le_refl _, fun _ _ _ => rfl⟩
theorem all_stops (F : Fence) (hd : F.depth = none) (n : Nat) (hF : ∀ f, F.fn f) (hro : F.round = none) (Bs n₀ : Nat) (p : Option Addr) (xs : List (Int × ByteArray)) (w : World) (hBs : Bs < w.heap.size) (hn₀ : n₀ ≤ w.heap.size)
    (hc : w.cell? ⟨Bs, 0, none⟩ = some (.pointer p)) (hs : At w n₀ p xs) :
    SeqStopsK F n Try.prog 49 #[.pointer (some ⟨Bs, 0, none⟩)] (fun x : Int × ByteArray => #[Value.int .i64 x.1, Value.string x.2]) (Below n₀) (fun ys => ys = xs) (fun pre => pre <+: xs) xs.length w := fun l J Jx W hW hJ _ hY h0 =>
  all1_in F hd n hF hro l Bs n₀ p xs J Jx (fun pre W' h => hJ pre W' _ none h (grown_drew W') (fun r e => by cases e)) hY W ((hW.cell (p := ⟨Bs, 0, none⟩) hBs).trans hc) (hs.under (hW.mono hn₀)) h0

/-- behind Keys -/
def KeysM (w : World) (xs : List (Int × ByteArray)) (e : Ending) (w' : World) : Prop :=
  ∃ A c, e = .returned (.slice A xs.length c) ∧ xs.length ≤ c ∧ Law.Seq w' w.heap.size w'.heap.size A (xs.map fun x => .int .i64 x.1) ∧ Below w.heap.size w w'

set_option maxRecDepth 100000 in
set_option maxHeartbeats 2000000 in
theorem keys_in (F : Fence) (hd : F.depth = none) (n : Nat) (hF : ∀ f, F.fn f) (hro : F.round = none) (hn : 4 ≤ n) (hC : ∀ {f args w R} m, Calls Try.prog f args w R → CallsIn F m Try.prog f args w R) (w : World) (B : Nat) (p : Option Addr) (xs : List (Int × ByteArray)) (h : At w B p xs) (hB : B ≤ w.heap.size) (hl : xs.length ≤ 1000) :
    CallsIn F n Try.prog 27 #[M p] w (KeysM w xs) := by
  have h1 : 1 ≤ n := by omega
  have hdd : ∀ k : Nat, (F.depth.isSome = true → 1 ≤ k) := fun k h => by rw [hd] at h; cases h
  obtain ⟨i0, hE⟩ := elem
  have HE := Lib.hid hE
  have H := Lib.hid (h.wide hB)
  clear hE h
  refine callsIn_of_wp_marks Try.func27 rfl (hF _) ?_ hro
  simp only [Try.ntmps27, List.size_toArray, List.length_cons, List.length_nil, Nat.reduceAdd, Nat.reduceSub, Array.replicate_succ, Array.replicate_zero, List.push_toArray, List.append_toArray, List.nil_append, List.cons_append]
  gi_wp2_with (first
    | ((try refine ⟨hdd _, ?_⟩); gi_at_call 28; refine (hC _ (len (H.out.under ((Below.refl _ w).alloc (Nat.le_refl _) _)) (by simp))).mono ?_; rintro e w1 ⟨rfl, rfl⟩)
    | (gi_at_make; refine wpListIn_make_own _ rfl _ _ 63 rfl w.heap.size 3 i0 (.int .i64 0) 1 HE.out.ut HE.out.info HE.out.zero HE.out.sz .i64 .i64 (xs.length : Int) xs.length rfl rfl rfl (by rw [HE.out.by_]; omega) (by unfold maxLen; omega) (by simp; omega) ?_; intro w1 hown hgrow; have cm : w1.cell? ⟨w.heap.size, 0, none⟩ = some (.pointer p) := (World.cell?_of_block (hgrow.block w.heap.size (by simp only [World.size_alloc]; omega) (by simp))).trans (((Law.Is.new w 61 #[.pointer p] rfl).alloc _).cell' rfl); have hs1 : w.heap.size + 1 + 1 < w1.heap.size := (by simpa only [World.size_alloc] using (hown.lt _ rfl).2); have hs2 : w.heap.size < w1.heap.size := (by omega)))
  refine (all_in F (n - 1) hF hro _ p).mono ?_
  rintro e w' ⟨rfl, rfl⟩
  have bO : Boxed ((w1.alloc (.cells #[.slice (some ⟨w.heap.size + 1 + 1, 0, none⟩) 0 xs.length] 63)).alloc (.cells #[.pointer p] 61)) w1.heap.size 63 (.slice (some ⟨w.heap.size + 1 + 1, 0, none⟩) 0 xs.length) := (Boxed.new w1 63 _).alloc _
  have bN := Boxed.new (w1.alloc (.cells #[.slice (some ⟨w.heap.size + 1 + 1, 0, none⟩) 0 xs.length] 63)) 61 (.pointer p)
  have hB0 : Below w.heap.size w ((w1.alloc (.cells #[.slice (some ⟨w.heap.size + 1 + 1, 0, none⟩) 0 xs.length] 63)).alloc (.cells #[.pointer p] 61)) :=
    (((((Below.refl _ w).alloc (Nat.le_refl _) _).alloc (by simp) _).grown hgrow (by simp; omega) (by simp)).alloc (by omega) _).alloc (by simp; omega) _
  have hO0 := (hown.alloc (.cells #[.slice (some ⟨w.heap.size + 1 + 1, 0, none⟩) 0 xs.length] 63)).alloc (.cells #[.pointer p] 61)
  have hsz : ((w1.alloc (.cells #[.slice (some ⟨w.heap.size + 1 + 1, 0, none⟩) 0 xs.length] 63)).alloc (.cells #[.pointer p] 61)).heap.size = w1.heap.size + 2 := by simp
  simp only [World.size_alloc] at bN hO0 ⊢
  generalize ((w1.alloc (.cells #[.slice (some ⟨w.heap.size + 1 + 1, 0, none⟩) 0 xs.length] 63)).alloc (.cells #[.pointer p] 61)) = W0 at *
  have HO := Lib.hid hO0
  have HB0 := Lib.hid hB0
  have HS : Hid (At W0 w.heap.size p xs) := H.out.under hB0
  clear hown hgrow hO0 hB0 cm
  gi_wp2
  refine wpIn_rangeFunc_ownG hro h1 (gf := 49) (lb := #[.pointer (some ⟨w1.heap.size + 1, 0, none⟩)]) rfl (hF _) (enters_of Try.func49 (by kernel_rfl) rfl)
    (all_stops F hd (n - 1) hF hro (w1.heap.size + 1) w.heap.size p xs W0 (by omega) (by omega) bN.cell HS.out) belowK_t (belowK_b (by omega)) (Below.refl _ _) (fun _ => rfl)
    (fun pre W => (∃ v, Boxed W w1.heap.size 63 v ∧ W.ownsRow w.heap.size 3 1 v pre.length (pre.map fun x => Value.int .i64 x.1) ∧ True) ∧ Below w.heap.size w W)
    (fun _ _ _ => False)
    (OwnFrom.and (Own.from (holdsRow_own w.heap.size w1.heap.size 63 3 1 (fun pre : List (Int × ByteArray) => pre.length) (fun pre => pre.map fun x => Value.int .i64 x.1) (fun _ _ => True)) _) (ownFrom_below (Nat.le_refl _) (by omega)))
    (fun _ _ _ _ _ hs _ _ => hs)
    ⟨⟨_, bO, HO.out, trivial⟩, HB0.out⟩
    ?actAt ?assign ?body ?done ?stop
  case assign =>
    intro l x W K hK
    gi_wp2
    exact hK
  case body =>
    rintro l pre x W ⟨⟨v, hv, hrow, _⟩, hB⟩ hlt
    have hc := hv.cell
    gi_wp2_with (gi_at_builtin; refine wpListIn_append_own _ rfl _ _ 63 rfl w.heap.size 3 i0 (.int .i64 0) 1 8 HE.out.ut HE.out.info HE.out.zero HE.out.sz HE.out.by_ HE.out.cells HE.out.pos _ _ _ rfl (hrow.alloc _) ⟨W.heap.size, 0, none⟩ 1 1 [.int .i64 x.1] rfl rfl (Law.new_one _ _ _) (Law.one_int _ _) (by unfold maxLen; omega) (by omega) (by have := hB.size; simp; omega) ?_; intro v' w2 hown' hgrow _; obtain ⟨g', cap', rfl⟩ := ownsRow_succ hown'; obtain ⟨hv1, hv2, hr2, hk2, hb2⟩ := hv.appended (by decide) hrow hB.size (by omega) hown' hgrow; have hc1 := hv1.cell; have hf1 := hv1.frozen)
    exact ⟨hk2.from _, hb2, ⟨_, hv2, by simpa using hr2, trivial⟩, hB.trans hb2⟩
  case done =>
    rintro D ys W hD rfl ⟨⟨v, hv, hrow, _⟩, hB⟩ hK
    have hc := hv.cell
    have hbW := hB.size
    obtain ⟨Av, cv, rfl, hcv⟩ := Law.own_shape hrow
    gi_wp2
    refine ⟨by simp, .inl ⟨_, _, rfl, run_takeDeferred hK, ?_⟩⟩
    refine ⟨_, results_tmp rfl _ _ _, Av, cv, rfl, hcv, ?_⟩
    exact ⟨Law.Seq.own (ownsRow_putObj hrow _ hK rfl), hB.trans (belowK_b (w := w) (Nat.le_refl _) W D _ _ (by omega) hK rfl rfl)⟩
  case stop =>
    rintro D c pre W _ _ h _
    exact h.elim
theorem keys {w : World} {B : Nat} {p : Option Addr} {xs : List (Int × ByteArray)} (h : At w B p xs) (hB : B ≤ w.heap.size) (hl : xs.length ≤ 1000) :
    Calls Try.prog 27 #[M p] w (KeysM w xs) :=
  (callsIn_wide (n := 4)).1 (keys_in Fence.wide rfl 4 (fun _ => trivial) rfl (Nat.le_refl _) (fun _ h => callsIn_wide.2 h) w B p xs h hB hl)

end OmapI
end Go.Proofs.Ytekkddejgkmofaa

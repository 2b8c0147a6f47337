/-
  What the calls of an ordered map (layer 4) of texts to entries come to: With, Without, Get, Len, All, Keys.
-/
import Derived.Test.YtohdlnefgieenaaGreatJ5
import Derived.Shelf.Abstract
import Derived.Test.YtohdlnefgieenaaGreatJ4
import Derived.Test.YtohdlnefgieenaaGreatJ1
import Derived.BigRegion
import Derived.Lib.Hide
namespace Go.Proofs.YtohdlnefgieenaaGreat
open Go.RowKit Go.Shelf
attribute [local go_sem] Oper.semAt_some
namespace OmapB
open Go.Law (EnV)
/-- a map -/
abbrev M (p : Option Addr) : Value := .agg #[.pointer p]
/-- behind what makes a map of these pairs -/
def MadeM (w : World) (zs : List (ByteArray × EnV)) (e : Ending) (w' : World) : Prop := ∃ p, e = .returned (M p) ∧ At w' w'.heap.size p zs ∧ Below w.heap.size w w'

set_option maxHeartbeats 1000000 in
theorem withM (k : ByteArray) (v : EnV) {w : World} {B : Nat} {p : Option Addr} {xs : List (ByteArray × EnV)} (h : At w B p xs) (hB : B ≤ w.heap.size) (hR : Law.Rises lt xs) (hx : xs.length ≤ 999) :
    Calls Tryz.prog 106 #[M p, .string k, .agg #[.slice v.A v.n v.c, .int .i64 v.st, .int .i64 v.pr, .int .i64 v.lv]] w (MadeM w (Law.putK lt k v xs)) := by
  have H := Lib.hid h
  have HR := Lib.hid hR
  clear h hR
  go_enter Tryz.func106, Tryz.ntmps106
  go_wp2_with fail
  have B0 : Below w.heap.size w (((w.alloc (.cells #[.pointer p] 72)).alloc (.cells #[.slice v.A v.n v.c, .int .i64 v.st, .int .i64 v.pr, .int .i64 v.lv] 145)).alloc (.cells #[.pointer none] 72)) := (((Below.refl _ w).alloc (Nat.le_refl _) _).alloc (by simp) _).alloc (by simp; omega) _
  refine (with_ k v xs.length _ B p xs (Nat.le_refl _) (H.out.under (B0.mono hB)) (by simp; omega) HR.out hx).mono ?_
  rintro e w1 ⟨p1, rfl, t1, b1⟩
  have I1 : Law.Is w1 (w.heap.size + 1 + 1) 72 #[.pointer none] := (Law.Is.new ((w.alloc (.cells #[.pointer p] 72)).alloc (.cells #[.slice v.A v.n v.c, .int .i64 v.st, .int .i64 v.pr, .int .i64 v.lv] 145)) 72 #[.pointer none] (by simp)).below b1 (by simp)
  have c0 := I1.cell 0
  have f0 := I1.frozen 0
  have l0 := I1.lt
  simp only [List.getElem?_toArray, List.getElem?_cons_zero] at c0
  have hb : Below w.heap.size w w1 := B0.trans (b1.mono (by simp; omega))
  have T1 := Lib.hid t1
  have HB := Lib.hid hb
  have HI := Lib.hid I1
  clear t1 hb b1 I1 B0
  go_wp2_with fail
  have T2 := Lib.hid (T1.out.far (i := 0) HI.out (by decide) (.pointer p1))
  have I2 : Law.Is (w1.setCell ⟨w.heap.size + 1 + 1, 0, none⟩ (.pointer p1)) (w.heap.size + 1 + 1) 72 #[.pointer p1] := HI.out.set 0 _ rfl
  have c2 : (w1.setCell ⟨w.heap.size + 1 + 1, 0, none⟩ (.pointer p1)).cell? ⟨w.heap.size + 1 + 1, 0, none⟩ = some (Value.pointer p1) := (I2.cell 0).trans rfl
  have B2 := Lib.hid (HB.out.setCell (p := ⟨w.heap.size + 1 + 1, 0, none⟩) (by simp; omega) (.pointer p1))
  have e2 : w1.heap.size = (w1.setCell ⟨w.heap.size + 1 + 1, 0, none⟩ (.pointer p1)).heap.size := by simp
  rw [e2] at T2
  clear c0 f0 l0 T1 HB HI e2 I2
  generalize w1.setCell ⟨w.heap.size + 1 + 1, 0, none⟩ (.pointer p1) = w2 at *
  exact bodyPost_ret (v := M p1) (by simp [results, Tryz.results106, go_sem, c2]) rfl ⟨p1, rfl, T2.out, B2.out⟩

set_option maxHeartbeats 1000000 in
theorem withoutM (k : ByteArray) {w : World} {B : Nat} {p : Option Addr} {xs : List (ByteArray × EnV)} (h : At w B p xs) (hB : B ≤ w.heap.size) (hR : Law.Rises lt xs) (hx : xs.length ≤ 999) :
    Calls Tryz.prog 105 #[M p, .string k] w (MadeM w (Law.outK k xs)) := by
  have H := Lib.hid h
  have HR := Lib.hid hR
  clear h hR
  go_enter Tryz.func105, Tryz.ntmps105
  go_wp2_with fail
  have B0 : Below w.heap.size w ((w.alloc (.cells #[.pointer p] 72)).alloc (.cells #[.pointer none] 72)) := ((Below.refl _ w).alloc (Nat.le_refl _) _).alloc (by simp) _
  refine (without xs.length k _ B p xs (Nat.le_refl _) (H.out.under (B0.mono hB)) (by simp; omega) HR.out hx).mono ?_
  rintro e w1 ⟨p1, rfl, t1, b1⟩
  have I1 : Law.Is w1 (w.heap.size + 1) 72 #[.pointer none] := (Law.Is.new (w.alloc (.cells #[.pointer p] 72)) 72 #[.pointer none] (by simp)).below b1 (by simp)
  have c0 := I1.cell 0
  have f0 := I1.frozen 0
  have l0 := I1.lt
  simp only [List.getElem?_toArray, List.getElem?_cons_zero] at c0
  have hb : Below w.heap.size w w1 := B0.trans (b1.mono (by simp; omega))
  have T1 := Lib.hid t1
  have HB := Lib.hid hb
  have HI := Lib.hid I1
  clear t1 hb b1 I1 B0
  go_wp2_with fail
  have T2 := Lib.hid (T1.out.far (i := 0) HI.out (by decide) (.pointer p1))
  have I2 : Law.Is (w1.setCell ⟨w.heap.size + 1, 0, none⟩ (.pointer p1)) (w.heap.size + 1) 72 #[.pointer p1] := HI.out.set 0 _ rfl
  have c2 : (w1.setCell ⟨w.heap.size + 1, 0, none⟩ (.pointer p1)).cell? ⟨w.heap.size + 1, 0, none⟩ = some (Value.pointer p1) := (I2.cell 0).trans rfl
  have B2 := Lib.hid (HB.out.setCell (p := ⟨w.heap.size + 1, 0, none⟩) (Nat.le_succ _) (.pointer p1))
  have e2 : w1.heap.size = (w1.setCell ⟨w.heap.size + 1, 0, none⟩ (.pointer p1)).heap.size := by simp
  rw [e2] at T2
  clear c0 f0 l0 T1 HB HI e2 I2
  generalize w1.setCell ⟨w.heap.size + 1, 0, none⟩ (.pointer p1) = w2 at *
  exact bodyPost_ret (v := M p1) (by simp [results, Tryz.results105, go_sem, c2]) rfl ⟨p1, rfl, T2.out, B2.out⟩

set_option maxHeartbeats 1000000 in
theorem get (k : ByteArray) {w : World} {B : Nat} {p : Option Addr} {xs : List (ByteArray × EnV)} (h : At w B p xs) (hB : B ≤ w.heap.size) (hR : Law.Rises lt xs) :
    Calls Tryz.prog 67 #[M p, .string k] w fun e w' => e = .returned (.tuple #[EnV.val ((Law.getK k xs).getD EnV.zero), .bool (Law.getK k xs).isSome]) ∧ Below w.heap.size w w' := by
  have H := Lib.hid h
  have HR := Lib.hid hR
  clear h hR
  go_enter Tryz.func67, Tryz.ntmps67
  go_wp2_with fail
  have B0 : Below w.heap.size w ((w.alloc (.cells #[.pointer p] 72)).alloc (.cells #[.slice none 0 0, .int .i64 0, .int .i64 0, .int .i64 0] 145)) := ((Below.refl _ w).alloc (Nat.le_refl _) _).alloc (by simp) _
  refine (find k (H.out.under (B0.mono hB)) HR.out).mono ?_
  have HB := Lib.hid B0
  clear B0
  rintro e w1 ⟨rfl, ⟨rfl, hg⟩ | ⟨b, u, rfl, hb, ⟨c1, c2, c3, c4⟩, hg⟩⟩
  · have HG := Lib.hid hg
    clear hg
    go_wp2_with fail
    exact bodyPost_ret (v := .tuple #[EnV.val EnV.zero, .bool false]) (by simp [results, Tryz.results67, go_sem]) rfl ⟨by rw [HG.out]; rfl, HB.out.alloc (by simp; omega) _⟩
  · have HG := Lib.hid hg
    clear hg
    go_wp2_with fail
    exact bodyPost_ret (v := .tuple #[EnV.val u, .bool true]) (by simp [results, Tryz.results67, go_sem]) rfl ⟨by rw [HG.out]; rfl, ((Below.refl _ w).alloc (Nat.le_refl _) _).alloc (by simp) _⟩

set_option maxHeartbeats 400000 in
theorem all_in (F : Fence) (n : Nat) (hF : ∀ f, F.fn f) (hro : F.round = none) (w : World) (p : Option Addr) :
    CallsIn F n Tryz.prog 71 #[M p] w fun e w' => e = .returned (.func (.func 91) #[] #[.pointer (some ⟨w.heap.size, 0, none⟩)]) ∧ w.alloc (.cells #[.pointer p] 72) = w' := by
  refine callsIn_of_wp Tryz.func71 rfl (hF _) ?_ hro
  simp only [Tryz.ntmps71, List.size_toArray, List.length_cons, List.length_nil, Nat.reduceAdd, Nat.reduceSub, Array.replicate_succ, Array.replicate_zero, List.push_toArray, List.append_toArray, List.nil_append, List.cons_append]
  gi_wp2
  go_ret
  exact ⟨rfl, rfl⟩
theorem all (w : World) (p : Option Addr) :
    Calls Tryz.prog 71 #[M p] w fun e w' => e = .returned (.func (.func 91) #[] #[.pointer (some ⟨w.heap.size, 0, none⟩)]) ∧ w.alloc (.cells #[.pointer p] 72) = w' :=
  (callsIn_wide (n := 1)).1 (all_in Fence.wide 1 (fun _ => trivial) rfl w p)

set_option maxRecDepth 100000 in
set_option maxHeartbeats 1000000 in
theorem all1_in (F : Fence) (hd : F.depth = none) (n : Nat) (hF : ∀ f, F.fn f) (hro : F.round = none) (l Bs n₀ : Nat) (p : Option Addr) (xs : List (ByteArray × EnV)) (J Jx : List (ByteArray × EnV) → World → Prop) (hD : ∀ pre W, J pre W → J pre W.drew)
    (hY : ∀ pre x W, J pre W → x ∈ xs → pre.length < xs.length → YieldAt F (n - 1) Tryz.prog l #[.string x.1, .agg #[.slice x.2.A x.2.n x.2.c, .int .i64 x.2.st, .int .i64 x.2.pr, .int .i64 x.2.lv]] W fun e W' =>
      (e = .returned (.bool true) ∧ J (pre ++ [x]) W' ∧ Below n₀ W W') ∨ (e = .returned (.bool false) ∧ Jx (pre ++ [x]) W'))
    (W : World) (hBs : W.cell? ⟨Bs, 0, none⟩ = some (.pointer p)) (hs : At W n₀ p xs) (h0 : J [] W) :
    CallsIn F n Tryz.prog 91 #[.func (.yield l) #[] #[], .pointer (some ⟨Bs, 0, none⟩)] W fun e W' => (∃ v, e = .returned v) ∧
      ((∃ ys, ys = xs ∧ J ys W') ∨ (∃ pre, pre <+: xs ∧ Jx pre W')) := by
  have hdd : ∀ k : Nat, (F.depth.isSome = true → 1 ≤ k) := fun k h => by rw [hd] at h; cases h
  have HP := Lib.hid (walk_in F hd hF hro l n₀ xs.length J Jx hD (· ∈ xs) (fun m pre x W hj hx hl => yield_deep hd m (hY pre x W hj hx hl)) xs.length (n - 1) p [] xs W (Nat.le_refl _) hs h0 (by simp) (fun _ h => h))
  clear hY hs h0 hD
  refine callsIn_of_wp Tryz.func91 rfl (hF _) ?_ hro
  simp only [Tryz.ntmps91, List.size_toArray, List.length_cons, List.length_nil, Nat.reduceAdd, Nat.reduceSub, Array.replicate_succ, Array.replicate_zero, List.push_toArray, List.append_toArray, List.nil_append, List.cons_append]
  gi_wp2_with ((try refine ⟨hdd _, ?_⟩); gi_at_call 92; refine HP.out.mono ?_; clear HP; rintro e W1 (⟨rfl, hJ1, _⟩ | ⟨rfl, q, hq, hx⟩))
  · go_end0
    exact ⟨⟨_, rfl⟩, .inl ⟨_, rfl, by simpa using hJ1⟩⟩
  · go_end0
    exact ⟨⟨_, rfl⟩, .inr ⟨q, hq, by simpa using hx⟩⟩
theorem grown_drew (W : World) : W.grownBy W.drew none := ⟨rfl, rfl, rfl, Nat.le_refl _, fun _ _ _ => rfl⟩
theorem all_stops (F : Fence) (hd : F.depth = none) (n : Nat) (hF : ∀ f, F.fn f) (hro : F.round = none) (Bs n₀ : Nat) (p : Option Addr) (xs : List (ByteArray × EnV)) (w : World) (hBs : Bs < w.heap.size) (hn₀ : n₀ ≤ w.heap.size)
    (hc : w.cell? ⟨Bs, 0, none⟩ = some (.pointer p)) (hs : At w n₀ p xs) :
    SeqStopsK F n Tryz.prog 91 #[.pointer (some ⟨Bs, 0, none⟩)] (fun x : {x : ByteArray × EnV // x ∈ xs} => #[Value.string x.1.1, Value.agg #[.slice x.1.2.A x.1.2.n x.1.2.c, .int .i64 x.1.2.st, .int .i64 x.1.2.pr, .int .i64 x.1.2.lv]]) (Below n₀) (fun ys => ys.map (·.1) = xs) (fun pre => pre.map (·.1) <+: xs) xs.length w := fun l J Jx W hW hJ _ hY h0 => by
  refine (all1_in F hd n hF hro l Bs n₀ p xs (fun ys W => ∃ zs : List {x // x ∈ xs}, zs.map (·.1) = ys ∧ J zs W) (fun ys W => ∃ zs : List {x // x ∈ xs}, zs.map (·.1) = ys ∧ Jx zs W) (fun pre W' ⟨zs, e, h⟩ => ⟨zs, e, hJ zs W' _ none h (grown_drew W') (fun r e => by cases e)⟩) (fun pre x W1 ⟨zs, e, h⟩ hx hl => ?_) W ((hW.cell (p := ⟨Bs, 0, none⟩) hBs).trans hc) (hs.under (hW.mono hn₀)) ⟨[], rfl, h0⟩).mono ?_
  · subst e
    refine YieldAt.mono (hY zs ⟨x, hx⟩ W1 h (by simpa using hl)) fun e W2 h => h.elim (fun ⟨he, hj, hb⟩ => .inl ⟨he, ⟨_, by simp, hj⟩, hb⟩) (fun ⟨he, hj⟩ => .inr ⟨he, ⟨_, by simp, hj⟩⟩)
  · rintro e W' ⟨hv, ⟨ys, rfl, zs, hz, hj⟩ | ⟨pre, hp, zs, rfl, hj⟩⟩
    · exact ⟨hv, .inl ⟨zs, hz, hj⟩⟩
    · exact ⟨hv, .inr ⟨zs, hp, hj⟩⟩
end OmapB
end Go.Proofs.YtohdlnefgieenaaGreat
/-
  What walk and All of an ordered map (layer 4) of texts to entries come to, at a function that is handed in.
-/
namespace Go.Law
/-- who is handed xs, c having come: what comes to it, and whether it went on to the end; go says, of how many have come, whether it goes on -/
def runW {α : Type} (go : Nat → Bool) : Nat → List α → List α × Bool
  | _, [] => ([], true)
  | c, x :: r => if go (c + 1) then (x :: (runW go (c + 1) r).1, (runW go (c + 1) r).2) else ([x], false)
theorem runW_all {α : Type} {go : Nat → Bool} : ∀ {c : Nat} {xs : List α}, (runW go c xs).2 = true → (runW go c xs).1 = xs
  | _, [], _ => rfl
  | c, x :: r, h => by
    unfold runW at h ⊢
    split
    · rename_i hg
      rw [if_pos hg] at h
      simp only at h ⊢
      rw [runW_all h]
    · rename_i hg
      rw [if_neg hg] at h
      cases h
theorem runW_true {α : Type} {go : Nat → Bool} (hg : ∀ n, go n = true) : ∀ (c : Nat) (xs : List α), runW go c xs = (xs, true)
  | _, [] => rfl
  | c, x :: r => by unfold runW; rw [if_pos (hg _), runW_true hg]
theorem runW_app {α : Type} {go : Nat → Bool} {ys : List α} : ∀ {c : Nat} {xs : List α}, (runW go c xs).2 = true → runW go c (xs ++ ys) = (xs ++ (runW go (c + xs.length) ys).1, (runW go (c + xs.length) ys).2)
  | c, [], _ => by simp
  | c, x :: r, h => by
    unfold runW at h
    split at h
    · rename_i hg
      simp only at h
      have ih := runW_app (ys := ys) h
      rw [List.cons_append, runW, if_pos hg, ih]
      simp only [List.length_cons, List.cons_append]
      rw [show c + 1 + r.length = c + (r.length + 1) by omega]
    · cases h
theorem runW_stop {α : Type} {go : Nat → Bool} {ys : List α} : ∀ {c : Nat} {xs : List α}, (runW go c xs).2 = false → runW go c (xs ++ ys) = ((runW go c xs).1, false)
  | c, [], h => by cases h
  | c, x :: r, h => by
    unfold runW at h
    split at h
    · rename_i hg
      simp only at h
      have ih := runW_stop (ys := ys) h
      rw [List.cons_append, runW, if_pos hg, ih, runW, if_pos hg]
    · rename_i hg
      rw [List.cons_append, runW, if_neg hg, runW, if_neg hg]
theorem runW_prefix {α : Type} {go : Nat → Bool} : ∀ (c : Nat) (xs : List α), (runW go c xs).1 <+: xs
  | _, [] => List.prefix_refl _
  | c, x :: r => by
    unfold runW
    split
    · exact List.cons_prefix_cons.2 ⟨rfl, runW_prefix _ _⟩
    · exact List.cons_prefix_cons.2 ⟨rfl, List.nil_prefix⟩
end Go.Law
namespace Go.Proofs.YtohdlnefgieenaaGreat
open Go.RowKit
namespace OmapB
open Go.Law (EnV)
/-- behind a walk through these pairs -/
def Walked (J : List (ByteArray × EnV) → World → Prop) (go : Nat → Bool) (pre xs : List (ByteArray × EnV)) (w : World) (e : Ending) (w' : World) : Prop :=
  e = .returned (.bool (Law.runW go pre.length xs).2) ∧ J (pre ++ (Law.runW go pre.length xs).1) w' ∧ Law.Keeps 168 w w'

set_option linter.unusedSimpArgs false in
set_option maxRecDepth 100000 in
set_option maxHeartbeats 8000000 in
theorem walk (f : FuncId) (caps : Array Value) (eg : ∀ args w, (callFunc f args).run Tryz.prog w = .ok (.enter f args) w) (J : List (ByteArray × EnV) → World → Prop) (go : Nat → Bool) (n₀ : Nat) (zs : List (ByteArray × EnV))
    (hY : ∀ pre k v W, J pre W → pre ++ [(k, v)] <+: zs → Calls Tryz.prog f (#[.string k, .agg #[.slice v.A v.n v.c, .int .i64 v.st, .int .i64 v.pr, .int .i64 v.lv]] ++ caps) W fun e W' => e = .returned (.bool (go (pre.length + 1))) ∧ J (pre ++ [(k, v)]) W' ∧ Law.Keeps 168 W W')
    (hD : ∀ pre W n, J pre W → J pre (W.drewN n)) :
    ∀ (n : Nat) (w : World) (p : Option Addr) (pre xs : List (ByteArray × EnV)), xs.length ≤ n → At w n₀ p xs → J pre w → pre ++ xs <+: zs →
    Calls Tryz.prog 92 #[.pointer p, .func (.func f) #[] caps] w (Walked J go pre xs w) := by
  intro n
  induction n with
  | zero =>
    intro w p pre xs hn h hJ _
    obtain rfl := List.eq_nil_of_length_eq_zero (by omega : xs.length = 0)
    obtain rfl := h.is_nil
    clear h
    have HJ := Lib.hid hJ
    have HD := Lib.hid hD
    clear hJ hD hY eg
    go_enter Tryz.func92, Tryz.ntmps92
    go_wp2_with fail
    go_quiet (fail)
    go_wp2_with fail
    go_ret
    exact ⟨rfl, by simpa [Law.runW] using HD.out _ _ _ HJ.out, Law.Keeps.drewN _ w _⟩
  | succ n ih =>
    intro w p pre xs hn h hJ hz
    cases p with
    | none =>
      obtain rfl := h.of_nil
      exact ih w none pre [] (Nat.zero_le _) h hJ hz
    | some ad =>
      obtain ⟨b, l, r, ls, rs, k, v, rfl, rfl, hb, hi, hl, hr⟩ := h.of_some
      have c0 := hi.cell 0
      have c1 := val_of hi
      have c2 := hi.cell 5
      have c3 := hi.cell 6
      simp only [List.getElem?_toArray, List.getElem?_cons_zero, List.getElem?_cons_succ] at c0 c1 c2 c3
      have HN : Hid ((ls ++ (k, v) :: rs).length = ls.length + (rs.length + 1)) := by show _ = _; simp
      rw [HN.out] at hn
      have hz1 : pre ++ ls <+: zs := List.IsPrefix.trans ⟨(k, v) :: rs, by simp⟩ hz
      have hz2 : (pre ++ ls) ++ [(k, v)] <+: zs := List.IsPrefix.trans ⟨rs, by simp⟩ hz
      have hz3 : (pre ++ ls ++ [(k, v)]) ++ rs <+: zs := by simpa using hz
      have HK : Hid (∀ w', Law.Keeps 168 w w' → (w'.cell? ⟨b, 0, none⟩ = some (.string k) ∧ w'.cell? ⟨b, 1, none⟩ = some (.slice v.A v.n v.c) ∧ w'.cell? ⟨b, 2, none⟩ = some (.int .i64 v.st) ∧ w'.cell? ⟨b, 3, none⟩ = some (.int .i64 v.pr) ∧ w'.cell? ⟨b, 4, none⟩ = some (.int .i64 v.lv) ∧ w'.cell? ⟨b, 5, none⟩ = some (.pointer l) ∧ w'.cell? ⟨b, 6, none⟩ = some (.pointer r)) ∧ Law.Keeps 168 w w') := fun w' K =>
        ⟨⟨(K.is hi).cell' rfl, (K.is hi).cell' rfl, (K.is hi).cell' rfl, (K.is hi).cell' rfl, (K.is hi).cell' rfl, (K.is hi).cell' rfl, (K.is hi).cell' rfl⟩, K⟩
      have K0 : Law.Keeps 168 w (w.drewN 1) := Law.Keeps.drewN _ w 1
      have HI : Hid (∀ w', Law.Keeps 168 w w' → J pre w' → Calls Tryz.prog 92 #[.pointer l, .func (.func f) #[] caps] w' (Walked J go pre ls w')) := fun w' K hJ' =>
        ih w' l pre ls (by omega) (hl.keeps K) hJ' hz1
      have HJ := Lib.hid (hD pre w 1 hJ)
      by_cases q1 : (Law.runW go pre.length ls).2 = true
      · have e1 := Law.runW_all q1
        have HI' : Hid (∀ w', Law.Keeps 168 w w' → J pre w' → Calls Tryz.prog 92 #[.pointer l, .func (.func f) #[] caps] w' fun e w'' => e = .returned (.bool true) ∧ J (pre ++ ls) w'' ∧ Law.Keeps 168 w w'') := fun w' K hJ' =>
          (HI.out w' K hJ').mono fun _ _ ⟨he, hj, hb'⟩ => ⟨by rw [he, q1], by rw [e1] at hj; exact hj, K.trans hb'⟩
        have E1 := Lib.hid (Law.runW_app (ys := (k, v) :: rs) q1)
        by_cases q2 : go (pre.length + ls.length + 1) = true
        · have HY : Hid (∀ w', Law.Keeps 168 w w' → J (pre ++ ls) w' → Calls Tryz.prog f (#[.string k, .agg #[.slice v.A v.n v.c, .int .i64 v.st, .int .i64 v.pr, .int .i64 v.lv]] ++ caps) w' fun e w'' => e = .returned (.bool true) ∧ J (pre ++ ls ++ [(k, v)]) w'' ∧ Law.Keeps 168 w w'') := fun w' K hJ' =>
            (hY (pre ++ ls) k v w' hJ' hz2).mono fun _ _ ⟨he, hj, hb'⟩ => ⟨by rw [he, List.length_append, q2], hj, K.trans hb'⟩
          have HR : Hid (∀ w', Law.Keeps 168 w w' → J (pre ++ ls ++ [(k, v)]) w' → Calls Tryz.prog 92 #[.pointer r, .func (.func f) #[] caps] w' fun e w'' => e = .returned (.bool (Law.runW go pre.length (ls ++ (k, v) :: rs)).2) ∧ J (pre ++ (Law.runW go pre.length (ls ++ (k, v) :: rs)).1) w'' ∧ Law.Keeps 168 w w'') := fun w' K hJ' => by
            have ee : Law.runW go pre.length (ls ++ (k, v) :: rs) = (ls ++ (k, v) :: (Law.runW go (pre.length + ls.length + 1) rs).1, (Law.runW go (pre.length + ls.length + 1) rs).2) := by rw [E1.out, Law.runW, if_pos q2]
            rw [ee]
            refine (ih w' r (pre ++ ls ++ [(k, v)]) rs (by omega) (hr.keeps K) hJ' hz3).mono fun _ _ ⟨he, hj, hb'⟩ => ?_
            have el : (pre ++ ls ++ [(k, v)]).length = pre.length + ls.length + 1 := by simp; omega
            rw [el] at he hj
            exact ⟨he, by simpa using hj, K.trans hb'⟩
          clear hY hD ih hJ hi h hl hr hz hz1 hz2 hz3 q1 q2 e1 HI E1 HN
          go_enter Tryz.func92, Tryz.ntmps92
          go_wp2_with fail
          go_region_held3 (fun w' => (w'.cell? ⟨b, 0, none⟩ = some (.string k) ∧ w'.cell? ⟨b, 1, none⟩ = some (.slice v.A v.n v.c) ∧ w'.cell? ⟨b, 2, none⟩ = some (.int .i64 v.st) ∧ w'.cell? ⟨b, 3, none⟩ = some (.int .i64 v.pr) ∧ w'.cell? ⟨b, 4, none⟩ = some (.int .i64 v.lv) ∧ w'.cell? ⟨b, 5, none⟩ = some (.pointer l) ∧ w'.cell? ⟨b, 6, none⟩ = some (.pointer r)) ∧ Law.Keeps 168 w w') (exact HK.out _ (by assumption)) (first
            | (go_at_call_of 92 (Value.pointer l); refine (HI'.out _ (by assumption) HJ.out).mono ?_; rintro e w1 ⟨rfl, j1, K1⟩; have J1 := Lib.hid j1; clear j1)
            | (go_at_call_of 92 (Value.pointer r); refine (HR.out _ (by assumption) J2.out).mono ?_; rintro e w3 ⟨rfl, j3, K3⟩; have J3 := Lib.hid j3; clear j3)
            | (with_reducible refine Calls.mono (HY.out _ (by assumption) J1.out) ?_; rintro e w2 ⟨rfl, j2, K2⟩; have J2 := Lib.hid j2; clear j2))
          go_wp2_with fail
          go_ret
          exact ⟨rfl, J3.out, K3⟩
        · have HY : Hid (∀ w', Law.Keeps 168 w w' → J (pre ++ ls) w' → Calls Tryz.prog f (#[.string k, .agg #[.slice v.A v.n v.c, .int .i64 v.st, .int .i64 v.pr, .int .i64 v.lv]] ++ caps) w' fun e w'' => e = .returned (.bool false) ∧ J (pre ++ ls ++ [(k, v)]) w'' ∧ Law.Keeps 168 w w'') := fun w' K hJ' =>
            (hY (pre ++ ls) k v w' hJ' hz2).mono fun _ _ ⟨he, hj, hb'⟩ => ⟨by rw [he, List.length_append, Bool.eq_false_iff.2 q2], hj, K.trans hb'⟩
          have HE : Hid (Law.runW go pre.length (ls ++ (k, v) :: rs) = (ls ++ [(k, v)], false)) := by show _ = _; rw [E1.out, Law.runW, if_neg q2]
          clear hY hD ih hJ hi h hl hr hz hz1 hz2 hz3 q1 q2 e1 HI E1 HN
          go_enter Tryz.func92, Tryz.ntmps92
          go_wp2_with fail
          refine wp_region_held_drew (S := (fun w' => (w'.cell? ⟨b, 0, none⟩ = some (.string k) ∧ w'.cell? ⟨b, 1, none⟩ = some (.slice v.A v.n v.c) ∧ w'.cell? ⟨b, 2, none⟩ = some (.int .i64 v.st) ∧ w'.cell? ⟨b, 3, none⟩ = some (.int .i64 v.pr) ∧ w'.cell? ⟨b, 4, none⟩ = some (.int .i64 v.lv) ∧ w'.cell? ⟨b, 5, none⟩ = some (.pointer l) ∧ w'.cell? ⟨b, 6, none⟩ = some (.pointer r)) ∧ Law.Keeps 168 w w')) (by kernel_rfl) (HK.out _ K0) (fun hS0 => ?_)
          refine wpAnyH_take (i := 0) (oi := { dst := some 5, op := .move (.tmp 0), type := _, pos := _, after := _, guard := _ }) (v := .pointer (some ⟨b, 0, none⟩)) rfl (by kernel_rfl) (by kernel_rfl) (by kernel_rfl) (fun _ _ _ h => h) (Or.inl ⟨by rfl, ?_⟩) hS0 ?_
          · intro w' hSw
            go_simp
          try simp only [Act.put, List.setIfInBounds_toArray, List.set_cons_zero, List.set_cons_succ]
          refine wpAnyH_take (i := 1) (oi := { dst := some 6, op := .binOp .eql 70 (.tmp 5) (.const (.pointer none)) 70, type := _, pos := _, after := _, guard := _ }) (v := .bool false) rfl (by kernel_rfl) (by kernel_rfl) (by kernel_rfl) (fun _ _ _ h => h) (Or.inl ⟨by rfl, ?_⟩) hS0 ?_
          · intro w' hSw
            go_simp
          try simp only [Act.put, List.setIfInBounds_toArray, List.set_cons_zero, List.set_cons_succ]
          refine wpAnyH_take (i := 2) (oi := { dst := some 7, op := .move (.tmp 6), type := _, pos := _, after := _, guard := _ }) (v := .bool false) rfl (by kernel_rfl) (by kernel_rfl) (by kernel_rfl) (fun _ _ _ h => h) (Or.inl ⟨by rfl, ?_⟩) hS0 ?_
          · intro w' hSw
            go_simp
          try simp only [Act.put, List.setIfInBounds_toArray, List.set_cons_zero, List.set_cons_succ]
          refine wpAnyH_take (i := 3) (oi := { dst := some 8, op := .move (.tmp 0), type := _, pos := _, after := _, guard := _ }) (v := .pointer (some ⟨b, 0, none⟩)) rfl (by kernel_rfl) (by kernel_rfl) (by kernel_rfl) (fun _ _ _ h => h) (Or.inl ⟨by rfl, ?_⟩) hS0 ?_
          · intro w' hSw
            go_simp
          try simp only [Act.put, List.setIfInBounds_toArray, List.set_cons_zero, List.set_cons_succ]
          refine wpAnyH_take (i := 4) (oi := { dst := some 9, op := .nilCheck (.tmp 8), type := _, pos := _, after := _, guard := _ }) (v := .pointer (some ⟨b, 0, none⟩)) rfl (by kernel_rfl) (by kernel_rfl) (by kernel_rfl) (fun _ _ _ h => h) (Or.inl ⟨by rfl, ?_⟩) hS0 ?_
          · intro w' hSw
            go_simp
          try simp only [Act.put, List.setIfInBounds_toArray, List.set_cons_zero, List.set_cons_succ]
          refine wpAnyH_take (i := 5) (oi := { dst := some 10, op := .fieldAddr 168 (.tmp 9) 2, type := _, pos := _, after := _, guard := _ }) (v := .pointer (some ⟨b, 5, none⟩)) rfl (by kernel_rfl) (by kernel_rfl) (by kernel_rfl) (fun _ _ _ h => h) (Or.inl ⟨by rfl, ?_⟩) hS0 ?_
          · intro w' hSw
            go_simp
          try simp only [Act.put, List.setIfInBounds_toArray, List.set_cons_zero, List.set_cons_succ]
          refine wpAnyH_take (i := 6) (oi := { dst := some 11, op := .load 70 (.tmp 10), type := _, pos := _, after := _, guard := _ }) (v := .pointer l) rfl (by kernel_rfl) (by kernel_rfl) (by kernel_rfl) (fun _ _ _ h => h) (Or.inl ⟨by rfl, ?_⟩) hS0 ?_
          · intro w' hSw
            go_simp
          try simp only [Act.put, List.setIfInBounds_toArray, List.set_cons_zero, List.set_cons_succ]
          refine wpAnyH_take (i := 7) (oi := { dst := some 12, op := .move (.tmp 1), type := _, pos := _, after := _, guard := _ }) (v := (.func (.func f) #[] caps)) rfl (by kernel_rfl) (by kernel_rfl) (by kernel_rfl) (fun _ _ _ h => h) (Or.inl ⟨by rfl, ?_⟩) hS0 ?_
          · intro w' hSw
            go_simp
          try simp only [Act.put, List.setIfInBounds_toArray, List.set_cons_zero, List.set_cons_succ]
          refine wpAnyH_ready (rs := [8]) (by kernel_rfl) (by simp) ?_
          refine AllReadyH.cons (o := { dst := some 13, op := .call { callee := .value (.func 92), args := #[.tmp 11, .tmp 12], argTypes := #[70, 173] }, type := _, pos := _, after := _, guard := _ }) rfl (fun K hK => ?_) AllReadyH.nil
          go_simp
          refine Calls.mono (HI'.out _ K0 HJ.out) ?_
          rintro e w1 ⟨rfl, j1, K1⟩
          go_wp2_with fail
          refine hK.out _ _ (HK.out _ K1) (fun hS1 => ?_)
          clear hK K
          try simp only [Act.put, List.setIfInBounds_toArray, List.set_cons_zero, List.set_cons_succ]
          have J1 := Lib.hid j1
          clear j1 hS0
          refine wpAnyH_take (i := 9) (oi := { dst := some 14, op := .move (.tmp 13), type := _, pos := _, after := _, guard := _ }) (v := .bool true) rfl (by kernel_rfl) (by kernel_rfl) (by kernel_rfl) (fun _ _ _ h => h) (Or.inl ⟨by rfl, ?_⟩) hS1 ?_
          · intro w' hSw
            go_simp
          try simp only [Act.put, List.setIfInBounds_toArray, List.set_cons_zero, List.set_cons_succ]
          refine wpAnyH_take (i := 10) (oi := { dst := some 15, op := .move (.tmp 1), type := _, pos := _, after := _, guard := _ }) (v := (.func (.func f) #[] caps)) rfl (by kernel_rfl) (by kernel_rfl) (by kernel_rfl) (fun _ _ _ h => h) (Or.inl ⟨by rfl, ?_⟩) hS1 ?_
          · intro w' hSw
            go_simp
          try simp only [Act.put, List.setIfInBounds_toArray, List.set_cons_zero, List.set_cons_succ]
          refine wpAnyH_take (i := 11) (oi := { dst := some 16, op := .move (.tmp 0), type := _, pos := _, after := _, guard := _ }) (v := .pointer (some ⟨b, 0, none⟩)) rfl (by kernel_rfl) (by kernel_rfl) (by kernel_rfl) (fun _ _ _ h => h) (Or.inl ⟨by rfl, ?_⟩) hS1 ?_
          · intro w' hSw
            go_simp
          try simp only [Act.put, List.setIfInBounds_toArray, List.set_cons_zero, List.set_cons_succ]
          refine wpAnyH_take (i := 12) (oi := { dst := some 17, op := .nilCheck (.tmp 16), type := _, pos := _, after := _, guard := _ }) (v := .pointer (some ⟨b, 0, none⟩)) rfl (by kernel_rfl) (by kernel_rfl) (by kernel_rfl) (fun _ _ _ h => h) (Or.inl ⟨by rfl, ?_⟩) hS1 ?_
          · intro w' hSw
            go_simp
          try simp only [Act.put, List.setIfInBounds_toArray, List.set_cons_zero, List.set_cons_succ]
          refine wpAnyH_take (i := 13) (oi := { dst := some 18, op := .fieldAddr 168 (.tmp 17) 0, type := _, pos := _, after := _, guard := _ }) (v := .pointer (some ⟨b, 0, none⟩)) rfl (by kernel_rfl) (by kernel_rfl) (by kernel_rfl) (fun _ _ _ h => h) (Or.inl ⟨by rfl, ?_⟩) hS1 ?_
          · intro w' hSw
            go_simp
          try simp only [Act.put, List.setIfInBounds_toArray, List.set_cons_zero, List.set_cons_succ]
          refine wpAnyH_take (i := 14) (oi := { dst := some 19, op := .load 9 (.tmp 18), type := _, pos := _, after := _, guard := _ }) (v := .string k) rfl (by kernel_rfl) (by kernel_rfl) (by kernel_rfl) (fun _ _ _ h => h) (Or.inl ⟨by rfl, ?_⟩) hS1 ?_
          · intro w' hSw
            go_simp
          try simp only [Act.put, List.setIfInBounds_toArray, List.set_cons_zero, List.set_cons_succ]
          refine wpAnyH_take (i := 15) (oi := { dst := some 20, op := .move (.tmp 0), type := _, pos := _, after := _, guard := _ }) (v := .pointer (some ⟨b, 0, none⟩)) rfl (by kernel_rfl) (by kernel_rfl) (by kernel_rfl) (fun _ _ _ h => h) (Or.inl ⟨by rfl, ?_⟩) hS1 ?_
          · intro w' hSw
            go_simp
          try simp only [Act.put, List.setIfInBounds_toArray, List.set_cons_zero, List.set_cons_succ]
          refine wpAnyH_take (i := 16) (oi := { dst := some 21, op := .nilCheck (.tmp 20), type := _, pos := _, after := _, guard := _ }) (v := .pointer (some ⟨b, 0, none⟩)) rfl (by kernel_rfl) (by kernel_rfl) (by kernel_rfl) (fun _ _ _ h => h) (Or.inl ⟨by rfl, ?_⟩) hS1 ?_
          · intro w' hSw
            go_simp
          try simp only [Act.put, List.setIfInBounds_toArray, List.set_cons_zero, List.set_cons_succ]
          refine wpAnyH_take (i := 17) (oi := { dst := some 22, op := .fieldAddr 168 (.tmp 21) 1, type := _, pos := _, after := _, guard := _ }) (v := .pointer (some ⟨b, 1, none⟩)) rfl (by kernel_rfl) (by kernel_rfl) (by kernel_rfl) (fun _ _ _ h => h) (Or.inl ⟨by rfl, ?_⟩) hS1 ?_
          · intro w' hSw
            go_simp
          try simp only [Act.put, List.setIfInBounds_toArray, List.set_cons_zero, List.set_cons_succ]
          refine wpAnyH_take (i := 18) (oi := { dst := some 23, op := .load 145 (.tmp 22), type := _, pos := _, after := _, guard := _ }) (v := .agg #[.slice v.A v.n v.c, .int .i64 v.st, .int .i64 v.pr, .int .i64 v.lv]) rfl (by kernel_rfl) (by kernel_rfl) (by kernel_rfl) (fun _ _ _ h => h) (Or.inl ⟨by rfl, ?_⟩) hS1 ?_
          · intro w' hSw
            go_simp
          try simp only [Act.put, List.setIfInBounds_toArray, List.set_cons_zero, List.set_cons_succ]
          refine wpAnyH_ready (rs := [19]) (by kernel_rfl) (by simp) ?_
          refine AllReadyH.cons (o := { dst := some 24, op := .call { callee := .value (.tmp 15), args := #[.tmp 19, .tmp 23], argTypes := #[9, 145] }, type := _, pos := _, after := _, guard := _ }) rfl (fun K hK => ?_) AllReadyH.nil
          go_simp
          refine Calls.mono (HY.out _ K1 J1.out) ?_
          rintro e w2 ⟨rfl, j2, K2⟩
          go_wp2_with fail
          refine hK.out _ _ (HK.out _ K2) (fun hS2 => ?_)
          clear hK K
          try simp only [Act.put, List.setIfInBounds_toArray, List.set_cons_zero, List.set_cons_succ]
          have J2 := Lib.hid j2
          clear j2 hS1
          refine wpAnyH_take (i := 20) (oi := { dst := some 25, op := .pick (.tmp 14) (.tmp 24) (.const (.bool false)), type := _, pos := _, after := _, guard := _ }) (v := .bool false) rfl (by kernel_rfl) (by kernel_rfl) (by kernel_rfl) (fun _ _ _ h => h) (Or.inl ⟨by rfl, ?_⟩) hS2 ?_
          · intro w' hSw
            go_simp
          try simp only [Act.put, List.setIfInBounds_toArray, List.set_cons_zero, List.set_cons_succ]
          refine wpAnyH_take (i := 21) (oi := { dst := some 26, op := .move (.tmp 25), type := _, pos := _, after := _, guard := _ }) (v := .bool false) rfl (by kernel_rfl) (by kernel_rfl) (by kernel_rfl) (fun _ _ _ h => h) (Or.inl ⟨by rfl, ?_⟩) hS2 ?_
          · intro w' hSw
            go_simp
          try simp only [Act.put, List.setIfInBounds_toArray, List.set_cons_zero, List.set_cons_succ]
          refine wpAnyH_take (i := 22) (oi := { dst := some 27, op := .move (.tmp 0), type := _, pos := _, after := _, guard := _ }) (v := undef) rfl (by kernel_rfl) (by kernel_rfl) (by kernel_rfl) (fun _ _ _ h => h) (Or.inr ⟨by rfl, rfl⟩) hS2 ?_
          try simp only [Act.put, List.setIfInBounds_toArray, List.set_cons_zero, List.set_cons_succ]
          refine wpAnyH_take (i := 23) (oi := { dst := some 28, op := .nilCheck (.tmp 27), type := _, pos := _, after := _, guard := _ }) (v := undef) rfl (by kernel_rfl) (by kernel_rfl) (by kernel_rfl) (fun _ _ _ h => h) (Or.inr ⟨by rfl, rfl⟩) hS2 ?_
          try simp only [Act.put, List.setIfInBounds_toArray, List.set_cons_zero, List.set_cons_succ]
          refine wpAnyH_take (i := 24) (oi := { dst := some 29, op := .fieldAddr 168 (.tmp 28) 3, type := _, pos := _, after := _, guard := _ }) (v := undef) rfl (by kernel_rfl) (by kernel_rfl) (by kernel_rfl) (fun _ _ _ h => h) (Or.inr ⟨by rfl, rfl⟩) hS2 ?_
          try simp only [Act.put, List.setIfInBounds_toArray, List.set_cons_zero, List.set_cons_succ]
          refine wpAnyH_take (i := 25) (oi := { dst := some 30, op := .load 70 (.tmp 29), type := _, pos := _, after := _, guard := _ }) (v := undef) rfl (by kernel_rfl) (by kernel_rfl) (by kernel_rfl) (fun _ _ _ h => h) (Or.inr ⟨by rfl, rfl⟩) hS2 ?_
          try simp only [Act.put, List.setIfInBounds_toArray, List.set_cons_zero, List.set_cons_succ]
          refine wpAnyH_take (i := 26) (oi := { dst := some 31, op := .move (.tmp 1), type := _, pos := _, after := _, guard := _ }) (v := undef) rfl (by kernel_rfl) (by kernel_rfl) (by kernel_rfl) (fun _ _ _ h => h) (Or.inr ⟨by rfl, rfl⟩) hS2 ?_
          try simp only [Act.put, List.setIfInBounds_toArray, List.set_cons_zero, List.set_cons_succ]
          refine wpAnyH_take (i := 27) (oi := { dst := some 32, op := .call { callee := .value (.func 92), args := #[.tmp 30, .tmp 31], argTypes := #[70, 173] }, type := _, pos := _, after := _, guard := _ }) (v := undef) rfl (by kernel_rfl) (by kernel_rfl) (by kernel_rfl) (fun _ _ _ h => h) (Or.inr ⟨by rfl, rfl⟩) hS2 ?_
          try simp only [Act.put, List.setIfInBounds_toArray, List.set_cons_zero, List.set_cons_succ]
          refine wpAnyH_take (i := 28) (oi := { dst := some 33, op := .pick (.tmp 26) (.tmp 32) (.const (.bool false)), type := _, pos := _, after := _, guard := _ }) (v := .bool false) rfl (by kernel_rfl) (by kernel_rfl) (by kernel_rfl) (fun _ _ _ h => h) (Or.inl ⟨by rfl, ?_⟩) hS2 ?_
          · intro w' hSw
            go_simp
          try simp only [Act.put, List.setIfInBounds_toArray, List.set_cons_zero, List.set_cons_succ]
          refine wpAnyH_take (i := 29) (oi := { dst := some 34, op := .pick (.tmp 7) (.const (.bool true)) (.tmp 33), type := _, pos := _, after := _, guard := _ }) (v := .bool false) rfl (by kernel_rfl) (by kernel_rfl) (by kernel_rfl) (fun _ _ _ h => h) (Or.inl ⟨by rfl, ?_⟩) hS2 ?_
          · intro w' hSw
            go_simp
          try simp only [Act.put, List.setIfInBounds_toArray, List.set_cons_zero, List.set_cons_succ]
          refine wpAnyH_take (i := 30) (oi := { dst := some 4, op := .assign (.tmp 34), type := _, pos := _, after := _, guard := _ }) (v := .bool false) rfl (by kernel_rfl) (by kernel_rfl) (by kernel_rfl) (fun _ _ _ h => h) (Or.inl ⟨by rfl, ?_⟩) hS2 ?_
          · intro w' hSw
            go_simp
          try simp only [Act.put, List.setIfInBounds_toArray, List.set_cons_zero, List.set_cons_succ]
          refine wpAnyH_done (by kernel_rfl) ?_ _
          go_wp2_with fail
          go_ret
          exact ⟨by rw [HE.out]; rfl, by rw [HE.out]; simpa using J2.out, K2⟩
      · have q1 := Bool.eq_false_iff.2 q1
        have HE := Lib.hid (Law.runW_stop (ys := (k, v) :: rs) q1)
        have HI' : Hid (∀ w', Law.Keeps 168 w w' → J pre w' → Calls Tryz.prog 92 #[.pointer l, .func (.func f) #[] caps] w' fun e w'' => e = .returned (.bool false) ∧ J (pre ++ (Law.runW go pre.length ls).1) w'' ∧ Law.Keeps 168 w w'') := fun w' K hJ' =>
          (HI.out w' K hJ').mono fun _ _ ⟨he, hj, hb'⟩ => ⟨by rw [he, q1], hj, K.trans hb'⟩
        clear hY hD ih hJ hi h hl hr hz hz1 hz2 hz3 q1 HI HN
        go_enter Tryz.func92, Tryz.ntmps92
        go_wp2_with fail
        refine wp_region_held_drew (S := (fun w' => (w'.cell? ⟨b, 0, none⟩ = some (.string k) ∧ w'.cell? ⟨b, 1, none⟩ = some (.slice v.A v.n v.c) ∧ w'.cell? ⟨b, 2, none⟩ = some (.int .i64 v.st) ∧ w'.cell? ⟨b, 3, none⟩ = some (.int .i64 v.pr) ∧ w'.cell? ⟨b, 4, none⟩ = some (.int .i64 v.lv) ∧ w'.cell? ⟨b, 5, none⟩ = some (.pointer l) ∧ w'.cell? ⟨b, 6, none⟩ = some (.pointer r)) ∧ Law.Keeps 168 w w')) (by kernel_rfl) (HK.out _ K0) (fun hS0 => ?_)
        refine wpAnyH_take (i := 0) (oi := { dst := some 5, op := .move (.tmp 0), type := _, pos := _, after := _, guard := _ }) (v := .pointer (some ⟨b, 0, none⟩)) rfl (by kernel_rfl) (by kernel_rfl) (by kernel_rfl) (fun _ _ _ h => h) (Or.inl ⟨by rfl, ?_⟩) hS0 ?_
        · intro w' hSw
          go_simp
        try simp only [Act.put, List.setIfInBounds_toArray, List.set_cons_zero, List.set_cons_succ]
        refine wpAnyH_take (i := 1) (oi := { dst := some 6, op := .binOp .eql 70 (.tmp 5) (.const (.pointer none)) 70, type := _, pos := _, after := _, guard := _ }) (v := .bool false) rfl (by kernel_rfl) (by kernel_rfl) (by kernel_rfl) (fun _ _ _ h => h) (Or.inl ⟨by rfl, ?_⟩) hS0 ?_
        · intro w' hSw
          go_simp
        try simp only [Act.put, List.setIfInBounds_toArray, List.set_cons_zero, List.set_cons_succ]
        refine wpAnyH_take (i := 2) (oi := { dst := some 7, op := .move (.tmp 6), type := _, pos := _, after := _, guard := _ }) (v := .bool false) rfl (by kernel_rfl) (by kernel_rfl) (by kernel_rfl) (fun _ _ _ h => h) (Or.inl ⟨by rfl, ?_⟩) hS0 ?_
        · intro w' hSw
          go_simp
        try simp only [Act.put, List.setIfInBounds_toArray, List.set_cons_zero, List.set_cons_succ]
        refine wpAnyH_take (i := 3) (oi := { dst := some 8, op := .move (.tmp 0), type := _, pos := _, after := _, guard := _ }) (v := .pointer (some ⟨b, 0, none⟩)) rfl (by kernel_rfl) (by kernel_rfl) (by kernel_rfl) (fun _ _ _ h => h) (Or.inl ⟨by rfl, ?_⟩) hS0 ?_
        · intro w' hSw
          go_simp
        try simp only [Act.put, List.setIfInBounds_toArray, List.set_cons_zero, List.set_cons_succ]
        refine wpAnyH_take (i := 4) (oi := { dst := some 9, op := .nilCheck (.tmp 8), type := _, pos := _, after := _, guard := _ }) (v := .pointer (some ⟨b, 0, none⟩)) rfl (by kernel_rfl) (by kernel_rfl) (by kernel_rfl) (fun _ _ _ h => h) (Or.inl ⟨by rfl, ?_⟩) hS0 ?_
        · intro w' hSw
          go_simp
        try simp only [Act.put, List.setIfInBounds_toArray, List.set_cons_zero, List.set_cons_succ]
        refine wpAnyH_take (i := 5) (oi := { dst := some 10, op := .fieldAddr 168 (.tmp 9) 2, type := _, pos := _, after := _, guard := _ }) (v := .pointer (some ⟨b, 5, none⟩)) rfl (by kernel_rfl) (by kernel_rfl) (by kernel_rfl) (fun _ _ _ h => h) (Or.inl ⟨by rfl, ?_⟩) hS0 ?_
        · intro w' hSw
          go_simp
        try simp only [Act.put, List.setIfInBounds_toArray, List.set_cons_zero, List.set_cons_succ]
        refine wpAnyH_take (i := 6) (oi := { dst := some 11, op := .load 70 (.tmp 10), type := _, pos := _, after := _, guard := _ }) (v := .pointer l) rfl (by kernel_rfl) (by kernel_rfl) (by kernel_rfl) (fun _ _ _ h => h) (Or.inl ⟨by rfl, ?_⟩) hS0 ?_
        · intro w' hSw
          go_simp
        try simp only [Act.put, List.setIfInBounds_toArray, List.set_cons_zero, List.set_cons_succ]
        refine wpAnyH_take (i := 7) (oi := { dst := some 12, op := .move (.tmp 1), type := _, pos := _, after := _, guard := _ }) (v := (.func (.func f) #[] caps)) rfl (by kernel_rfl) (by kernel_rfl) (by kernel_rfl) (fun _ _ _ h => h) (Or.inl ⟨by rfl, ?_⟩) hS0 ?_
        · intro w' hSw
          go_simp
        try simp only [Act.put, List.setIfInBounds_toArray, List.set_cons_zero, List.set_cons_succ]
        refine wpAnyH_ready (rs := [8]) (by kernel_rfl) (by simp) ?_
        refine AllReadyH.cons (o := { dst := some 13, op := .call { callee := .value (.func 92), args := #[.tmp 11, .tmp 12], argTypes := #[70, 173] }, type := _, pos := _, after := _, guard := _ }) rfl (fun K hK => ?_) AllReadyH.nil
        go_simp
        refine Calls.mono (HI'.out _ K0 HJ.out) ?_
        rintro e w1 ⟨rfl, j1, K1⟩
        go_wp2_with fail
        refine hK.out _ _ (HK.out _ K1) (fun hS1 => ?_)
        clear hK K
        try simp only [Act.put, List.setIfInBounds_toArray, List.set_cons_zero, List.set_cons_succ]
        have J1 := Lib.hid j1
        clear j1 hS0
        refine wpAnyH_take (i := 9) (oi := { dst := some 14, op := .move (.tmp 13), type := _, pos := _, after := _, guard := _ }) (v := .bool false) rfl (by kernel_rfl) (by kernel_rfl) (by kernel_rfl) (fun _ _ _ h => h) (Or.inl ⟨by rfl, ?_⟩) hS1 ?_
        · intro w' hSw
          go_simp
        try simp only [Act.put, List.setIfInBounds_toArray, List.set_cons_zero, List.set_cons_succ]
        refine wpAnyH_take (i := 10) (oi := { dst := some 15, op := .move (.tmp 1), type := _, pos := _, after := _, guard := _ }) (v := undef) rfl (by kernel_rfl) (by kernel_rfl) (by kernel_rfl) (fun _ _ _ h => h) (Or.inr ⟨by rfl, rfl⟩) hS1 ?_
        try simp only [Act.put, List.setIfInBounds_toArray, List.set_cons_zero, List.set_cons_succ]
        refine wpAnyH_take (i := 11) (oi := { dst := some 16, op := .move (.tmp 0), type := _, pos := _, after := _, guard := _ }) (v := undef) rfl (by kernel_rfl) (by kernel_rfl) (by kernel_rfl) (fun _ _ _ h => h) (Or.inr ⟨by rfl, rfl⟩) hS1 ?_
        try simp only [Act.put, List.setIfInBounds_toArray, List.set_cons_zero, List.set_cons_succ]
        refine wpAnyH_take (i := 12) (oi := { dst := some 17, op := .nilCheck (.tmp 16), type := _, pos := _, after := _, guard := _ }) (v := undef) rfl (by kernel_rfl) (by kernel_rfl) (by kernel_rfl) (fun _ _ _ h => h) (Or.inr ⟨by rfl, rfl⟩) hS1 ?_
        try simp only [Act.put, List.setIfInBounds_toArray, List.set_cons_zero, List.set_cons_succ]
        refine wpAnyH_take (i := 13) (oi := { dst := some 18, op := .fieldAddr 168 (.tmp 17) 0, type := _, pos := _, after := _, guard := _ }) (v := undef) rfl (by kernel_rfl) (by kernel_rfl) (by kernel_rfl) (fun _ _ _ h => h) (Or.inr ⟨by rfl, rfl⟩) hS1 ?_
        try simp only [Act.put, List.setIfInBounds_toArray, List.set_cons_zero, List.set_cons_succ]
        refine wpAnyH_take (i := 14) (oi := { dst := some 19, op := .load 9 (.tmp 18), type := _, pos := _, after := _, guard := _ }) (v := undef) rfl (by kernel_rfl) (by kernel_rfl) (by kernel_rfl) (fun _ _ _ h => h) (Or.inr ⟨by rfl, rfl⟩) hS1 ?_
        try simp only [Act.put, List.setIfInBounds_toArray, List.set_cons_zero, List.set_cons_succ]
        refine wpAnyH_take (i := 15) (oi := { dst := some 20, op := .move (.tmp 0), type := _, pos := _, after := _, guard := _ }) (v := undef) rfl (by kernel_rfl) (by kernel_rfl) (by kernel_rfl) (fun _ _ _ h => h) (Or.inr ⟨by rfl, rfl⟩) hS1 ?_
        try simp only [Act.put, List.setIfInBounds_toArray, List.set_cons_zero, List.set_cons_succ]
        refine wpAnyH_take (i := 16) (oi := { dst := some 21, op := .nilCheck (.tmp 20), type := _, pos := _, after := _, guard := _ }) (v := undef) rfl (by kernel_rfl) (by kernel_rfl) (by kernel_rfl) (fun _ _ _ h => h) (Or.inr ⟨by rfl, rfl⟩) hS1 ?_
        try simp only [Act.put, List.setIfInBounds_toArray, List.set_cons_zero, List.set_cons_succ]
        refine wpAnyH_take (i := 17) (oi := { dst := some 22, op := .fieldAddr 168 (.tmp 21) 1, type := _, pos := _, after := _, guard := _ }) (v := undef) rfl (by kernel_rfl) (by kernel_rfl) (by kernel_rfl) (fun _ _ _ h => h) (Or.inr ⟨by rfl, rfl⟩) hS1 ?_
        try simp only [Act.put, List.setIfInBounds_toArray, List.set_cons_zero, List.set_cons_succ]
        refine wpAnyH_take (i := 18) (oi := { dst := some 23, op := .load 145 (.tmp 22), type := _, pos := _, after := _, guard := _ }) (v := undef) rfl (by kernel_rfl) (by kernel_rfl) (by kernel_rfl) (fun _ _ _ h => h) (Or.inr ⟨by rfl, rfl⟩) hS1 ?_
        try simp only [Act.put, List.setIfInBounds_toArray, List.set_cons_zero, List.set_cons_succ]
        refine wpAnyH_take (i := 19) (oi := { dst := some 24, op := .call { callee := .value (.tmp 15), args := #[.tmp 19, .tmp 23], argTypes := #[9, 145] }, type := _, pos := _, after := _, guard := _ }) (v := undef) rfl (by kernel_rfl) (by kernel_rfl) (by kernel_rfl) (fun _ _ _ h => h) (Or.inr ⟨by rfl, rfl⟩) hS1 ?_
        try simp only [Act.put, List.setIfInBounds_toArray, List.set_cons_zero, List.set_cons_succ]
        refine wpAnyH_take (i := 20) (oi := { dst := some 25, op := .pick (.tmp 14) (.tmp 24) (.const (.bool false)), type := _, pos := _, after := _, guard := _ }) (v := .bool false) rfl (by kernel_rfl) (by kernel_rfl) (by kernel_rfl) (fun _ _ _ h => h) (Or.inl ⟨by rfl, ?_⟩) hS1 ?_
        · intro w' hSw
          go_simp
        try simp only [Act.put, List.setIfInBounds_toArray, List.set_cons_zero, List.set_cons_succ]
        refine wpAnyH_take (i := 21) (oi := { dst := some 26, op := .move (.tmp 25), type := _, pos := _, after := _, guard := _ }) (v := .bool false) rfl (by kernel_rfl) (by kernel_rfl) (by kernel_rfl) (fun _ _ _ h => h) (Or.inl ⟨by rfl, ?_⟩) hS1 ?_
        · intro w' hSw
          go_simp
        try simp only [Act.put, List.setIfInBounds_toArray, List.set_cons_zero, List.set_cons_succ]
        refine wpAnyH_take (i := 22) (oi := { dst := some 27, op := .move (.tmp 0), type := _, pos := _, after := _, guard := _ }) (v := undef) rfl (by kernel_rfl) (by kernel_rfl) (by kernel_rfl) (fun _ _ _ h => h) (Or.inr ⟨by rfl, rfl⟩) hS1 ?_
        try simp only [Act.put, List.setIfInBounds_toArray, List.set_cons_zero, List.set_cons_succ]
        refine wpAnyH_take (i := 23) (oi := { dst := some 28, op := .nilCheck (.tmp 27), type := _, pos := _, after := _, guard := _ }) (v := undef) rfl (by kernel_rfl) (by kernel_rfl) (by kernel_rfl) (fun _ _ _ h => h) (Or.inr ⟨by rfl, rfl⟩) hS1 ?_
        try simp only [Act.put, List.setIfInBounds_toArray, List.set_cons_zero, List.set_cons_succ]
        refine wpAnyH_take (i := 24) (oi := { dst := some 29, op := .fieldAddr 168 (.tmp 28) 3, type := _, pos := _, after := _, guard := _ }) (v := undef) rfl (by kernel_rfl) (by kernel_rfl) (by kernel_rfl) (fun _ _ _ h => h) (Or.inr ⟨by rfl, rfl⟩) hS1 ?_
        try simp only [Act.put, List.setIfInBounds_toArray, List.set_cons_zero, List.set_cons_succ]
        refine wpAnyH_take (i := 25) (oi := { dst := some 30, op := .load 70 (.tmp 29), type := _, pos := _, after := _, guard := _ }) (v := undef) rfl (by kernel_rfl) (by kernel_rfl) (by kernel_rfl) (fun _ _ _ h => h) (Or.inr ⟨by rfl, rfl⟩) hS1 ?_
        try simp only [Act.put, List.setIfInBounds_toArray, List.set_cons_zero, List.set_cons_succ]
        refine wpAnyH_take (i := 26) (oi := { dst := some 31, op := .move (.tmp 1), type := _, pos := _, after := _, guard := _ }) (v := undef) rfl (by kernel_rfl) (by kernel_rfl) (by kernel_rfl) (fun _ _ _ h => h) (Or.inr ⟨by rfl, rfl⟩) hS1 ?_
        try simp only [Act.put, List.setIfInBounds_toArray, List.set_cons_zero, List.set_cons_succ]
        refine wpAnyH_take (i := 27) (oi := { dst := some 32, op := .call { callee := .value (.func 92), args := #[.tmp 30, .tmp 31], argTypes := #[70, 173] }, type := _, pos := _, after := _, guard := _ }) (v := undef) rfl (by kernel_rfl) (by kernel_rfl) (by kernel_rfl) (fun _ _ _ h => h) (Or.inr ⟨by rfl, rfl⟩) hS1 ?_
        try simp only [Act.put, List.setIfInBounds_toArray, List.set_cons_zero, List.set_cons_succ]
        refine wpAnyH_take (i := 28) (oi := { dst := some 33, op := .pick (.tmp 26) (.tmp 32) (.const (.bool false)), type := _, pos := _, after := _, guard := _ }) (v := .bool false) rfl (by kernel_rfl) (by kernel_rfl) (by kernel_rfl) (fun _ _ _ h => h) (Or.inl ⟨by rfl, ?_⟩) hS1 ?_
        · intro w' hSw
          go_simp
        try simp only [Act.put, List.setIfInBounds_toArray, List.set_cons_zero, List.set_cons_succ]
        refine wpAnyH_take (i := 29) (oi := { dst := some 34, op := .pick (.tmp 7) (.const (.bool true)) (.tmp 33), type := _, pos := _, after := _, guard := _ }) (v := .bool false) rfl (by kernel_rfl) (by kernel_rfl) (by kernel_rfl) (fun _ _ _ h => h) (Or.inl ⟨by rfl, ?_⟩) hS1 ?_
        · intro w' hSw
          go_simp
        try simp only [Act.put, List.setIfInBounds_toArray, List.set_cons_zero, List.set_cons_succ]
        refine wpAnyH_take (i := 30) (oi := { dst := some 4, op := .assign (.tmp 34), type := _, pos := _, after := _, guard := _ }) (v := .bool false) rfl (by kernel_rfl) (by kernel_rfl) (by kernel_rfl) (fun _ _ _ h => h) (Or.inl ⟨by rfl, ?_⟩) hS1 ?_
        · intro w' hSw
          go_simp
        try simp only [Act.put, List.setIfInBounds_toArray, List.set_cons_zero, List.set_cons_succ]
        refine wpAnyH_done (by kernel_rfl) ?_ _
        go_wp2_with fail
        go_ret
        exact ⟨by rw [HE.out]; rfl, by rw [HE.out]; exact J1.out, K1⟩

set_option maxHeartbeats 1000000 in
/-- All, at a function that is handed in -/
theorem each (f : FuncId) (caps : Array Value) (eg : ∀ args w, (callFunc f args).run Tryz.prog w = .ok (.enter f args) w) (J : List (ByteArray × EnV) → World → Prop) (go : Nat → Bool) (n₀ : Nat) (xs : List (ByteArray × EnV))
    (hY : ∀ pre k v W, J pre W → pre ++ [(k, v)] <+: xs → Calls Tryz.prog f (#[.string k, .agg #[.slice v.A v.n v.c, .int .i64 v.st, .int .i64 v.pr, .int .i64 v.lv]] ++ caps) W fun e W' => e = .returned (.bool (go (pre.length + 1))) ∧ J (pre ++ [(k, v)]) W' ∧ Law.Keeps 168 W W')
    (hD : ∀ pre W n, J pre W → J pre (W.drewN n)) (W : World) (q : Nat) (p : Option Addr) (hq : W.cell? ⟨q, 0, none⟩ = some (.pointer p)) (h : At W n₀ p xs) (h0 : J [] W) :
    Calls Tryz.prog 91 #[.func (.func f) #[] caps, .pointer (some ⟨q, 0, none⟩)] W fun e W' => (∃ v, e = .returned v) ∧ J (Law.runW go 0 xs).1 W' ∧ Law.Keeps 168 W W' := by
  have HW := Lib.hid (walk f caps eg J go n₀ xs hY hD xs.length W p [] xs (Nat.le_refl _) h h0 (by simp))
  clear hY hD h h0
  go_enter Tryz.func91, Tryz.ntmps91
  go_wp2_with fail
  refine HW.out.mono ?_
  rintro e w' ⟨rfl, hj, hb⟩
  have HJ := Lib.hid hj
  have HB := Lib.hid hb
  clear hj hb HW
  go_wp2_with fail
  go_end0
  exact ⟨⟨_, rfl⟩, by simpa using HJ.out, HB.out⟩
end OmapB
end Go.Proofs.YtohdlnefgieenaaGreat
/-
  Sessions in memory: an own row of them, a call that makes one; Late (layer 1).
-/
namespace Go.Law
open Go.RowKit
theorem Is.row {w : World} {g base : Nat} {e : TypeId} {zs : List Sn} (h : Is w g e (flatS zs).toArray) (hb : base ≤ g) (hl : zs.length ≤ maxLen) : w.ownsRow base e 4 (.slice (some ⟨g, 0, none⟩) zs.length zs.length) zs.length (flatS zs) :=
  ⟨flatS_length zs, .inr ⟨g, zs.length, _, rfl, hb, h, Nat.le_refl _, hl, by simp [flatS_length], by rw [List.take_of_length_le (by simp [flatS_length])]⟩⟩
theorem Is.seqS {w : World} {g : Nat} {e : TypeId} {cs : List Value} (h : Is w g e cs.toArray) : Seq w g (g + 1) (some ⟨g, 0, none⟩) cs := fun _ =>
  ⟨g, 0, rfl, Nat.le_refl _, Nat.lt_succ_self _, fun i u hu => by rw [Nat.zero_add, h.cell]; simpa using hu⟩
theorem row_of {w : World} {g base G : Nat} {e : TypeId} {cur : List Value} {zs : List Sn} (h : Is w g e cur.toArray) (hb : base ≤ g) (hle : zs.length ≤ G) (hG : G ≤ maxLen) (hs : cur.length = G * 4) (ht : cur.take (zs.length * 4) = flatS zs) :
    w.ownsRow base e 4 (.slice (some ⟨g, 0, none⟩) zs.length G) zs.length (flatS zs) :=
  ⟨flatS_length zs, .inr ⟨g, G, _, rfl, hb, h, hle, hG, by simpa using hs, ht⟩⟩
theorem own_base {w : World} {base base' : Nat} {e : TypeId} {size n : Nat} {v : Value} {xs : List Value} (h : w.ownsRow base' e size v n xs) (hb : base ≤ base') : w.ownsRow base e size v n xs := by
  refine ⟨h.1, ?_⟩
  rcases h.2 with hn | ⟨g, cap, cur, rfl, hg, rest⟩
  · exact .inl hn
  · exact .inr ⟨g, cap, cur, rfl, by omega, rest⟩
theorem live_snoc (now : Int) (xs : List Sn) (q : Sn) : live now (xs ++ [q]) = if now < q.2.2.2 then live now xs ++ [q] else live now xs := by
  unfold live
  rw [List.filter_append]
  by_cases h : now < q.2.2.2
  · rw [if_pos h, List.filter_cons_of_pos (by simpa using h)]; rfl
  · rw [if_neg h, List.filter_cons_of_neg (by simpa using h)]; simp
theorem own_empty (w : World) {base : Nat} (e : TypeId) (hb : base ≤ w.heap.size) : (w.alloc (.cells #[] e)).ownsRow base e 4 (.slice (some ⟨w.heap.size, 0, none⟩) 0 0) 0 [] :=
  ⟨rfl, .inr ⟨w.heap.size, 0, #[], rfl, hb, heap_alloc_new w _, Nat.le_refl _, Nat.zero_le _, rfl, rfl⟩⟩
end Go.Law
namespace Go.Proofs.YtohdlnefgieenaaGreat
open Go.RowKit
namespace Sess
open Go.Law
theorem elem : ∃ i, Law.Elem Tryz.prog 105 138 i (.agg #[.int .i64 0, .int .i64 0, .int .i64 0, .int .u64 0]) 4 32 := Law.Elem.of Tryz.underlying105 (by kernel_rfl) rfl (by decide)
/-- the slice v is an own row, from base on, of these sessions -/
abbrev Row (w : World) (base : Nat) (v : Value) (zs : List Sn) : Prop := w.ownsRow base 138 4 v zs.length (flatS zs)

/-- behind a call that makes a row of these sessions -/
def Listed (w : World) (base : Nat) (zs : List Sn) (e : Ending) (w' : World) : Prop := ∃ A c, e = .returned (.slice A zs.length c) ∧ Row w' base (.slice A zs.length c) zs ∧ Below base w w'

/-- behind a call that makes a row of these sessions, and an error's number -/
def Listed2 (w : World) (zs : List Sn) (err : Int) (e : Ending) (w' : World) : Prop := ∃ A c, e = .returned (.tuple #[.slice A zs.length c, .int .i64 err]) ∧ Row w' w.heap.size (.slice A zs.length c) zs ∧ Below w.heap.size w w'

set_option maxHeartbeats 400000 in
theorem late (a b : Int) (w : World) :
    Calls Tryz.prog 107 #[.int .u64 a, .int .u64 b] w fun e w' => e = .returned (.bool (decide (b ≤ a))) ∧ w = w' := by
  go_enter Tryz.func107, Tryz.ntmps107
  go_wp2
  go_ret
  exact ⟨rfl, rfl⟩
end Sess
end Go.Proofs.YtohdlnefgieenaaGreat

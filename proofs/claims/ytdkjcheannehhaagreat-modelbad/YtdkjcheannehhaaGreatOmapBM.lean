/-
  What the calls of an ordered map (layer 4) of texts to entries come to: With, Without, Get, Len, All, Keys.
-/
import Derived.Test.YtdkjcheannehhaaGreatOmapBI
namespace Go.Proofs.YtdkjcheannehhaaGreat
open Go.RowKit Go.Shelf
attribute [local go_sem] Oper.semAt_some
namespace OmapB
open Go.Law (EnV)
/-- a map -/
abbrev M (p : Option Addr) : Value := .agg #[.pointer p]
/-- behind what makes a map of these pairs -/
def MadeM (w : World) (zs : List (ByteArray × EnV)) (e : Ending) (w' : World) : Prop := ∃ p, e = .returned (M p) ∧ At w' w'.heap.size p zs ∧ Below w.heap.size w w'

set_option maxHeartbeats 1000000 in
theorem withM (k : ByteArray) (v : EnV) {w : World} {B : Nat} {p : Option Addr} {xs : List (ByteArray × EnV)} (h : At w B p xs) (hB : B ≤ w.heap.size) (hR : Law.Rises lt xs) (hx : xs.length ≤ 999) :
    Calls Tryz.prog 107 #[M p, .string k, .agg #[.slice v.A v.n v.c, .int .i64 v.st, .int .i64 v.pr, .int .i64 v.lv]] w (MadeM w (Law.putK lt k v xs)) := by
  have H := Lib.hid h
  have HR := Lib.hid hR
  clear h hR
  go_enter Tryz.func107, Tryz.ntmps107
  go_wp2_with fail
  have B0 : Below w.heap.size w (((w.alloc (.cells #[.pointer p] 77)).alloc (.cells #[.slice v.A v.n v.c, .int .i64 v.st, .int .i64 v.pr, .int .i64 v.lv] 150)).alloc (.cells #[.pointer none] 77)) := (((Below.refl _ w).alloc (Nat.le_refl _) _).alloc (by simp) _).alloc (by simp; omega) _
  refine (with_ k v xs.length _ B p xs (Nat.le_refl _) (H.out.under (B0.mono hB)) (by simp; omega) HR.out hx).mono ?_
  rintro e w1 ⟨p1, rfl, t1, b1⟩
  have I1 : Law.Is w1 (w.heap.size + 1 + 1) 77 #[.pointer none] := (Law.Is.new ((w.alloc (.cells #[.pointer p] 77)).alloc (.cells #[.slice v.A v.n v.c, .int .i64 v.st, .int .i64 v.pr, .int .i64 v.lv] 150)) 77 #[.pointer none] (by simp)).below b1 (by simp)
  have c0 := I1.cell 0
  have f0 := I1.frozen 0
  have l0 := I1.lt
  simp only [List.getElem?_toArray, List.getElem?_cons_zero] at c0
  have hb : Below w.heap.size w w1 := B0.trans (b1.mono (by simp; omega))
  have T1 := Lib.hid t1
  have HB := Lib.hid hb
  have HI := Lib.hid I1
  clear t1 hb b1 I1 B0
  go_wp2_with fail
  have T2 := Lib.hid (T1.out.far (i := 0) HI.out (by decide) (.pointer p1))
  have I2 : Law.Is (w1.setCell ⟨w.heap.size + 1 + 1, 0, none⟩ (.pointer p1)) (w.heap.size + 1 + 1) 77 #[.pointer p1] := HI.out.set 0 _ rfl
  have c2 : (w1.setCell ⟨w.heap.size + 1 + 1, 0, none⟩ (.pointer p1)).cell? ⟨w.heap.size + 1 + 1, 0, none⟩ = some (Value.pointer p1) := (I2.cell 0).trans rfl
  have B2 := Lib.hid (HB.out.setCell (p := ⟨w.heap.size + 1 + 1, 0, none⟩) (by simp; omega) (.pointer p1))
  have e2 : w1.heap.size = (w1.setCell ⟨w.heap.size + 1 + 1, 0, none⟩ (.pointer p1)).heap.size := by simp
  rw [e2] at T2
  clear c0 f0 l0 T1 HB HI e2 I2
  generalize w1.setCell ⟨w.heap.size + 1 + 1, 0, none⟩ (.pointer p1) = w2 at *
  exact bodyPost_ret (v := M p1) (by simp [results, Tryz.results107, go_sem, c2]) rfl ⟨p1, rfl, T2.out, B2.out⟩

set_option maxHeartbeats 1000000 in
theorem withoutM (k : ByteArray) {w : World} {B : Nat} {p : Option Addr} {xs : List (ByteArray × EnV)} (h : At w B p xs) (hB : B ≤ w.heap.size) (hR : Law.Rises lt xs) (hx : xs.length ≤ 999) :
    Calls Tryz.prog 106 #[M p, .string k] w (MadeM w (Law.outK k xs)) := by
  have H := Lib.hid h
  have HR := Lib.hid hR
  clear h hR
  go_enter Tryz.func106, Tryz.ntmps106
  go_wp2_with fail
  have B0 : Below w.heap.size w ((w.alloc (.cells #[.pointer p] 77)).alloc (.cells #[.pointer none] 77)) := ((Below.refl _ w).alloc (Nat.le_refl _) _).alloc (by simp) _
  refine (without xs.length k _ B p xs (Nat.le_refl _) (H.out.under (B0.mono hB)) (by simp; omega) HR.out hx).mono ?_
  rintro e w1 ⟨p1, rfl, t1, b1⟩
  have I1 : Law.Is w1 (w.heap.size + 1) 77 #[.pointer none] := (Law.Is.new (w.alloc (.cells #[.pointer p] 77)) 77 #[.pointer none] (by simp)).below b1 (by simp)
  have c0 := I1.cell 0
  have f0 := I1.frozen 0
  have l0 := I1.lt
  simp only [List.getElem?_toArray, List.getElem?_cons_zero] at c0
  have hb : Below w.heap.size w w1 := B0.trans (b1.mono (by simp; omega))
  have T1 := Lib.hid t1
  have HB := Lib.hid hb
  have HI := Lib.hid I1
  clear t1 hb b1 I1 B0
  go_wp2_with fail
  have T2 := Lib.hid (T1.out.far (i := 0) HI.out (by decide) (.pointer p1))
  have I2 : Law.Is (w1.setCell ⟨w.heap.size + 1, 0, none⟩ (.pointer p1)) (w.heap.size + 1) 77 #[.pointer p1] := HI.out.set 0 _ rfl
  have c2 : (w1.setCell ⟨w.heap.size + 1, 0, none⟩ (.pointer p1)).cell? ⟨w.heap.size + 1, 0, none⟩ = some (Value.pointer p1) := (I2.cell 0).trans rfl
  have B2 := Lib.hid (HB.out.setCell (p := ⟨w.heap.size + 1, 0, none⟩) (Nat.le_succ _) (.pointer p1))
  have e2 : w1.heap.size = (w1.setCell ⟨w.heap.size + 1, 0, none⟩ (.pointer p1)).heap.size := by simp
  rw [e2] at T2
  clear c0 f0 l0 T1 HB HI e2 I2
  generalize w1.setCell ⟨w.heap.size + 1, 0, none⟩ (.pointer p1) = w2 at *
  exact bodyPost_ret (v := M p1) (by simp [results, Tryz.results106, go_sem, c2]) rfl ⟨p1, rfl, T2.out, B2.out⟩

set_option maxHeartbeats 1000000 in
theorem get (k : ByteArray) {w : World} {B : Nat} {p : Option Addr} {xs : List (ByteArray × EnV)} (h : At w B p xs) (hB : B ≤ w.heap.size) (hR : Law.Rises lt xs) :
    Calls Tryz.prog 76 #[M p, .string k] w fun e w' => e = .returned (.tuple #[EnV.val ((Law.getK k xs).getD EnV.zero), .bool (Law.getK k xs).isSome]) ∧ Below w.heap.size w w' := by
  have H := Lib.hid h
  have HR := Lib.hid hR
  clear h hR
  go_enter Tryz.func76, Tryz.ntmps76
  go_wp2_with fail
  have B0 : Below w.heap.size w ((w.alloc (.cells #[.pointer p] 77)).alloc (.cells #[.slice none 0 0, .int .i64 0, .int .i64 0, .int .i64 0] 150)) := ((Below.refl _ w).alloc (Nat.le_refl _) _).alloc (by simp) _
  refine (find k (H.out.under (B0.mono hB)) HR.out).mono ?_
  have HB := Lib.hid B0
  clear B0
  rintro e w1 ⟨rfl, ⟨rfl, hg⟩ | ⟨b, u, rfl, hb, ⟨c1, c2, c3, c4⟩, hg⟩⟩
  · have HG := Lib.hid hg
    clear hg
    go_wp2_with fail
    exact bodyPost_ret (v := .tuple #[EnV.val EnV.zero, .bool false]) (by simp [results, Tryz.results76, go_sem]) rfl ⟨by rw [HG.out]; rfl, HB.out.alloc (by simp; omega) _⟩
  · have HG := Lib.hid hg
    clear hg
    go_wp2_with fail
    exact bodyPost_ret (v := .tuple #[EnV.val u, .bool true]) (by simp [results, Tryz.results76, go_sem]) rfl ⟨by rw [HG.out]; rfl, ((Below.refl _ w).alloc (Nat.le_refl _) _).alloc (by simp) _⟩

set_option maxHeartbeats 400000 in
theorem all_in (F : Fence) (n : Nat) (hF : ∀ f, F.fn f) (hro : F.round = none) (w : World) (p : Option Addr) :
    CallsIn F n Tryz.prog 80 #[M p] w fun e w' => e = .returned (.func (.func 102) #[] #[.pointer (some ⟨w.heap.size, 0, none⟩)]) ∧ w.alloc (.cells #[.pointer p] 77) = w' := by
  refine callsIn_of_wp Tryz.func80 rfl (hF _) ?_ hro
  simp only [Tryz.ntmps80, List.size_toArray, List.length_cons, List.length_nil, Nat.reduceAdd, Nat.reduceSub, Array.replicate_succ, Array.replicate_zero, List.push_toArray, List.append_toArray, List.nil_append, List.cons_append]
  gi_wp2
  go_ret
  exact ⟨rfl, rfl⟩
theorem all (w : World) (p : Option Addr) :
    Calls Tryz.prog 80 #[M p] w fun e w' => e = .returned (.func (.func 102) #[] #[.pointer (some ⟨w.heap.size, 0, none⟩)]) ∧ w.alloc (.cells #[.pointer p] 77) = w' :=
  (callsIn_wide (n := 1)).1 (all_in Fence.wide 1 (fun _ => trivial) rfl w p)

set_option maxRecDepth 100000 in
set_option maxHeartbeats 1000000 in
theorem all1_in (F : Fence) (hd : F.depth = none) (n : Nat) (hF : ∀ f, F.fn f) (hro : F.round = none) (l Bs n₀ : Nat) (p : Option Addr) (xs : List (ByteArray × EnV)) (J Jx : List (ByteArray × EnV) → World → Prop) (hD : ∀ pre W, J pre W → J pre W.drew)
    (hY : ∀ pre x W, J pre W → x ∈ xs → pre.length < xs.length → YieldAt F (n - 1) Tryz.prog l #[.string x.1, .agg #[.slice x.2.A x.2.n x.2.c, .int .i64 x.2.st, .int .i64 x.2.pr, .int .i64 x.2.lv]] W fun e W' =>
      (e = .returned (.bool true) ∧ J (pre ++ [x]) W' ∧ Below n₀ W W') ∨ (e = .returned (.bool false) ∧ Jx (pre ++ [x]) W'))
    (W : World) (hBs : W.cell? ⟨Bs, 0, none⟩ = some (.pointer p)) (hs : At W n₀ p xs) (h0 : J [] W) :
    CallsIn F n Tryz.prog 102 #[.func (.yield l) #[] #[], .pointer (some ⟨Bs, 0, none⟩)] W fun e W' => (∃ v, e = .returned v) ∧
      ((∃ ys, ys = xs ∧ J ys W') ∨ (∃ pre, pre <+: xs ∧ Jx pre W')) := by
  have hdd : ∀ k : Nat, (F.depth.isSome = true → 1 ≤ k) := fun k h => by rw [hd] at h; cases h
  have HP := Lib.hid (walk_in F hd hF hro l n₀ xs.length J Jx hD (· ∈ xs) (fun m pre x W hj hx hl => yield_deep hd m (hY pre x W hj hx hl)) xs.length (n - 1) p [] xs W (Nat.le_refl _) hs h0 (by simp) (fun _ h => h))
  clear hY hs h0 hD
  refine callsIn_of_wp Tryz.func102 rfl (hF _) ?_ hro
  simp only [Tryz.ntmps102, List.size_toArray, List.length_cons, List.length_nil, Nat.reduceAdd, Nat.reduceSub, Array.replicate_succ, Array.replicate_zero, List.push_toArray, List.append_toArray, List.nil_append, List.cons_append]
  gi_wp2_with ((try refine ⟨hdd _, ?_⟩); gi_at_call 103; refine HP.out.mono ?_; clear HP; rintro e W1 (⟨rfl, hJ1, _⟩ | ⟨rfl, q, hq, hx⟩))
  · go_end0
    exact ⟨⟨_, rfl⟩, .inl ⟨_, rfl, by simpa using hJ1⟩⟩
  · go_end0
    exact ⟨⟨_, rfl⟩, .inr ⟨q, hq, by simpa using hx⟩⟩
theorem grown_drew (W : World) : W.grownBy W.drew none := ⟨rfl, rfl, rfl, Nat.le_refl _, fun _ _ _ => rfl⟩
theorem all_stops (F : Fence) (hd : F.depth = none) (n : Nat) (hF : ∀ f, F.fn f) (hro : F.round = none) (Bs n₀ : Nat) (p : Option Addr) (xs : List (ByteArray × EnV)) (w : World) (hBs : Bs < w.heap.size) (hn₀ : n₀ ≤ w.heap.size)
    (hc : w.cell? ⟨Bs, 0, none⟩ = some (.pointer p)) (hs : At w n₀ p xs) :
    SeqStopsK F n Tryz.prog 102 #[.pointer (some ⟨Bs, 0, none⟩)] (fun x : {x : ByteArray × EnV // x ∈ xs} => #[Value.string x.1.1, Value.agg #[.slice x.1.2.A x.1.2.n x.1.2.c, .int .i64 x.1.2.st, .int .i64 x.1.2.pr, .int .i64 x.1.2.lv]]) (Below n₀) (fun ys => ys.map (·.1) = xs) (fun pre => pre.map (·.1) <+: xs) xs.length w := fun l J Jx W hW hJ _ hY h0 => by
  refine (all1_in F hd n hF hro l Bs n₀ p xs (fun ys W => ∃ zs : List {x // x ∈ xs}, zs.map (·.1) = ys ∧ J zs W) (fun ys W => ∃ zs : List {x // x ∈ xs}, zs.map (·.1) = ys ∧ Jx zs W) (fun pre W' ⟨zs, e, h⟩ => ⟨zs, e, hJ zs W' _ none h (grown_drew W') (fun r e => by cases e)⟩) (fun pre x W1 ⟨zs, e, h⟩ hx hl => ?_) W ((hW.cell (p := ⟨Bs, 0, none⟩) hBs).trans hc) (hs.under (hW.mono hn₀)) ⟨[], rfl, h0⟩).mono ?_
  · subst e
    refine YieldAt.mono (hY zs ⟨x, hx⟩ W1 h (by simpa using hl)) fun e W2 h => h.elim (fun ⟨he, hj, hb⟩ => .inl ⟨he, ⟨_, by simp, hj⟩, hb⟩) (fun ⟨he, hj⟩ => .inr ⟨he, ⟨_, by simp, hj⟩⟩)
  · rintro e W' ⟨hv, ⟨ys, rfl, zs, hz, hj⟩ | ⟨pre, hp, zs, rfl, hj⟩⟩
    · exact ⟨hv, .inl ⟨zs, hz, hj⟩⟩
    · exact ⟨hv, .inr ⟨zs, hp, hj⟩⟩
end OmapB
end Go.Proofs.YtdkjcheannehhaaGreat

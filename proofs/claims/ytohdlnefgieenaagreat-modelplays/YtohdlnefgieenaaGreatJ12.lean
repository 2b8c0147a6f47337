/-
  A drawn region inside a round of a range over a function, by what every world on the way holds; a range's fence is wide. General over programs.
-/
import Derived.Test.YtohdlnefgieenaaGreatJ0
import Derived.OwnWalkIn
import Derived.OrdersHeld
import Derived.Deep.RegionHeld
import Derived.OrdersIn
import Derived.RangeFuncCalls
import Derived.RangeFuncBox
import Derived.Test.YtohdlnefgieenaaGreatJ11
namespace Go.Law
open Go.RowKit
/-! ### A drawn region in a round of a range, by what every world on the way holds -/
def Only (G : Act → World → Prop) : Exit → Act → World → Prop
 | .normal, a, w => G a w
 | _, _, _ => False
theorem Only.lets (G : Act → World → Prop) : ¬ LetsOut (Only G) := fun ⟨_, _, h⟩ => h
def noDefer (o : Oper) : Bool := match o.op with
 | .defer _ => false
 | _ => true
theorem uponIn_round {l n : Nat} {P : Program} {o : Oper} {a : Act} {K : Act → World → Prop} {G : Act → World → Prop} {Q : Exit → Act → World → Prop} : ∀ r, o.upon P a K (Only G) r → o.uponIn (Fence.wide.inRound l) n P a K Q r
 | .ok (.value _) _, h => h
 | .ok .skip _, h => h
 | .ok (.defer _) _, h => h
 | .ok (.enter _ _) _, h => ⟨fun h => by simp [Fence.wide] at h, CallsIn.inRound l (callsIn_wide.2 (Calls.mono h fun e w' h' => by cases e with
   | returned v => exact h'
   | panicked c => exact h'.elim
   | outgrown => exact (Only.lets G h').elim))⟩
 | .ok (.row _ _) _, h => ⟨fun h => by simp [Fence.wide] at h, fun c cs _ => let ⟨v, w', r, s⟩ := h c cs; ⟨v, w', r, stepsIn_wide.2 s⟩⟩
 | .halt (.panic _) _, h => h.elim
theorem wpOpIn_round {l n : Nat} {P : Program} {ops : Array Oper} {G : Act → World → Prop} {Q : Exit → Act → World → Prop} {i : Nat} {K K' : Act → World → Prop} {a : Act} {w : World} (hd : ∀ o, ops[i]? = some o → noDefer o = true) (hK : ∀ a w, K a w → K' a w) (h : wpOp P ops (Only G) i K a w) : wpOpIn (Fence.wide.inRound l) n P ops Q i K' a w := by
 unfold wpOp at h
 unfold wpOpIn
 cases ho : ops[i]? with
 | none => rw [ho] at h; exact hK _ _ h
 | some o =>
   rw [ho] at h
   simp only at h ⊢
   split
   ·rename_i hw
    rw [if_pos hw] at h
    refine ⟨fun _ _ => trivial, ?_⟩
    rcases h with h | ⟨_, h⟩
    ·have hs : Oper.semAt (Fence.wide.inRound l).round a.eval o = execOp a.eval o := Oper.semAt_eq _ _ _ fun c hc => by have := hd o ho; unfold noDefer at this; rw [hc] at this; cases this
     rw [hs]
     refine uponIn_round (G := G) _ ?_
     exact Oper.wp_mono hK h
    ·exact (Only.lets G h).elim
   ·rename_i hw
    rw [if_neg hw] at h
    exact ⟨fun _ _ => trivial, hK _ _ h⟩
theorem wpAnyIn_round {l n : Nat} {P : Program} {md : Region.Mode} {ops : Array Oper} {S : World → Prop} {G : Act → World → Prop} {Q : Exit → Act → World → Prop} (hd : ∀ (i : Nat) o, ops[i]? = some o → noDefer o = true) (hQ : ∀ a w, G a w → Q .normal a w) : ∀ (fuel : Nat) (listed : Array Bool) (a : Act) (w : World), wpAnyH P md ops (Only G) S fuel listed a w → wpAnyIn (Fence.wide.inRound l) n P md ops Q fuel listed a w
 | 0, _, _, _, h => ⟨h.1, hQ _ _ h.2⟩
 | fuel + 1, _, _, _, h => ⟨fun h0 => hQ _ _ (h.1 h0), fun i hi => wpOpIn_round (hd i) (fun _ _ h' => wpAnyIn_round hd hQ fuel _ _ _ h'.2) (h.2 i hi)⟩
theorem wpIn_round_held {l n id : Nat} {P : Program} {ops : Array Oper} {S : World → Prop} {Q : Exit → Act → World → Prop} {a : Act} {w : World} (G : Act → World → Prop) (hm : P.follows .mixedOrders = true) (hd : ops.all noDefer = true) (hS : S w.drew)
  (h : S w.drew → wpAnyH P .any ops (Only G) S ops.size (Array.replicate ops.size false) a w.drew) (hQ : ∀ a w, G a w → Q .normal a w) : (Code.region id ops true).wpIn (Fence.wide.inRound l) n P Q a w :=
 wpIn_region_any hm (wpAnyIn_round (fun i o ho => by
  obtain ⟨hi, e⟩ := Array.getElem?_eq_some_iff.1 ho
  rw [← e]
  exact (Array.all_eq_true.1 hd) i hi) hQ _ _ _ _ (h hS))
theorem wpListIn_append_seq {F : Fence} {n : Nat} {P : Program} (w : World) (base : Nat) (t : TypeId) {e : TypeId} {i : TypeInfo} {z : Value} {size bytes : Nat} {ops : Array Oper} {rest : List Oper} {o : Oper} {a : Act} {Q : Exit → Act → World → Prop} (hgd : o.guard = none) (s x : Operand)
  (ho : o.op = .call { callee := .builtin .append, args := #[s, x], argTypes := #[t, t] }) (E : Elem P t e i z size bytes)
  (v : Value) (k : Nat) (xs : List Value) (hs : a.eval s = v) (hown : w.ownsRow base e size v k xs)
  (lo B : Nat) (A : Option Addr) (m c : Nat) (news : List Value) (hx : a.eval x = .slice A m c) (hl : news.length = m * size) (hr : Seq w lo B A news) (h1 : ∀ u ∈ news, u.oneCell' = true)
  (h63 : k + m ≤ maxLen) (hbytes : (k + m) * bytes ≤ 140737488355328) (hbase : base ≤ w.heap.size)
  (h : ∀ v' w', w'.ownsRow base e size v' (k + m) (xs ++ news) → w.grownBy w' v.ownBlock → wpListIn F n P ops Q rest (a.put o.dst v') w') : wpListIn F n P ops Q (o :: rest) a w := by
 obtain ⟨v', w', hrun, h2, h3⟩ := run_append_seq w base t E o.type v k xs hown lo B A m c news hl hr h1 h63 hbytes hbase
 refine wpListIn_plain hgd fun K hK => ⟨?_, ?_⟩
 ·simp [Oper.about, ho, resolve, Target.leads, Sem.run_pure]
 ·rw [Oper.semAt_plain F _ _ (by rw [ho]; intro c hc; cases hc)]
  simp [execOp, ho, resolve, invoke, builtin, hs, hx, hrun, Result.andThen]
  exact hK _ _ (h v' w' h2 h3)
theorem KeepsOthers.of_below {w w' : World} (hb : Below w.heap.size w w') : KeepsOthers w w' := ⟨hb.size, fun k _ hk _ => (hb.block k (Array.getElem?_eq_some_iff.1 hk).1).trans hk⟩
theorem KeepsOthers.grown {w w' : World} {base size n : Nat} {e : TypeId} {v : Value} {xs : List Value} (h : w.ownsRow base e size v n xs) (hg : w.grownBy w' v.ownBlock) : KeepsOthers w w' :=
 ⟨hg.size, fun k o hk ho => (hg.block k (Array.getElem?_eq_some_iff.1 hk).1 fun e' => by
  rcases h.2 with ⟨rfl, _⟩ | ⟨g, cap, cur, rfl, _, hh, _⟩
  ·cases e'
  ·have : k = g := by simpa [Value.ownBlock] using e'
   subst this
   rw [hh] at hk
   cases hk
   cases ho).trans hk⟩
end Go.Law
namespace Go.Law
open Go.RowKit Go.Shelf
theorem Keeps.own_ {t : TypeId} {B : Nat} {W W' : World} {row : Option Nat} (hg : W.grownBy W' row) (hr : ∀ r, row = some r → B ≤ r ∧ ∃ o : Obj, W.heap[r]? = some o ∧ o.isCells = false) : Keeps t W W' :=
 ⟨hg.size, fun {b cs} hi => (hg.block b hi.lt fun e => by
  obtain ⟨_, o, ho, hc⟩ := hr b e.symm
  unfold Is at hi
  rw [hi] at ho
  cases ho
  cases hc).trans hi⟩
end Go.Law
namespace Go.Proofs.YtohdlnefgieenaaGreat
open Go.RowKit Go.Shelf
attribute [local go_sem] Oper.semAt_some
namespace Bk
open Go.Law Go.Proofs.YtohdlnefgieenaaGreat.OmapB Door
theorem Calm.own_ {B : Nat} {W W' : World} {row : Option Nat} (hg : W.grownBy W' row) (hr : ∀ r, row = some r → B ≤ r ∧ ∃ o : Obj, W.heap[r]? = some o ∧ o.isCells = false) : Calm W W' := ⟨Keeps.own_ hg hr, Keeps.own_ hg hr⟩
def lenV {xs : List (ByteArray × EnV)} (l : List {x // x ∈ xs}) : Nat := (l.map fun q => q.1.2.n).sum
set_option maxRecDepth 100000 in
set_option maxHeartbeats 4000000 in
theorem stored_in (n : Nat) (hn : 4 ≤ n) {w : World} {p : Option Addr} {b : List (ByteArray × En)} (h : Booked w p b) (hl : b.length ≤ 900) (hm : ∀ q ∈ b, q.2.1.length ≤ 900) :
  CallsIn Fence.wide n Tryz.prog 44 #[M p] w fun e w' => e = .returned (.int .i64 (storedB b : Int)) ∧ Below w.heap.size w w' := by
 have hF : ∀ f, Fence.wide.fn f := fun _ => trivial
 have hro : Fence.wide.round = none := rfl
 have h1 : 1 ≤ n := by omega
 obtain ⟨xs, hx, hin, hb⟩ := h
 have HX := Lib.hid hx
 have hxl : xs.length ≤ 900 := by rw [← hb, mapV_length] at hl; exact hl
 have HXM : Hid (∀ q ∈ xs, q.2.n ≤ 900) := fun q hq => by
  rw [(hin q hq).1]
  exact hm (q.1, q.2.en) (by rw [← hb]; exact List.mem_map.2 ⟨q, hq, rfl⟩)
 have HSB : Hid (storedB b = (xs.map fun q => q.2.n).sum) := by
  show _ = _
  rw [← hb]
  unfold storedB mapV
  rw [List.map_map]
  congr 1
  exact List.map_congr_left fun q hq => (hin q hq).1.symm
 have HB := Lib.hid (Below.refl w.heap.size w)
 clear hx hin hb hl hm
 refine callsIn_of_wp_marks Tryz.func44 rfl (hF _) ?_ hro
 simp only [Tryz.ntmps44, List.size_toArray, List.length_cons, List.length_nil, Nat.reduceAdd, Nat.reduceSub, Array.replicate_succ, Array.replicate_zero, List.push_toArray, List.append_toArray, List.nil_append, List.cons_append]
 gi_wp2
 refine (all_in Fence.wide (n - 1) hF hro _ p).mono ?_
 rintro e w' ⟨rfl, rfl⟩
 simp only [World.size_alloc]
 have bx := ((((Below.refl w.heap.size w).alloc (Nat.le_refl _) (.cells #[.pointer p] 72)).alloc (by simp only [World.size_alloc]; omega) (.cells #[.int .i64 0] 3)).alloc (by simp only [World.size_alloc]; omega) (.cells #[.pointer p] 72))
 have HI0 := Lib.hid (((Is.new w 72 #[.pointer p] rfl).alloc (.cells #[.int .i64 0] 3)).alloc (.cells #[.pointer p] 72))
 have HI1 := Lib.hid ((Is.new (w.alloc (.cells #[.pointer p] 72)) 3 #[.int .i64 0] (g := w.heap.size + 1) (by simp only [World.size_alloc])).alloc (.cells #[.pointer p] 72))
 have HI2 := Lib.hid (Is.new ((w.alloc (.cells #[.pointer p] 72)).alloc (.cells #[.int .i64 0] 3)) 72 #[.pointer p] (g := w.heap.size + 1 + 1) (by simp only [World.size_alloc]))
 replace HB := Lib.hid (HB.out.trans (bx.mono HB.out.size))
 generalize (((w.alloc (.cells #[.pointer p] 72)).alloc (.cells #[.int .i64 0] 3)).alloc (.cells #[.pointer p] 72)) = W0 at *
 clear bx
 have l2 := HI2.out.lt
 have HX0 := Lib.hid (HX.out.under HB.out)
 gi_wp2
 refine wpIn_rangeFunc_ownH hro h1 (gf := 91) (lb := #[.pointer (some ⟨w.heap.size + 1 + 1, 0, none⟩)]) rfl (hF _) (enters_of Tryz.func91 (by kernel_rfl) rfl)
  (all_stops Fence.wide rfl (n - 1) hF hro (w.heap.size + 1 + 1) w.heap.size p xs W0 l2 (by omega) (HI2.out.cell' rfl) HX0.out) belowK_t (belowK_b (by omega)) (Below.refl _ _) (fun _ => rfl)
  (fun pre W => Is W (w.heap.size + 1) 3 #[.int .i64 (lenV pre : Int)] ∧ Below w.heap.size w W ∧ w.heap.size + 2 < W.heap.size)
  (fun _ _ _ => False)
  (OwnFrom.and (ownFrom_is _) (OwnFrom.and (ownFrom_below (Nat.le_refl _) (by omega)) ownFrom_size))
  (fun _ _ _ _ _ hs _ _ => hs)
  ⟨HI1.out, HB.out, by omega⟩
  (fun x a' W => ∃ Bx, w.heap.size + 2 < Bx ∧ Is W Bx 145 #[.slice x.1.2.A x.1.2.n x.1.2.c, .int .i64 x.1.2.st, .int .i64 x.1.2.pr, .int .i64 x.1.2.lv] ∧ a' = { tmps := #[M p, .pointer (some ⟨w.heap.size, 0, none⟩), .int .i64 0, .pointer (some ⟨w.heap.size + 1, 0, none⟩), undef, .pointer (some ⟨Bx, 0, none⟩), .agg #[.pointer p], .func (.func 91) #[] #[.pointer (some ⟨w.heap.size + 1 + 1, 0, none⟩)], .string x.1.1, .agg #[.slice x.1.2.A x.1.2.n x.1.2.c, .int .i64 x.1.2.st, .int .i64 x.1.2.pr, .int .i64 x.1.2.lv], undef, undef, undef, undef, undef, undef], defers := [] })
  (fun x a' _ X Y row hs hg hr => by obtain ⟨Bx, h1, h3, h4⟩ := hs; exact ⟨Bx, h1, ownFrom_is (fun (_ : Unit) => #[.slice x.1.2.A x.1.2.n x.1.2.c, .int .i64 x.1.2.st, .int .i64 x.1.2.pr, .int .i64 x.1.2.lv]) () X Y row h3 hg hr, h4⟩)
  ?assign ?body ?done ?stop
 case assign =>
  rintro l pre x W K ⟨i1, hB, hz⟩ hK
  gi_wp2
  exact hK _ _ ((KeepsOthers.alloc _ _).from _) ((Below.refl _ W).alloc (by omega) _) ⟨i1.alloc _, hB.alloc hB.size _, by simp; omega⟩ ⟨W.heap.size, by omega, Is.new W _ _ rfl, rfl⟩
 case body =>
  rintro l pre x a' W hl ⟨r, hr⟩ ⟨i1, hB, hz⟩ ⟨Bx, hBx, iX, rfl⟩ hlt
  have hxm := HXM.out x.1 x.2
  have hpl : lenV pre ≤ pre.length * 900 := by
   unfold lenV
   clear i1 hlt
   induction pre with
   | nil => simp
   | cons q r ih => have := HXM.out q.1 q.2; simp only [List.map_cons, List.sum_cons, List.length_cons, Nat.add_mul]; omega
  have hps : lenV (pre ++ [x]) = lenV pre + x.1.2.n := by unfold lenV; simp
  have hpb : lenV pre ≤ 810000 := by
   have : pre.length * 900 ≤ 900 * 900 := Nat.mul_le_mul_right 900 (by omega)
   omega
  have HPS := Lib.hid hps
  clear hps hpl
  have c0 := i1.cell' (i := 0) rfl
  have f0 := i1.frozen 0
  have d0 := iX.cell' (i := 0) rfl
  have l1 := i1.lt
  have HII := Lib.hid i1
  have HBW := Lib.hid hB
  clear i1 hB iX hr
  generalize lenV pre = m at *
  generalize x.1.2.n = k at *
  gi_wp2
  refine ⟨(KeepsOthers.setCell W _ _).from _, (Below.refl _ W).setCell (by simp) _, ?_, HBW.out.setCell (by simp) _, by simpa using hz⟩
  rw [HPS.out]
  exact HII.out.set 0 _ (by simp)
 case done =>
  rintro D ys W hD hys ⟨i1, hB, hz⟩ hK
  have HE : Hid (storedB b = lenV ys) := by
   have e := congrArg (fun l => (l.map fun q => q.2.n).sum) hys
   simp only [List.map_map] at e
   exact HSB.out.trans e.symm
  have c0 := i1.cell' (i := 0) rfl
  have l1 := i1.lt
  have HBW := Lib.hid hB
  clear i1 hB hys
  generalize lenV ys = m at *
  gi_wp2
  refine ⟨by simp, .inl ⟨_, _, rfl, run_takeDeferred hK, ?_⟩⟩
  exact ⟨_, results_tmp rfl _ _ _, by rw [HE.out]; rfl, HBW.out.trans (belowK_b (w := w) (Nat.le_refl _) W D _ _ (by omega) hK rfl rfl)⟩
 case stop =>
  rintro D c pre W _ _ h _
  exact h.elim
theorem stored {w : World} {p : Option Addr} {b : List (ByteArray × En)} (h : Booked w p b) (hl : b.length ≤ 900) (hm : ∀ q ∈ b, q.2.1.length ≤ 900) :
  Calls Tryz.prog 44 #[M p] w fun e w' => e = .returned (.int .i64 (storedB b : Int)) ∧ Below w.heap.size w w' :=
 (callsIn_wide (n := 4)).1 (stored_in 4 (Nat.le_refl _) h hl hm)
end Bk
end Go.Proofs.YtohdlnefgieenaaGreat
namespace Go.Law
open Go.RowKit
section
variable {κ : Type} (lt : κ → κ → Prop) [DecidableRel lt] [DecidableEq κ]
def foldB (now : Int) (b : List (κ × En)) : List (κ × En) → List (κ × En) × List (κ × Pr × Pr)
 | [] => (b, [])
 | q :: r => ((foldB now (become lt q.1 (live now q.2.1) now b) r).1, tells q.1 (live now q.2.1) now b ++ (foldB now (become lt q.1 (live now q.2.1) now b) r).2)
theorem foldB_snoc (now : Int) (q : κ × En) : ∀ (l : List (κ × En)) (b : List (κ × En)), foldB lt now b (l ++ [q]) = (become lt q.1 (live now q.2.1) now (foldB lt now b l).1, (foldB lt now b l).2 ++ tells q.1 (live now q.2.1) now (foldB lt now b l).1)
 | [], b => by simp [foldB]
 | p :: r, b => by rw [List.cons_append, foldB, foldB_snoc now q r, foldB]; simp
theorem foldB_take (ht : Tri lt) (now : Int) {b : List (κ × En)} (h : Rises lt b) : ∀ i, i ≤ b.length → foldB lt now b (b.take i) = (sweepB now (b.take i) ++ b.drop i, sweepC now (b.take i))
 | 0, _ => by simp [foldB, sweepB, sweepC]
 | i + 1, hi => by
   have ih := foldB_take ht now h i (by omega)
   have hs := sweep_step lt ht (now := now) h (i := i) (by omega)
   rw [List.take_succ_eq_append_getElem (by omega), foldB_snoc, ih]
   simp only
   rw [hs.1, hs.2, ← List.take_succ_eq_append_getElem (by omega)]
theorem foldB_all (ht : Tri lt) (now : Int) {b : List (κ × En)} (h : Rises lt b) : foldB lt now b b = (sweepB now b, sweepC now b) := by
 have := foldB_take lt ht now h b.length (Nat.le_refl _)
 simpa using this
theorem become_rises (ht : Tri lt) {u : κ} {ss : List Sn} {now : Int} {b : List (κ × En)} (h : Rises lt b) : Rises lt (become lt u ss now b) := by
 unfold become
 split
 ·exact outK_rises lt h
 ·exact putK_rises lt ht h
theorem become_len (u : κ) (ss : List Sn) (now : Int) (b : List (κ × En)) : (become lt u ss now b).length ≤ b.length + 1 := by
 unfold become
 split
 ·have := outK_length u b; omega
 ·exact (putK_length lt u _ b).1
theorem foldB_rises (ht : Tri lt) (now : Int) : ∀ (l : List (κ × En)) {b : List (κ × En)}, Rises lt b → Rises lt (foldB lt now b l).1
 | [], _, h => h
 | _ :: r, _, h => foldB_rises ht now r (become_rises lt ht h)
theorem foldB_len (now : Int) : ∀ (l : List (κ × En)) (b : List (κ × En)), (foldB lt now b l).1.length ≤ b.length + l.length
 | [], _ => by simp [foldB]
 | q :: r, b => by
   have h1 := foldB_len now r (become lt q.1 (live now q.2.1) now b)
   have h2 := become_len lt q.1 (live now q.2.1) now b
   simp only [foldB, List.length_cons]; omega
theorem foldB_told (now : Int) : ∀ (l : List (κ × En)) (b : List (κ × En)), (foldB lt now b l).2.length ≤ l.length
 | [], _ => by simp [foldB]
 | q :: r, b => by
   have h1 := foldB_told now r (become lt q.1 (live now q.2.1) now b)
   have h2 : (tells q.1 (live now q.2.1) now b).length ≤ 1 := by unfold tells; split <;> simp
   simp only [foldB, List.length_append, List.length_cons]; omega
end
end Go.Law
namespace Go.Proofs.YtohdlnefgieenaaGreat
open Go.RowKit Go.Shelf
attribute [local go_sem] Oper.semAt_some
namespace Bk
open Go.Law Go.Proofs.YtohdlnefgieenaaGreat.OmapB Door
theorem own_own {B base size m : Nat} {e : TypeId} {v : Value} {xs : List Value} {W W' : World} {row : Option Nat} (h : W.ownsRow base e size v m xs) (hg : W.grownBy W' row) (hr : ∀ r, row = some r → B ≤ r ∧ ∃ o : Obj, W.heap[r]? = some o ∧ o.isCells = false) : W'.ownsRow base e size v m xs := by
 rcases h with ⟨h1, ⟨h2, h3⟩ | ⟨g, cap, cur, h2, h3, h4, h5⟩⟩
 ·exact ⟨h1, .inl ⟨h2, h3⟩⟩
 ·exact ⟨h1, .inr ⟨g, cap, cur, h2, h3, (Keeps.own_ (t := e) hg hr).is h4, h5⟩⟩
def ens {xs : List (ByteArray × EnV)} (l : List {x // x ∈ xs}) : List (ByteArray × En) := l.map fun q => (q.1.1, q.1.2.en)
theorem elemC : ∃ i, Law.Elem Tryz.prog 124 185 i (.agg #[.string .empty, .int .i64 0, .int .i64 0, .int .i64 0, .int .i64 0, .int .i64 0, .int .i64 0]) 7 64 := Law.Elem.of Tryz.underlying124 (by kernel_rfl) rfl (by decide)
def Swept (w : World) (now : Int) (b : List (ByteArray × En)) (g : Nat) (pe : List (ByteArray × En)) (W : World) : Prop := ∃ ps v, Is W g 72 #[.pointer ps] ∧ Booked W ps (foldB lt now b pe).1 ∧ Is W (g + 1) 124 #[v] ∧ W.ownsRow w.heap.size 185 7 v (foldB lt now b pe).2.length (flatC (foldB lt now b pe).2)
theorem Swept.own_ {w : World} {now : Int} {b : List (ByteArray × En)} {g B : Nat} {pe : List (ByteArray × En)} {W W' : World} {row : Option Nat} (h : Swept w now b g pe W) (hg : W.grownBy W' row) (hr : ∀ r, row = some r → B ≤ r ∧ ∃ o : Obj, W.heap[r]? = some o ∧ o.isCells = false) : Swept w now b g pe W' := by
 obtain ⟨ps, v, h1, h2, h3, h4⟩ := h
 exact ⟨ps, v, (Keeps.own_ hg hr).is h1, h2.calm (Calm.own_ hg hr), (Keeps.own_ hg hr).is h3, own_own h4 hg hr⟩

set_option maxRecDepth 100000 in
set_option maxHeartbeats 4000000 in
theorem sweep_in (n : Nat) (hn : 4 ≤ n) (now : Int) {w : World} {p : Option Addr} {b : List (ByteArray × En)} (h : Booked w p b) (hR : Rises lt b) (hl : b.length ≤ 400) (hm : ∀ q ∈ b, q.2.1.length ≤ 900) :
  CallsIn Fence.wide n Tryz.prog 56 #[M p, .int .u64 now] w (Told w (sweepB now b) (sweepC now b)) := by
 have hF : ∀ f, Fence.wide.fn f := fun _ => trivial
 have hro : Fence.wide.round = none := rfl
 have h1 : 1 ≤ n := by omega
 have H := Lib.hid h
 obtain ⟨xs, hx, hin, hb⟩ := h
 have HX := Lib.hid hx
 have HIN := Lib.hid hin
 have HBE := Lib.hid hb
 have HR := Lib.hid hR
 have hxl : xs.length ≤ 400 := by rw [← hb, mapV_length] at hl; exact hl
 have HXM : Hid (∀ q ∈ xs, q.2.ss.length ≤ 900) := fun q hq => hm (q.1, q.2.en) (by rw [← hb]; exact List.mem_map.2 ⟨q, hq, rfl⟩)
 have HB := Lib.hid (Below.refl w.heap.size w)
 clear hx hin hb hm hR
 refine callsIn_of_wp_marks Tryz.func56 rfl (hF _) ?_ hro
 simp only [Tryz.ntmps56, List.size_toArray, List.length_cons, List.length_nil, Nat.reduceAdd, Nat.reduceSub, Array.replicate_succ, Array.replicate_zero, List.push_toArray, List.append_toArray, List.nil_append, List.cons_append]
 gi_wp2
 refine (all_in Fence.wide (n - 1) hF hro _ p).mono ?_
 rintro e w' ⟨rfl, rfl⟩
 simp only [World.size_alloc]
 have bx := (((((((Below.refl w.heap.size w).alloc (Nat.le_refl _) (.cells #[.pointer p] 72)).alloc (by simp only [World.size_alloc]; omega) (.cells #[.int .u64 now] 22)).alloc (by simp only [World.size_alloc]; omega) (.cells #[.pointer none] 72)).alloc (by simp only [World.size_alloc]; omega) (.cells #[.pointer p] 72)).alloc (by simp only [World.size_alloc]; omega) (.cells #[.slice none 0 0] 124)).alloc (by simp only [World.size_alloc]; omega) (.cells #[.pointer p] 72))
 have HI0 := Lib.hid ((((((Is.new w 72 #[.pointer p] rfl).alloc (.cells #[.int .u64 now] 22)).alloc (.cells #[.pointer none] 72)).alloc (.cells #[.pointer p] 72)).alloc (.cells #[.slice none 0 0] 124)).alloc (.cells #[.pointer p] 72))
 have HI1 := Lib.hid (((((Is.new (w.alloc (.cells #[.pointer p] 72)) 22 #[.int .u64 now] (g := w.heap.size + 1) (by simp only [World.size_alloc])).alloc (.cells #[.pointer none] 72)).alloc (.cells #[.pointer p] 72)).alloc (.cells #[.slice none 0 0] 124)).alloc (.cells #[.pointer p] 72))
 have HI2 := Lib.hid ((((Is.new ((w.alloc (.cells #[.pointer p] 72)).alloc (.cells #[.int .u64 now] 22)) 72 #[.pointer none] (g := w.heap.size + 1 + 1) (by simp only [World.size_alloc])).alloc (.cells #[.pointer p] 72)).alloc (.cells #[.slice none 0 0] 124)).alloc (.cells #[.pointer p] 72))
 have HI3 := Lib.hid (((Is.new (((w.alloc (.cells #[.pointer p] 72)).alloc (.cells #[.int .u64 now] 22)).alloc (.cells #[.pointer none] 72)) 72 #[.pointer p] (g := w.heap.size + 1 + 1 + 1) (by simp only [World.size_alloc])).alloc (.cells #[.slice none 0 0] 124)).alloc (.cells #[.pointer p] 72))
 have HI4 := Lib.hid ((Is.new ((((w.alloc (.cells #[.pointer p] 72)).alloc (.cells #[.int .u64 now] 22)).alloc (.cells #[.pointer none] 72)).alloc (.cells #[.pointer p] 72)) 124 #[.slice none 0 0] (g := w.heap.size + 1 + 1 + 1 + 1) (by simp only [World.size_alloc])).alloc (.cells #[.pointer p] 72))
 have HI5 := Lib.hid (Is.new (((((w.alloc (.cells #[.pointer p] 72)).alloc (.cells #[.int .u64 now] 22)).alloc (.cells #[.pointer none] 72)).alloc (.cells #[.pointer p] 72)).alloc (.cells #[.slice none 0 0] 124)) 72 #[.pointer p] (g := w.heap.size + 1 + 1 + 1 + 1 + 1) (by simp only [World.size_alloc]))
 replace HB := Lib.hid (HB.out.trans (bx.mono HB.out.size))
 replace H := Lib.hid (H.out.now bx)
 generalize ((((((w.alloc (.cells #[.pointer p] 72)).alloc (.cells #[.int .u64 now] 22)).alloc (.cells #[.pointer none] 72)).alloc (.cells #[.pointer p] 72)).alloc (.cells #[.slice none 0 0] 124)).alloc (.cells #[.pointer p] 72)) = W0 at *
 clear bx
 have l5 := HI5.out.lt
 have HX0 := Lib.hid (HX.out.under HB.out)
 have HIN0 : Hid (∀ q ∈ xs, q.2.In 138 W0) := fun q hq => (HIN.out q hq).keeps (Keeps.of_below HB.out)
 gi_wp2
 refine wpIn_rangeFunc_ownH hro h1 (gf := 91) (lb := #[.pointer (some ⟨w.heap.size + 1 + 1 + 1 + 1 + 1, 0, none⟩)]) rfl (hF _) (enters_of Tryz.func91 (by kernel_rfl) rfl)
  (all_stops Fence.wide rfl (n - 1) hF hro (w.heap.size + 1 + 1 + 1 + 1 + 1) w.heap.size p xs W0 l5 (by omega) (HI5.out.cell' rfl) HX0.out) belowK_t (belowK_b (by omega)) (Below.refl _ _) (fun _ => rfl)
  (fun pre W => Swept w now b (w.heap.size + 1 + 1 + 1) (ens pre) W ∧ (Is W (w.heap.size + 1) 22 #[.int .u64 now] ∧ Is W (w.heap.size + 1 + 1) 72 #[.pointer none]) ∧ Below w.heap.size w W ∧ w.heap.size + 5 < W.heap.size)
  (fun _ _ _ => False)
  (OwnFrom.and (fun _ _ _ _ hs hg hr => Swept.own_ hs hg hr) (OwnFrom.and (OwnFrom.and (ownFrom_is _) (ownFrom_is _)) (OwnFrom.and (ownFrom_below (Nat.le_refl _) (by omega)) ownFrom_size)))
  (fun _ _ _ _ _ hs _ _ => hs)
  ⟨⟨p, .slice none 0 0, HI3.out, H.out, HI4.out, World.ownsRow_nil _ _ _ _⟩, ⟨HI1.out, HI2.out⟩, HB.out, by omega⟩
  (fun x a' W => ∃ Bx, w.heap.size + 5 < Bx ∧ Is W Bx 145 #[.slice x.1.2.A x.1.2.n x.1.2.c, .int .i64 x.1.2.st, .int .i64 x.1.2.pr, .int .i64 x.1.2.lv] ∧ a' = { tmps := #[M p, .int .u64 now, .pointer (some ⟨w.heap.size, 0, none⟩), .pointer (some ⟨w.heap.size + 1, 0, none⟩), .pointer (some ⟨w.heap.size + 1 + 1, 0, none⟩), .slice none 0 0, .pointer (some ⟨w.heap.size + 1 + 1 + 1, 0, none⟩), .pointer (some ⟨w.heap.size + 1 + 1 + 1 + 1, 0, none⟩), .string x.1.1, .pointer (some ⟨Bx, 0, none⟩), undef, .agg #[.pointer p], .agg #[.pointer p], .func (.func 91) #[] #[.pointer (some ⟨w.heap.size + 1 + 1 + 1 + 1 + 1, 0, none⟩)], .string x.1.1, .agg #[.slice x.1.2.A x.1.2.n x.1.2.c, .int .i64 x.1.2.st, .int .i64 x.1.2.pr, .int .i64 x.1.2.lv], undef, undef, undef, undef, undef, undef, undef, undef, undef, undef, undef, undef, undef, undef, undef, undef], defers := [] })
  (fun x a' _ X Y row hs hg hr => by obtain ⟨Bx, h1, h3, h4⟩ := hs; exact ⟨Bx, h1, ownFrom_is (fun (_ : Unit) => #[.slice x.1.2.A x.1.2.n x.1.2.c, .int .i64 x.1.2.st, .int .i64 x.1.2.pr, .int .i64 x.1.2.lv]) () X Y row h3 hg hr, h4⟩)
  ?assign ?body ?done ?stop
 case assign =>
  rintro l pre x W K ⟨hS, ⟨i1, i2⟩, hB, hz⟩ hK
  gi_wp2
  have hb := (Below.refl W.heap.size W).alloc (Nat.le_refl _) (.cells #[.slice x.1.2.A x.1.2.n x.1.2.c, .int .i64 x.1.2.st, .int .i64 x.1.2.pr, .int .i64 x.1.2.lv] 145)
  obtain ⟨ps, v, j1, j2, j3, j4⟩ := hS
  exact hK _ _ ((KeepsOthers.alloc _ _).from _) ((Below.refl _ W).alloc (by omega) _) ⟨⟨ps, v, j1.alloc _, j2.now hb, j3.alloc _, own_below j4 hb⟩, ⟨i1.alloc _, i2.alloc _⟩, hB.alloc hB.size _, by simp; omega⟩ ⟨W.heap.size, by omega, Is.new W _ _ rfl, rfl⟩
 case body =>
  rintro l pre x a' W hl ⟨r, hr⟩ ⟨⟨ps, v, i3, hk, i4, ho⟩, ⟨i1, i2⟩, hB, hz⟩ ⟨Bx, hBx, iX, rfl⟩ hlt
  have hin := HIN.out x.1 x.2
  have hm9 := HXM.out x.1 x.2
  have HSO : Hid (Lain 138 W x.1.2.A (flatS x.1.2.ss)) := (hin.2.keeps (Keeps.of_below hB))
  have HN := Lib.hid hin.1
  have HFR : Hid (Rises lt (foldB lt now b (ens pre)).1) := foldB_rises lt tri now _ HR.out
  have hfl : (foldB lt now b (ens pre)).1.length ≤ 900 := by
   have h1 := foldB_len lt now (ens pre) b
   have h2 : (ens pre).length = pre.length := List.length_map ..
   omega
  have hcl : (foldB lt now b (ens pre)).2.length ≤ 900 := by
   have h1 := foldB_told lt now (ens pre) b
   have h2 : (ens pre).length = pre.length := List.length_map ..
   omega
  have HSN : Hid (foldB lt now b (ens (pre ++ [x])) = (become lt x.1.1 (live now x.1.2.ss) now (foldB lt now b (ens pre)).1, (foldB lt now b (ens pre)).2 ++ tells x.1.1 (live now x.1.2.ss) now (foldB lt now b (ens pre)).1)) := by
   show _ = _
   unfold ens
   rw [List.map_append]
   exact foldB_snoc lt now (x.1.1, x.1.2.en) _ b
  generalize foldB lt now b (ens pre) = st at *
  obtain ⟨st1, st2⟩ := st
  simp only at hk ho HFR hfl hcl HSN
  obtain ⟨A4, c4, rfl, _⟩ := own_shape ho
  have HK := Lib.hid hk
  have HO := Lib.hid ho
  have HI1W := Lib.hid i1
  have HI2W := Lib.hid i2
  have HI3W := Lib.hid i3
  have HI4W := Lib.hid i4
  have HIX := Lib.hid iX
  have HBW := Lib.hid hB
  have hvl := live_length now x.1.2.ss
  have c1 := i1.cell' (i := 0) rfl
  have c3 := i3.cell' (i := 0) rfl
  have c4' := i4.cell' (i := 0) rfl
  have f3 := i3.frozen 0
  have f4 := i4.frozen 0
  have x0 := iX.cell' (i := 0) rfl
  have hg3 : w.heap.size + 1 + 1 + 1 < W.heap.size := i3.lt
  have hgX : Bx < W.heap.size := iX.lt
  clear i1 i2 i3 i4 iX hB hin hk ho hr
  rw [HN.out] at x0
  have HPU : Hid (∀ w', Kept W w' → Calls Tryz.prog 85 #[.slice x.1.2.A x.1.2.ss.length x.1.2.c, .int .u64 now] w' fun e w'' => ∃ A c, e = .returned (.slice A (live now x.1.2.ss).length c) ∧ Lain 138 w'' A (flatS (live now x.1.2.ss)) ∧ Kept W w'') := fun w' K =>
   (purge_ rfl (HSO.out.now K).seq (by omega)).mono fun _ _ ⟨A, c, he, hs, hb⟩ => ⟨A, c, he, hs, Below.trans K (Below.mono hb K.size)⟩
  have HBC : Hid (∀ w' A c, Kept W w' → Lain 138 w' A (flatS (live now x.1.2.ss)) → Calls Tryz.prog 84 #[.agg #[.pointer ps], .string x.1.1, .slice A (live now x.1.2.ss).length c, .int .u64 now] w' fun e w'' => ∃ p A c, e = .returned (.tuple #[M p, .slice A (tells x.1.1 (live now x.1.2.ss) now st1).length c]) ∧ (Booked w'' p (become lt x.1.1 (live now x.1.2.ss) now st1) ∧ Lain 185 w'' A (flatC (tells x.1.1 (live now x.1.2.ss) now st1))) ∧ Kept W w'') := fun w' A c K hs =>
   (become_ x.1.1 (live now x.1.2.ss) now (HK.out.now K) HFR.out hs (by omega) hfl).mono fun _ _ ⟨p, A, c, he, h1, h2, hb⟩ => ⟨p, A, c, he, ⟨h1, h2⟩, Below.trans K (Below.mono hb K.size)⟩
  have htl := tells_le x.1.1 (live now x.1.2.ss) now st1
  have HSK : Hid (∀ w', Kept W w' → (w'.cell? ⟨Bx, 0, none⟩ = some (.slice x.1.2.A x.1.2.ss.length x.1.2.c) ∧ w'.cell? ⟨w.heap.size + 1, 0, none⟩ = some (.int .u64 now))) := fun w' K => ⟨by rw [← HN.out]; exact (HIX.out.below K HIX.out.lt).cell' rfl, (HI1W.out.below K HI1W.out.lt).cell' rfl⟩
  have HC3 : Hid (∀ w', Kept W w' → w'.cell? ⟨w.heap.size + 1 + 1 + 1, 0, none⟩ = some (.pointer ps) ∧ w'.frozen? ⟨w.heap.size + 1 + 1 + 1, 0, none⟩ = false ∧ w.heap.size + 1 + 1 + 1 < w'.heap.size) := fun w' K => ⟨(HI3W.out.below K HI3W.out.lt).cell' rfl, (HI3W.out.below K HI3W.out.lt).frozen 0, (HI3W.out.below K HI3W.out.lt).lt⟩
  generalize live now x.1.2.ss = ls at *
  generalize become lt x.1.1 ls now st1 = nb at *
  generalize tells x.1.1 ls now st1 = cs at *
  have K0 : Kept W W.drew := Kept.drew W
  gi_wp2
  rw [HN.out]
  let GW : World → Option Addr → Option Addr → Nat → Prop := fun w5 p5 A5 _ => Booked w5 p5 nb ∧ Lain 185 w5 A5 (flatC cs) ∧ Kept W w5
  refine wpIn_round_held (S := fun w' => w'.cell? ⟨Bx, 0, none⟩ = some (.slice x.1.2.A x.1.2.ss.length x.1.2.c) ∧ w'.cell? ⟨w.heap.size + 1, 0, none⟩ = some (.int .u64 now)) (fun a w' => ∃ p5 A5 c5 A3 c3' w5, a = { tmps := #[M p, .int .u64 now, .pointer (some ⟨w.heap.size, 0, none⟩), .pointer (some ⟨w.heap.size + 1, 0, none⟩), .pointer (some ⟨w.heap.size + 1 + 1, 0, none⟩), .slice none 0 0, .pointer (some ⟨w.heap.size + 1 + 1 + 1, 0, none⟩), .pointer (some ⟨w.heap.size + 1 + 1 + 1 + 1, 0, none⟩), .string x.1.1, .pointer (some ⟨Bx, 0, none⟩), .slice A5 cs.length c5, .agg #[.pointer p], .agg #[.pointer p], .func (.func 91) #[] #[.pointer (some ⟨w.heap.size + 1 + 1 + 1 + 1 + 1, 0, none⟩)], .string x.1.1, .agg #[.slice x.1.2.A x.1.2.ss.length x.1.2.c, .int .i64 x.1.2.st, .int .i64 x.1.2.pr, .int .i64 x.1.2.lv], .tuple #[M p5, .slice A5 cs.length c5], .agg #[.pointer ps], .string x.1.1, .pointer (some ⟨Bx, 0, none⟩), .slice x.1.2.A x.1.2.ss.length x.1.2.c, .int .u64 now, .slice A3 ls.length c3', .int .u64 now, .tuple #[M p5, .slice A5 cs.length c5], M p5, .slice A5 cs.length c5, undef, undef, undef, undef, undef], defers := [] } ∧ w' = w5.setCell ⟨w.heap.size + 1 + 1 + 1, 0, none⟩ (.pointer p5) ∧ GW w5 p5 A5 c5) (by kernel_rfl) (by kernel_rfl) (HSK.out _ K0) (fun hS0 => ?_) ?_
  ·refine wpAnyH_take (i := 1) (oi := { dst := some 18, op := .move (.tmp 8), type := _, pos := _, after := _, guard := _ }) (v := .string x.1.1) rfl (by kernel_rfl) (by kernel_rfl) (by kernel_rfl) (fun _ _ _ h => h) (Or.inl ⟨by rfl, ?_⟩) hS0 ?_
   ·intro w' hSw
    go_simp
   try simp only [Act.put, List.setIfInBounds_toArray, List.set_cons_zero, List.set_cons_succ]
   refine wpAnyH_take (i := 2) (oi := { dst := some 19, op := .fieldAddr 145 (.tmp 9) 0, type := _, pos := _, after := _, guard := _ }) (v := .pointer (some ⟨Bx, 0, none⟩)) rfl (by kernel_rfl) (by kernel_rfl) (by kernel_rfl) (fun _ _ _ h => h) (Or.inl ⟨by rfl, ?_⟩) hS0 ?_
   ·intro w' hSw
    go_simp
   try simp only [Act.put, List.setIfInBounds_toArray, List.set_cons_zero, List.set_cons_succ]
   refine wpAnyH_take (i := 3) (oi := { dst := some 20, op := .load 105 (.tmp 19), type := _, pos := _, after := _, guard := _ }) (v := .slice x.1.2.A x.1.2.ss.length x.1.2.c) rfl (by kernel_rfl) (by kernel_rfl) (by kernel_rfl) (fun _ _ _ h => h) (Or.inl ⟨by rfl, ?_⟩) hS0 ?_
   ·intro w' hSw
    go_simp
   try simp only [Act.put, List.setIfInBounds_toArray, List.set_cons_zero, List.set_cons_succ]
   refine wpAnyH_take (i := 4) (oi := { dst := some 21, op := .load 22 (.tmp 3), type := _, pos := _, after := _, guard := _ }) (v := .int .u64 now) rfl (by kernel_rfl) (by kernel_rfl) (by kernel_rfl) (fun _ _ _ h => h) (Or.inl ⟨by rfl, ?_⟩) hS0 ?_
   ·intro w' hSw
    go_simp
   try simp only [Act.put, List.setIfInBounds_toArray, List.set_cons_zero, List.set_cons_succ]
   refine wpAnyH_take (i := 6) (oi := { dst := some 23, op := .load 22 (.tmp 3), type := _, pos := _, after := _, guard := _ }) (v := .int .u64 now) rfl (by kernel_rfl) (by kernel_rfl) (by kernel_rfl) (fun _ _ _ h => h) (Or.inl ⟨by rfl, ?_⟩) hS0 ?_
   ·intro w' hSw
    go_simp
   try simp only [Act.put, List.setIfInBounds_toArray, List.set_cons_zero, List.set_cons_succ]
   refine wpAnyH_ready (rs := [0, 5]) (by kernel_rfl) (by simp) ?_
   refine AllReadyH.cons (o := { dst := some 17, op := .load 72 (.tmp 6), type := _, pos := _, after := _, guard := _ }) rfl (fun K hK => ?_) ?_
   ·obtain ⟨m1, m2, m3⟩ := HC3.out _ K0
    go_simp
    refine hK.out _ _ hS0 (fun hS1 => ?_)
    clear hK K m1 m2 m3
    try simp only [Act.put, List.setIfInBounds_toArray, List.set_cons_zero, List.set_cons_succ]
    refine wpAnyH_ready (rs := [5]) (by kernel_rfl) (by simp) ?_
    refine AllReadyH.cons (o := { dst := some 22, op := .call { callee := .value (.func 85), args := #[.tmp 20, .tmp 21], argTypes := #[105, 22] }, type := _, pos := _, after := _, guard := _ }) rfl (fun K hK => ?_) AllReadyH.nil
    go_simp
    refine Calls.mono (HPU.out _ K0) ?_
    rintro e w3 ⟨A3, c3', rfl, sq, K3⟩
    have HV := Lib.hid sq
    clear sq
    go_wp2_with fail
    refine hK.out _ _ (HSK.out _ K3) (fun hS1 => ?_)
    clear hK K
    try simp only [Act.put, List.setIfInBounds_toArray, List.set_cons_zero, List.set_cons_succ]
    refine wpAnyH_ready (rs := [7]) (by kernel_rfl) (by simp) ?_
    refine AllReadyH.cons (o := { dst := some 24, op := .call { callee := .value (.func 84), args := #[.tmp 17, .tmp 18, .tmp 22, .tmp 23], argTypes := #[72, 9, 105, 22] }, type := _, pos := _, after := _, guard := _ }) rfl (fun K hK => ?_) AllReadyH.nil
    go_simp
    refine Calls.mono (HBC.out _ A3 c3' K3 HV.out) ?_
    rintro e w5 ⟨p5, A5, c5, rfl, ⟨k5, q5⟩, K5⟩
    go_wp2_with fail
    refine hK.out _ _ (HSK.out _ K5) (fun hS2 => ?_)
    clear hK K
    try simp only [Act.put, List.setIfInBounds_toArray, List.set_cons_zero, List.set_cons_succ]
    refine wpAnyH_take (i := 8) (oi := { dst := some 16, op := .move (.tmp 24), type := _, pos := _, after := _, guard := _ }) (v := .tuple #[M p5, .slice A5 cs.length c5]) rfl (by kernel_rfl) (by kernel_rfl) (by kernel_rfl) (fun _ _ _ h => h) (Or.inl ⟨by rfl, ?_⟩) hS2 ?_
    ·intro w' hSw
     go_simp
    try simp only [Act.put, List.setIfInBounds_toArray, List.set_cons_zero, List.set_cons_succ]
    refine wpAnyH_take (i := 9) (oi := { dst := some 25, op := .extract (.tmp 16) 0, type := _, pos := _, after := _, guard := _ }) (v := M p5) rfl (by kernel_rfl) (by kernel_rfl) (by kernel_rfl) (fun _ _ _ h => h) (Or.inl ⟨by rfl, ?_⟩) hS2 ?_
    ·intro w' hSw
     go_simp
    try simp only [Act.put, List.setIfInBounds_toArray, List.set_cons_zero, List.set_cons_succ]
    refine wpAnyH_take (i := 10) (oi := { dst := some 26, op := .extract (.tmp 16) 1, type := _, pos := _, after := _, guard := _ }) (v := .slice A5 cs.length c5) rfl (by kernel_rfl) (by kernel_rfl) (by kernel_rfl) (fun _ _ _ h => h) (Or.inl ⟨by rfl, ?_⟩) hS2 ?_
    ·intro w' hSw
     go_simp
    try simp only [Act.put, List.setIfInBounds_toArray, List.set_cons_zero, List.set_cons_succ]
    obtain ⟨m1, m2, m3⟩ := HC3.out _ K5
    have HW6 := Lib.hid (show GW w5 p5 A5 c5 from ⟨k5, q5, K5⟩)
    have hS3 : (w5.setCell ⟨w.heap.size + 1 + 1 + 1, 0, none⟩ (.pointer p5)).cell? ⟨Bx, 0, none⟩ = some (.slice x.1.2.A x.1.2.ss.length x.1.2.c) ∧ (w5.setCell ⟨w.heap.size + 1 + 1 + 1, 0, none⟩ (.pointer p5)).cell? ⟨w.heap.size + 1, 0, none⟩ = some (.int .u64 now) := ⟨by rw [World.cell?_setCell_far _ _ _ _ (by simp; omega)]; exact hS2.1, by rw [World.cell?_setCell_far _ _ _ _ (by simp; omega)]; exact hS2.2⟩
    refine wpAnyH_ready (rs := [11]) (by kernel_rfl) (by simp) ?_
    refine AllReadyH.cons (o := { dst := none, op := .store 72 (.tmp 6) (.tmp 25), type := _, pos := _, after := _, guard := _ }) rfl (fun K hK => ?_) AllReadyH.nil
    go_simp
    refine hK.out _ _ hS3 (fun hS4 => ?_)
    clear hK K
    try simp only [Act.put, List.setIfInBounds_toArray, List.set_cons_zero, List.set_cons_succ]
    refine wpAnyH_take (i := 12) (oi := { dst := some 10, op := .assign (.tmp 26), type := _, pos := _, after := _, guard := _ }) (v := .slice A5 cs.length c5) rfl (by kernel_rfl) (by kernel_rfl) (by kernel_rfl) (fun _ _ _ h => h) (Or.inl ⟨by rfl, ?_⟩) hS4 ?_
    ·intro w' hSw
     go_simp
    try simp only [Act.put, List.setIfInBounds_toArray, List.set_cons_zero, List.set_cons_succ]
    refine wpAnyH_done (by kernel_rfl) ?_ _
    exact ⟨p5, A5, c5, A3, c3', w5, rfl, rfl, HW6.out⟩
   refine AllReadyH.cons (o := { dst := some 22, op := .call { callee := .value (.func 85), args := #[.tmp 20, .tmp 21], argTypes := #[105, 22] }, type := _, pos := _, after := _, guard := _ }) rfl (fun K hK => ?_) AllReadyH.nil
   go_simp
   refine Calls.mono (HPU.out _ K0) ?_
   rintro e w3 ⟨A3, c3', rfl, sq, K3⟩
   have HV := Lib.hid sq
   clear sq
   go_wp2_with fail
   refine hK.out _ _ (HSK.out _ K3) (fun hS1 => ?_)
   clear hK K
   try simp only [Act.put, List.setIfInBounds_toArray, List.set_cons_zero, List.set_cons_succ]
   refine wpAnyH_ready (rs := [0]) (by kernel_rfl) (by simp) ?_
   refine AllReadyH.cons (o := { dst := some 17, op := .load 72 (.tmp 6), type := _, pos := _, after := _, guard := _ }) rfl (fun K hK => ?_) AllReadyH.nil
   obtain ⟨m1, m2, m3⟩ := HC3.out _ K3
   go_simp
   refine hK.out _ _ hS1 (fun hS1' => ?_)
   clear hK K m1 m2 m3
   try simp only [Act.put, List.setIfInBounds_toArray, List.set_cons_zero, List.set_cons_succ]
   refine wpAnyH_ready (rs := [7]) (by kernel_rfl) (by simp) ?_
   refine AllReadyH.cons (o := { dst := some 24, op := .call { callee := .value (.func 84), args := #[.tmp 17, .tmp 18, .tmp 22, .tmp 23], argTypes := #[72, 9, 105, 22] }, type := _, pos := _, after := _, guard := _ }) rfl (fun K hK => ?_) AllReadyH.nil
   go_simp
   refine Calls.mono (HBC.out _ A3 c3' K3 HV.out) ?_
   rintro e w5 ⟨p5, A5, c5, rfl, ⟨k5, q5⟩, K5⟩
   go_wp2_with fail
   refine hK.out _ _ (HSK.out _ K5) (fun hS2 => ?_)
   clear hK K
   try simp only [Act.put, List.setIfInBounds_toArray, List.set_cons_zero, List.set_cons_succ]
   refine wpAnyH_take (i := 8) (oi := { dst := some 16, op := .move (.tmp 24), type := _, pos := _, after := _, guard := _ }) (v := .tuple #[M p5, .slice A5 cs.length c5]) rfl (by kernel_rfl) (by kernel_rfl) (by kernel_rfl) (fun _ _ _ h => h) (Or.inl ⟨by rfl, ?_⟩) hS2 ?_
   ·intro w' hSw
    go_simp
   try simp only [Act.put, List.setIfInBounds_toArray, List.set_cons_zero, List.set_cons_succ]
   refine wpAnyH_take (i := 9) (oi := { dst := some 25, op := .extract (.tmp 16) 0, type := _, pos := _, after := _, guard := _ }) (v := M p5) rfl (by kernel_rfl) (by kernel_rfl) (by kernel_rfl) (fun _ _ _ h => h) (Or.inl ⟨by rfl, ?_⟩) hS2 ?_
   ·intro w' hSw
    go_simp
   try simp only [Act.put, List.setIfInBounds_toArray, List.set_cons_zero, List.set_cons_succ]
   refine wpAnyH_take (i := 10) (oi := { dst := some 26, op := .extract (.tmp 16) 1, type := _, pos := _, after := _, guard := _ }) (v := .slice A5 cs.length c5) rfl (by kernel_rfl) (by kernel_rfl) (by kernel_rfl) (fun _ _ _ h => h) (Or.inl ⟨by rfl, ?_⟩) hS2 ?_
   ·intro w' hSw
    go_simp
   try simp only [Act.put, List.setIfInBounds_toArray, List.set_cons_zero, List.set_cons_succ]
   obtain ⟨m1, m2, m3⟩ := HC3.out _ K5
   have HW6 := Lib.hid (show GW w5 p5 A5 c5 from ⟨k5, q5, K5⟩)
   have hS3 : (w5.setCell ⟨w.heap.size + 1 + 1 + 1, 0, none⟩ (.pointer p5)).cell? ⟨Bx, 0, none⟩ = some (.slice x.1.2.A x.1.2.ss.length x.1.2.c) ∧ (w5.setCell ⟨w.heap.size + 1 + 1 + 1, 0, none⟩ (.pointer p5)).cell? ⟨w.heap.size + 1, 0, none⟩ = some (.int .u64 now) := ⟨by rw [World.cell?_setCell_far _ _ _ _ (by simp; omega)]; exact hS2.1, by rw [World.cell?_setCell_far _ _ _ _ (by simp; omega)]; exact hS2.2⟩
   refine wpAnyH_ready (rs := [11]) (by kernel_rfl) (by simp) ?_
   refine AllReadyH.cons (o := { dst := none, op := .store 72 (.tmp 6) (.tmp 25), type := _, pos := _, after := _, guard := _ }) rfl (fun K hK => ?_) AllReadyH.nil
   go_simp
   refine hK.out _ _ hS3 (fun hS4 => ?_)
   clear hK K
   try simp only [Act.put, List.setIfInBounds_toArray, List.set_cons_zero, List.set_cons_succ]
   refine wpAnyH_take (i := 12) (oi := { dst := some 10, op := .assign (.tmp 26), type := _, pos := _, after := _, guard := _ }) (v := .slice A5 cs.length c5) rfl (by kernel_rfl) (by kernel_rfl) (by kernel_rfl) (fun _ _ _ h => h) (Or.inl ⟨by rfl, ?_⟩) hS4 ?_
   ·intro w' hSw
    go_simp
   try simp only [Act.put, List.setIfInBounds_toArray, List.set_cons_zero, List.set_cons_succ]
   refine wpAnyH_done (by kernel_rfl) ?_ _
   exact ⟨p5, A5, c5, A3, c3', w5, rfl, rfl, HW6.out⟩
  rintro a w' ⟨p5, A5, c5, A3, c3', w5, rfl, rfl, hk5, hq5, K5⟩
  have J1 := HI1W.out.below K5 HI1W.out.lt
  have J2 := HI2W.out.below K5 HI2W.out.lt
  have J3 := HI3W.out.below K5 HI3W.out.lt
  have J4 := HI4W.out.below K5 HI4W.out.lt
  have HJ1 := Lib.hid (J1.far (p := ⟨w.heap.size + 1 + 1 + 1, 0, none⟩) (by simp only []; omega) (.pointer p5))
  have HJ2 := Lib.hid (J2.far (p := ⟨w.heap.size + 1 + 1 + 1, 0, none⟩) (by simp only []; omega) (.pointer p5))
  have HJ3 := Lib.hid (J3.set 0 (.pointer p5) rfl)
  have HJ4 := Lib.hid (J4.far (p := ⟨w.heap.size + 1 + 1 + 1, 0, none⟩) (by simp only []; omega) (.pointer p5))
  have HK6 := Lib.hid (hk5.store (i := 0) J3 (by decide) (by decide) (.pointer p5))
  have HQ6 := Lib.hid (hq5.keeps (Keeps.store (i := 0) J3 (by decide) (.pointer p5)))
  have ho5 : w5.ownsRow w.heap.size 185 7 (.slice A4 st2.length c4) st2.length (flatC st2) := own_below HO.out K5
  have HO6 := Lib.hid (ho5.kept (grownBy_setCell' w5 (w.heap.size + 1 + 1 + 1) (.pointer p5)) (.inr (own_ne ho5 J3 (by decide))))
  have HKO := Lib.hid ((KeepsOthers.of_below K5).trans (KeepsOthers.setCell w5 ⟨w.heap.size + 1 + 1 + 1, 0, none⟩ (.pointer p5)))
  have HBK := Lib.hid ((Below.mono K5 (by omega : w.heap.size ≤ W.heap.size)).setCell (p := ⟨w.heap.size + 1 + 1 + 1, 0, none⟩) (by simp; omega) (.pointer p5))
  clear J1 J2 J3 J4 hk5 hq5 ho5 K5 HPU HBC HSK HC3 K0 HI1W HI2W HI3W HI4W HIX HO HK
  generalize w5.setCell ⟨w.heap.size + 1 + 1 + 1, 0, none⟩ (.pointer p5) = w6 at *
  have c6 := HJ4.out.cell' (i := 0) rfl
  have f6 := HJ4.out.frozen 0
  have l6 := HJ4.out.lt
  have s6 := HBK.out.size
  obtain ⟨i0, hE⟩ := elemC
  have HE := Lib.hid hE
  clear hE
  gi_wp2_with (gi_at_builtin; refine Law.wpListIn_append_seq _ w.heap.size 124 rfl _ _ rfl HE.out _ _ _ rfl HO6.out 0 _ A5 cs.length c5 (flatC cs) rfl (flatC_length cs) HQ6.out.seq (flatC_one cs) (by unfold maxLen; omega) (by omega) (by omega) ?_; intro v' w7 hown7 hgrow7; have i7 := HJ4.out.grown hgrow7 (own_ne HO6.out HJ4.out (by decide)); have c7 := i7.cell' (i := 0) rfl; have f7 := i7.frozen 0; have l7 := i7.lt; obtain ⟨A7, d7, rfl, _⟩ := own_shape hown7)
  have hb7 := (HBK.out.grown hgrow7 (by omega) (fun g hg => (HO6.out.lt g hg).1)).setCell (p := ⟨w.heap.size + 1 + 1 + 1 + 1, 0, none⟩) (by simp only []; omega) (.slice A7 (st2.length + cs.length) d7)
  have j1 := (HJ1.out.grown hgrow7 (own_ne HO6.out HJ1.out (by decide))).far (p := ⟨w.heap.size + 1 + 1 + 1 + 1, 0, none⟩) (by simp only []; omega) (.slice A7 (st2.length + cs.length) d7)
  have j2 := (HJ2.out.grown hgrow7 (own_ne HO6.out HJ2.out (by decide))).far (p := ⟨w.heap.size + 1 + 1 + 1 + 1, 0, none⟩) (by simp only []; omega) (.slice A7 (st2.length + cs.length) d7)
  have j3 := (HJ3.out.grown hgrow7 (own_ne HO6.out HJ3.out (by decide))).far (p := ⟨w.heap.size + 1 + 1 + 1 + 1, 0, none⟩) (by simp only []; omega) (.slice A7 (st2.length + cs.length) d7)
  have j4 := i7.set 0 (.slice A7 (st2.length + cs.length) d7) rfl
  have jk := (HK6.out.calm (Calm.grown HO6.out hgrow7 (by decide) (by decide))).store (i := 0) i7 (by decide) (by decide) (.slice A7 (st2.length + cs.length) d7)
  have jo := hown7.kept (grownBy_setCell' w7 (w.heap.size + 1 + 1 + 1 + 1) (.slice A7 (st2.length + cs.length) d7)) (.inr (own_ne hown7 i7 (by decide)))
  refine ⟨((HKO.out.trans (KeepsOthers.grown HO6.out hgrow7)).trans (KeepsOthers.setCell w7 _ _)).from _, hb7, ?_, ⟨j1, j2⟩, HBW.out.trans hb7, by have := hb7.size; omega⟩
  refine ⟨p5, _, j3, ?_, j4, ?_⟩
  ·rw [HSN.out]; exact jk
  ·rw [HSN.out]; simp only [List.length_append, flatC_app]; exact jo
 case done =>
  rintro D ys W hD hys ⟨⟨ps, v, i3, hk, i4, ho⟩, ⟨i1, i2⟩, hB, hz⟩ hK
  have hys' : ens ys = b := by
   have e := congrArg (fun l => mapV EnV.en l) hys
   rw [HBE.out] at e
   rw [← e]
   unfold mapV ens
   rw [List.map_map]
   rfl
  rw [hys', foldB_all lt tri now HR.out] at hk ho
  simp only at hk ho
  obtain ⟨A4, c4, rfl, _⟩ := own_shape ho
  have c3 := i3.cell' (i := 0) rfl
  have c4' := i4.cell' (i := 0) rfl
  have c2 := i2.cell' (i := 0) rfl
  have f2 := i2.frozen 0
  have l2 := i2.lt
  have l3 := i3.lt
  have l4 := i4.lt
  have II := Lib.hid (⟨i2, hk, ho, hB⟩ : _ ∧ _ ∧ _ ∧ _)
  clear i1 i2 i3 i4 hk ho hB hys hys'
  generalize sweepC now b = cs at *
  gi_wp2
  gi_region
  all_goals gi_wp2
  obtain ⟨i2, hk, ho, hB⟩ := II.out
  have hK' : (W.setCell ⟨w.heap.size + 1 + 1, 0, none⟩ (.pointer ps)).drew.heap[D]? = some (.deferred (some [])) := (KeepsOthers.setCell W _ _).same D _ hK rfl
  have j2 : Is (W.setCell ⟨w.heap.size + 1 + 1, 0, none⟩ (.pointer ps)).drew (w.heap.size + 1 + 1) 72 #[.pointer ps] := (i2.set 0 (.pointer ps) rfl).drew
  have jk : Booked (W.setCell ⟨w.heap.size + 1 + 1, 0, none⟩ (.pointer ps)).drew ps (sweepB now b) := (hk.store (i := 0) i2 (by decide) (by decide) (.pointer ps)).calm ⟨Keeps.drewN _ _ 1, Keeps.drewN _ _ 1⟩
  have jl : Lain 185 (W.setCell ⟨w.heap.size + 1 + 1, 0, none⟩ (.pointer ps)).drew A4 (flatC cs) := ((Lain.own ho).keeps (Keeps.store (i := 0) i2 (by decide) (.pointer ps))).keeps (Keeps.drewN _ _ 1)
  have jb : Below w.heap.size w (W.setCell ⟨w.heap.size + 1 + 1, 0, none⟩ (.pointer ps)).drew := below_drewN (hB.setCell (p := ⟨w.heap.size + 1 + 1, 0, none⟩) (by simp only []; omega) (.pointer ps)) 1
  have hz7 : (W.setCell ⟨w.heap.size + 1 + 1, 0, none⟩ (.pointer ps)).drew.heap.size = W.heap.size := by simp [World.drew]
  have hz8 : w.heap.size + 5 < (W.setCell ⟨w.heap.size + 1 + 1, 0, none⟩ (.pointer ps)).drew.heap.size := by omega
  clear hz7
  generalize (W.setCell ⟨w.heap.size + 1 + 1, 0, none⟩ (.pointer ps)).drew = W8 at *
  have kx : Keeps 72 W8 (W8.putObj D (.deferred none)) := Keeps.own_ (B := 0) (grownBy_putObj' W8 D _) (fun r e => by cases e; exact ⟨Nat.zero_le _, _, hK', rfl⟩)
  have kc : Calm W8 (W8.putObj D (.deferred none)) := Calm.own_ (B := 0) (grownBy_putObj' W8 D _) (fun r e => by cases e; exact ⟨Nat.zero_le _, _, hK', rfl⟩)
  have kd : Keeps 185 W8 (W8.putObj D (.deferred none)) := Keeps.own_ (B := 0) (grownBy_putObj' W8 D _) (fun r e => by cases e; exact ⟨Nat.zero_le _, _, hK', rfl⟩)
  have n0 : (W8.putObj D (.deferred none)).cell? ⟨w.heap.size + 1 + 1, 0, none⟩ = some (.pointer ps) := (kx.is j2).cell' rfl
  refine ⟨by simp, .inl ⟨_, _, rfl, run_takeDeferred hK', ?_⟩⟩
  exact ⟨.tuple #[M ps, .slice A4 cs.length c4], by simp [results, Tryz.results56, go_sem, n0], ps, A4, c4, rfl, jk.calm kc, jl.keeps kd, jb.trans (belowK_b (w := w) (Nat.le_refl _) W8 D _ _ (by omega) hK' rfl rfl)⟩
 case stop =>
  rintro D c pre W _ _ h _
  exact h.elim
theorem sweep (now : Int) {w : World} {p : Option Addr} {b : List (ByteArray × En)} (h : Booked w p b) (hR : Rises lt b) (hl : b.length ≤ 400) (hm : ∀ q ∈ b, q.2.1.length ≤ 900) :
  Calls Tryz.prog 56 #[M p, .int .u64 now] w (Told w (sweepB now b) (sweepC now b)) :=
 (callsIn_wide (n := 4)).1 (sweep_in 4 (Nat.le_refl _) now h hR hl hm)
end Bk
end Go.Proofs.YtohdlnefgieenaaGreat

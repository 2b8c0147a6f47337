/-
  What Same of layer 8 (book) comes to.
-/
import Derived.Test.YtjjemdmbhgmiiaaBook09
import Derived.Lib.QuietBelow
import Derived.BigQuiet
namespace Go.Proofs.Ytjjemdmbhgmiiaa
open Go.RowKit Go.Shelf
attribute [local go_sem] Oper.semAt_some
namespace Bk
open Go.Law Go.Proofs.Ytjjemdmbhgmiiaa.OmapB Door Go.Sort

set_option maxRecDepth 100000 in
set_option maxHeartbeats 8000000 in
theorem same_in (n : Nat) (hn : 4 ≤ n) {w : World} {p q : Option Addr} {a b : List (ByteArray × En)} {r : Bool} (hr : r = true ↔ a = b) (h : Booked w p a) (g : Booked w q b) (ha : Fit 900 a) (hb : Fit 900 b) :
    CallsIn Fence.wide n Try.prog 19 #[M p, M q] w fun e w' => e = .returned (.bool r) ∧ Below w.heap.size w w' := by
  have hF : ∀ f, Fence.wide.fn f := fun _ => trivial
  have hro : Fence.wide.round = none := rfl
  have h1 : 1 ≤ n := by omega
  have H := Lib.hid h
  have G := Lib.hid g
  have HFA := Lib.hid ha
  have HFB := Lib.hid hb
  have HR := Lib.hid hr
  obtain ⟨xs, hx, hin, hxa⟩ := h
  have HX := Lib.hid hx
  have HIN := Lib.hid hin
  have HBE := Lib.hid hxa
  have hla := ha.len
  have hlb := hb.len
  have hxl : xs.length ≤ 900 := by rw [← hxa, mapV_length] at hla; exact hla
  have HB := Lib.hid (Below.refl w.heap.size w)
  clear hx hin hxa ha hb g hr
  refine callsIn_of_wp_marks Try.func19 rfl (hF _) ?_ hro
  simp only [Try.ntmps19, List.size_toArray, List.length_cons, List.length_nil, Nat.reduceAdd, Nat.reduceSub, Array.replicate_succ, Array.replicate_zero, List.push_toArray, List.append_toArray, List.nil_append, List.cons_append]
  gi_wp2
  have bx := ((((Below.refl w.heap.size w).alloc (Nat.le_refl _) (.cells #[.pointer p] 27)).alloc (by simp only [World.size_alloc]; omega) (.cells #[.pointer q] 27)).alloc (by simp only [World.size_alloc]; omega) (.cells #[.bool false] 4))
  have HI0 := Lib.hid (((Is.new w 27 #[.pointer p] rfl).alloc (.cells #[.pointer q] 27)).alloc (.cells #[.bool false] 4))
  have HI1 := Lib.hid ((Is.new (w.alloc (.cells #[.pointer p] 27)) 27 #[.pointer q] (g := w.heap.size + 1) (by simp only [World.size_alloc])).alloc (.cells #[.bool false] 4))
  have HI2 := Lib.hid (Is.new ((w.alloc (.cells #[.pointer p] 27)).alloc (.cells #[.pointer q] 27)) 4 #[.bool false] (g := w.heap.size + 1 + 1) (by simp only [World.size_alloc]))
  replace HB := Lib.hid (HB.out.trans (bx.mono HB.out.size))
  replace H := Lib.hid (H.out.now bx)
  replace G := Lib.hid (G.out.now bx)
  generalize (((w.alloc (.cells #[.pointer p] 27)).alloc (.cells #[.pointer q] 27)).alloc (.cells #[.bool false] 4)) = W1 at *
  clear bx
  have HLA : Hid (∀ d os, Calls Try.prog 25 #[.agg #[.pointer p]] (grow (redrawn W1 d) os) fun e w' => e = .returned (.int .i64 (a.length : Int)) ∧ Below (grow (redrawn W1 d) os).heap.size (grow (redrawn W1 d) os) w') := fun d os => lenB (H.out.now (below_regrown W1 d os))
  have HLB : Hid (∀ d os, Calls Try.prog 25 #[.agg #[.pointer q]] (grow (redrawn W1 d) os) fun e w' => e = .returned (.int .i64 (b.length : Int)) ∧ Below (grow (redrawn W1 d) os).heap.size (grow (redrawn W1 d) os) w') := fun d os => lenB (G.out.now (below_regrown W1 d os))
  have r0 := cell_regrown (HI0.out.cell' (i := 0) rfl)
  have r1 := cell_regrown (HI1.out.cell' (i := 0) rfl)
  refine wpIn_wide.2 ?_
  refine wp_region_quiet_below (by kernel_rfl) (by kernel_rfl) ?_
  repeat (go_big_quiet_step (first
    | (go_at_call_of 25 (Value.agg #[.pointer p]); with_reducible exact Calls.regrown_of (HLA.out _ _))
    | (go_at_call_of 25 (Value.agg #[.pointer q]); with_reducible exact Calls.regrown_of (HLB.out _ _))))
  refine wpQuiet_nil ?_
  intro _ hw'
  obtain ⟨⟨nq, osq⟩, hw''⟩ := hw'
  subst hw''
  have b1 := below_regrown W1 nq osq
  replace HI0 := Lib.hid (HI0.out.below b1 HI0.out.lt)
  replace HI1 := Lib.hid (HI1.out.below b1 HI1.out.lt)
  replace HI2 := Lib.hid (HI2.out.below b1 HI2.out.lt)
  replace HB := Lib.hid (HB.out.trans (b1.mono HB.out.size))
  replace H := Lib.hid (H.out.now b1)
  replace G := Lib.hid (G.out.now b1)
  clear b1 r0 r1 HLA HLB
  generalize grow (redrawn W1 nq) osq = W2 at *
  have c2 := HI2.out.cell' (i := 0) rfl
  have f2 := HI2.out.frozen 0
  have l2 := HI2.out.lt
  by_cases hlen : a.length = b.length
  · have d0 : ((a.length : Int) != (b.length : Int)) = false := by simp; omega
    have HLEN := Lib.hid hlen
    clear hlen
    have c0 := HI0.out.cell' (i := 0) rfl
    gi_wp2
    refine (all_in Fence.wide (n - 1) hF hro _ p).mono ?_
    rintro e w' ⟨rfl, rfl⟩
    rw [d0]
    have HI5 := Lib.hid (Is.new W2 27 #[.pointer p] rfl)
    have bx := (Below.refl W2.heap.size W2).alloc (Nat.le_refl _) (.cells #[.pointer p] 27)
    replace HI0 := Lib.hid (HI0.out.below bx HI0.out.lt)
    replace HI1 := Lib.hid (HI1.out.below bx HI1.out.lt)
    replace HI2 := Lib.hid (HI2.out.below bx HI2.out.lt)
    replace HB := Lib.hid (HB.out.trans (bx.mono HB.out.size))
    replace H := Lib.hid (H.out.now bx)
    replace G := Lib.hid (G.out.now bx)
    generalize W2.alloc (.cells #[.pointer p] 27) = W0 at *
    clear bx
    have l5 := HI5.out.lt
    have l1 := HI1.out.lt
    have HX0 := Lib.hid (HX.out.under HB.out)
    have HIN0 : Hid (∀ q ∈ xs, q.2.In 63 W0) := fun q hq => (HIN.out q hq).keeps (Keeps.of_below HB.out)
    clear c0 c2 f2
    gi_wp2
    refine wpIn_rangeFunc_ownH hro h1 (gf := 45) (lb := #[.pointer (some ⟨W2.heap.size, 0, none⟩)]) rfl (hF _) (enters_of Try.func45 (by kernel_rfl) rfl)
      (all_stops Fence.wide rfl (n - 1) hF hro W2.heap.size w.heap.size p xs W0 l5 (by omega) (HI5.out.cell' rfl) HX0.out) belowK_t (belowK_b (by omega)) (Below.refl _ _) (fun _ => rfl)
      (fun pre W => (Is W (w.heap.size + 1) 27 #[.pointer q] ∧ Is W (w.heap.size + 1 + 1) 4 #[.bool false]) ∧ (Booked W q b ∧ Below w.heap.size w W) ∧ ∀ x ∈ pre, getK x.1.1 b = some x.1.2.en)
      (fun c pre W => (Is W (w.heap.size + 1 + 1) 4 #[.bool false] ∧ Below w.heap.size w W) ∧ c = .ret ∧ ∃ x ∈ pre, getK x.1.1 b ≠ some x.1.2.en)
      (OwnFrom.and (OwnFrom.and (ownFrom_is _) (ownFrom_is _)) (OwnFrom.and (OwnFrom.and (fun _ _ _ _ hs hg hr => hs.calm (Calm.own_ hg hr)) (ownFrom_below (Nat.le_refl _) (by omega))) (fun _ _ _ _ hs _ _ => hs)))
      (fun c => OwnFrom.and (OwnFrom.and (ownFrom_is _) (ownFrom_below (Nat.le_refl _) (by omega))) (fun _ _ _ _ hs _ _ => hs))
      ⟨⟨HI1.out, HI2.out⟩, ⟨G.out, HB.out⟩, fun _ h => by cases h⟩
      (fun x a' W => ∃ Bx, w.heap.size + 1 + 1 < Bx ∧ Is W Bx 70 #[.slice x.1.2.A x.1.2.n x.1.2.c, .int .i64 x.1.2.st, .int .i64 x.1.2.pr, .int .i64 x.1.2.lv] ∧ a' = { tmps := #[M p, M q, .pointer (some ⟨w.heap.size, 0, none⟩), .pointer (some ⟨w.heap.size + 1, 0, none⟩), .pointer (some ⟨w.heap.size + 1 + 1, 0, none⟩), .string x.1.1, .pointer (some ⟨Bx, 0, none⟩), undef, undef, .agg #[.pointer p], .int .i64 (a.length : Int), .agg #[.pointer q], .int .i64 (b.length : Int), .bool false, .agg #[.pointer p], .func (.func 45) #[] #[.pointer (some ⟨W2.heap.size, 0, none⟩)], .string x.1.1, .agg #[.slice x.1.2.A x.1.2.n x.1.2.c, .int .i64 x.1.2.st, .int .i64 x.1.2.pr, .int .i64 x.1.2.lv], undef, undef, undef, undef, undef, undef, undef, undef, undef, undef, undef, undef, undef, undef, undef, undef, undef, undef, undef, undef, undef, undef, undef], defers := [] })
      (fun x a' _ X Y row hs hg hr => by obtain ⟨Bx, h1, h3, h4⟩ := hs; exact ⟨Bx, h1, ownFrom_is (fun (_ : Unit) => #[.slice x.1.2.A x.1.2.n x.1.2.c, .int .i64 x.1.2.st, .int .i64 x.1.2.pr, .int .i64 x.1.2.lv]) () X Y row h3 hg hr, h4⟩)
      ?assign ?body ?done ?stop
    case assign =>
      rintro l pre x W K ⟨⟨i1, i2⟩, ⟨hk, hB⟩, hp⟩ hK
      have hb := (Below.refl W.heap.size W).alloc (Nat.le_refl _) (.cells #[.slice x.1.2.A x.1.2.n x.1.2.c, .int .i64 x.1.2.st, .int .i64 x.1.2.pr, .int .i64 x.1.2.lv] 70)
      have l2' := i2.lt
      gi_wp2
      exact hK _ _ ((KeepsOthers.alloc _ _).from _) ((Below.refl _ W).alloc (by omega) _) ⟨⟨i1.alloc _, i2.alloc _⟩, ⟨hk.now hb, hB.alloc hB.size _⟩, hp⟩ ⟨W.heap.size, by omega, Is.new W _ _ rfl, rfl⟩
    case body =>
      rintro l pre x a' W hl ⟨r', hr'⟩ ⟨⟨i1, i2⟩, ⟨hk, hB⟩, hp⟩ ⟨Bx, hBx, iX, rfl⟩ hlt
      have c1 := i1.cell' (i := 0) rfl
      have HJ1 := Lib.hid i1
      have HJ2 := Lib.hid i2
      have HJX := Lib.hid iX
      have HJK := Lib.hid hk
      have HJB := Lib.hid hB
      have HJP := Lib.hid hp
      have HKO := Lib.hid (KeepsOthers.refl W)
      have HBW := Lib.hid (Below.refl W.heap.size W)
      have hin := HIN.out x.1 x.2
      have HJS := Lib.hid (hin.2.keeps (Keeps.of_below hB))
      have HJN := Lib.hid hin.1
      have s0 := hB.size
      obtain ⟨t0, t1, t2, ht⟩ : ∃ t0 t1 t2, toldK x.1.1 b = (t0, t1, t2) := ⟨_, _, _, rfl⟩
      obtain ⟨ss, hss⟩ : ∃ ss, sesK x.1.1 b = ss := ⟨_, rfl⟩
      obtain ⟨th, hth⟩ : ∃ th, (getK x.1.1 b).isSome = th := ⟨_, rfl⟩
      have HIFF : Hid (getK x.1.1 b = some x.1.2.en ↔ (th = true ∧ (x.1.2.st, x.1.2.pr, x.1.2.lv) = (t0, t1, t2) ∧ x.1.2.ss = ss)) := by
        show _ ↔ _
        rw [← hth, ← ht, ← hss]
        unfold sesK toldK
        cases getK x.1.1 b with
        | none => simp
        | some e => obtain ⟨e1, e2⟩ := e; simp [EnV.en, eq_comm, and_comm]
      have hsl : ss.length ≤ 900 := hss ▸ HFB.out.of x.1.1
      have hxsl : x.1.2.ss.length ≤ 900 := by
        have hm : (x.1.1, x.1.2.en) ∈ a := by rw [← HBE.out]; exact List.mem_map.2 ⟨x.1, x.2, rfl⟩
        exact HFA.out.ses _ hm
      have HGT : Hid (Calls Try.prog 24 #[.agg #[.pointer q], .string x.1.1] W fun e w' => ∃ A c, e = .returned (.tuple #[.agg #[.slice A ss.length c, .int .i64 t0, .int .i64 t1, .int .i64 t2], .bool th]) ∧ Lain 63 w' A (flatS ss) ∧ Below W.heap.size W w') := get x.1.1 hss ht hth hk HFB.out.book.1
      clear i1 i2 iX hk hB hp hin ht hss hth hr'
      gi_wp2
      refine ⟨fun h => by simp [Fence.wide] at h, (CallsIn.inRound l (callsIn_wide.2 HGT.out)).mono ?_⟩
      rintro e W3 ⟨A3, c3, rfl, sq, b1⟩
      have HSQ := Lib.hid sq
      replace HJ1 := Lib.hid (HJ1.out.below b1 HJ1.out.lt)
      replace HJ2 := Lib.hid (HJ2.out.below b1 HJ2.out.lt)
      replace HJX := Lib.hid (HJX.out.below b1 HJX.out.lt)
      replace HJB := Lib.hid (HJB.out.trans (b1.mono HJB.out.size))
      replace HBW := Lib.hid (HBW.out.trans (b1.mono HBW.out.size))
      replace HJK := Lib.hid (HJK.out.now b1)
      replace HJS := Lib.hid (HJS.out.now b1)
      clear b1 sq c1 HGT
      have x0 := HJX.out.cell' (i := 0) rfl
      have x1 := HJX.out.cell' (i := 1) rfl
      have x2 := HJX.out.cell' (i := 2) rfl
      have x3 := HJX.out.cell' (i := 3) rfl
      have lX := HJX.out.lt
      have z2 := HJ2.out.cell' (i := 0) rfl
      have k2 := HJ2.out.frozen 0
      have m2 := HJ2.out.lt
      rw [HJN.out] at x0
      have HP2 := HJ2
      have HPB := HJB
      have HPW := HBW
      have hP3 := HPB.out.size
      have bx := (Below.refl W3.heap.size W3).alloc (Nat.le_refl _) (.cells #[.slice A3 ss.length c3, .int .i64 t0, .int .i64 t1, .int .i64 t2] 70)
      replace HJ2 := Lib.hid (HJ2.out.below bx HJ2.out.lt)
      replace HJ1 := Lib.hid (HJ1.out.below bx HJ1.out.lt)
      replace HJB := Lib.hid (HJB.out.trans (bx.mono HJB.out.size))
      replace HBW := Lib.hid (HBW.out.trans (bx.mono HBW.out.size))
      replace HJK := Lib.hid (HJK.out.now bx)
      replace HJS := Lib.hid (HJS.out.now bx)
      replace HSQ := Lib.hid (HSQ.out.now bx)
      have HEQL : Hid (∀ r2, decide (x.1.2.ss = ss) = r2 → Calls Try.prog 40 #[.slice x.1.2.A x.1.2.ss.length x.1.2.c, .slice A3 ss.length c3] (W3.alloc (.cells #[.slice A3 ss.length c3, .int .i64 t0, .int .i64 t1, .int .i64 t2] 70)) fun e w' => e = .returned (.bool r2) ∧ Below (W3.alloc (.cells #[.slice A3 ss.length c3, .int .i64 t0, .int .i64 t1, .int .i64 t2] 70)).heap.size (W3.alloc (.cells #[.slice A3 ss.length c3, .int .i64 t0, .int .i64 t1, .int .i64 t2] 70)) w') := fun r2 hr2 => equal _ _ _ _ _ _ _ HJS.out.seq HSQ.out.seq (by omega) (by omega) r2 hr2
      clear bx
      cases th with
      | false =>
        have HNO : Hid (getK x.1.1 b ≠ some x.1.2.en) := fun e => by have := (HIFF.out.1 e).1; cases this
        clear HEQL HIFF
        gi_wp2
        exact ⟨(((KeepsOthers.of_below HPW.out).trans (KeepsOthers.setCell _ _ _)).trans (KeepsOthers.alloc _ _)).from _, ⟨(HP2.out.set 0 (.bool false) rfl).alloc _, (HPB.out.setCell (p := ⟨w.heap.size + 1 + 1, 0, none⟩) (by simp only []; omega) (.bool false)).alloc (by simp; omega) _⟩, rfl, x, by simp, HNO.out⟩
      | true =>
        by_cases h0 : x.1.2.st = t0
        · have _u := 0
          clear _u
          by_cases h1 : x.1.2.pr = t1
          · have _u := 0
            clear _u
            by_cases h2 : x.1.2.lv = t2
            · have _u := 0
              clear _u
              have e0 : (x.1.2.st == t0) = true := by simpa using h0
              have e1 : (x.1.2.pr == t1) = true := by simpa using h1
              have e2 : (x.1.2.lv == t2) = true := by simpa using h2
              by_cases h3 : x.1.2.ss = ss
              · have HYES : Hid (getK x.1.1 b = some x.1.2.en) := HIFF.out.2 ⟨rfl, by rw [h0, h1, h2], h3⟩
                have HE2 := Lib.hid (HEQL.out true (by simpa using h3))
                clear h0 h1 h2 h3 HEQL HIFF
                gi_wp2_with ((try refine ⟨fun h => by simp [Fence.wide] at h, ?_⟩); gi_at_call 40; refine (CallsIn.inRound l (callsIn_wide.2 HE2.out)).mono ?_; rintro e W5 ⟨rfl, b5⟩)
                replace HJ2 := Lib.hid (HJ2.out.below b5 HJ2.out.lt)
                replace HJ1 := Lib.hid (HJ1.out.below b5 HJ1.out.lt)
                replace HJB := Lib.hid (HJB.out.trans (b5.mono HJB.out.size))
                replace HBW := Lib.hid (HBW.out.trans (b5.mono HBW.out.size))
                replace HJK := Lib.hid (HJK.out.now b5)
                refine ⟨(KeepsOthers.of_below HBW.out).from _, HBW.out.mono (by omega), ⟨HJ1.out, HJ2.out⟩, ⟨HJK.out, HJB.out⟩, fun y hy => ?_⟩
                rcases List.mem_append.1 hy with hy | hy
                · exact HJP.out y hy
                · obtain rfl := List.mem_singleton.1 hy; exact HYES.out
              · have HNO : Hid (getK x.1.1 b ≠ some x.1.2.en) := fun e => h3 (HIFF.out.1 e).2.2
                have HE2 := Lib.hid (HEQL.out false (by simpa using h3))
                clear h0 h1 h2 h3 HEQL HIFF
                gi_wp2_with ((try refine ⟨fun h => by simp [Fence.wide] at h, ?_⟩); gi_at_call 40; refine (CallsIn.inRound l (callsIn_wide.2 HE2.out)).mono ?_; rintro e W5 ⟨rfl, b5⟩; replace HJ2 := Lib.hid (HJ2.out.below b5 HJ2.out.lt); replace HJB := Lib.hid (HJB.out.trans (b5.mono HJB.out.size)); replace HBW := Lib.hid (HBW.out.trans (b5.mono HBW.out.size)); have z2' := HJ2.out.cell' (i := 0) rfl; have k2' := HJ2.out.frozen 0; have m2' := HJ2.out.lt)
                refine ⟨((KeepsOthers.of_below HBW.out).trans (KeepsOthers.setCell _ _ _)).from _, ⟨HJ2.out.set 0 (.bool false) rfl, HJB.out.setCell (p := ⟨w.heap.size + 1 + 1, 0, none⟩) (by simp only []; omega) (.bool false)⟩, rfl, x, by simp, HNO.out⟩
            · have HNO : Hid (getK x.1.1 b ≠ some x.1.2.en) := fun e => h2 (by have := (HIFF.out.1 e).2.1; simp only [Prod.mk.injEq] at this; exact this.2.2)
              have e0 : (x.1.2.st == t0) = true := by simpa using h0
              have e1 : (x.1.2.pr == t1) = true := by simpa using h1
              have e2 : (x.1.2.lv == t2) = false := by simpa using h2
              clear HEQL HIFF h0 h1 h2
              gi_wp2
              exact ⟨(((KeepsOthers.of_below HPW.out).trans (KeepsOthers.setCell _ _ _)).trans (KeepsOthers.alloc _ _)).from _, ⟨(HP2.out.set 0 (.bool false) rfl).alloc _, (HPB.out.setCell (p := ⟨w.heap.size + 1 + 1, 0, none⟩) (by simp only []; omega) (.bool false)).alloc (by simp; omega) _⟩, rfl, x, by simp, HNO.out⟩
          · have HNO : Hid (getK x.1.1 b ≠ some x.1.2.en) := fun e => h1 (by have := (HIFF.out.1 e).2.1; simp only [Prod.mk.injEq] at this; exact this.2.1)
            have e0 : (x.1.2.st == t0) = true := by simpa using h0
            have e1 : (x.1.2.pr == t1) = false := by simpa using h1
            clear HEQL HIFF h0 h1
            gi_wp2
            exact ⟨(((KeepsOthers.of_below HPW.out).trans (KeepsOthers.setCell _ _ _)).trans (KeepsOthers.alloc _ _)).from _, ⟨(HP2.out.set 0 (.bool false) rfl).alloc _, (HPB.out.setCell (p := ⟨w.heap.size + 1 + 1, 0, none⟩) (by simp only []; omega) (.bool false)).alloc (by simp; omega) _⟩, rfl, x, by simp, HNO.out⟩
        · have HNO : Hid (getK x.1.1 b ≠ some x.1.2.en) := fun e => h0 (by have := (HIFF.out.1 e).2.1; simp only [Prod.mk.injEq] at this; exact this.1)
          have e0 : (x.1.2.st == t0) = false := by simpa using h0
          clear HEQL HIFF h0
          gi_wp2
          exact ⟨(((KeepsOthers.of_below HPW.out).trans (KeepsOthers.setCell _ _ _)).trans (KeepsOthers.alloc _ _)).from _, ⟨(HP2.out.set 0 (.bool false) rfl).alloc _, (HPB.out.setCell (p := ⟨w.heap.size + 1 + 1, 0, none⟩) (by simp only []; omega) (.bool false)).alloc (by simp; omega) _⟩, rfl, x, by simp, HNO.out⟩
    case done =>
      rintro D ys W hD hys ⟨⟨i1, i2⟩, ⟨hk, hB⟩, hp⟩ hK
      have HT : Hid (r = true) := by
        refine HR.out.2 (rises_eq lt tri HFA.out.book.1 HFB.out.book.1 HLEN.out fun y hy => ?_)
        rw [← HBE.out] at hy
        obtain ⟨z, hz, e⟩ := List.mem_map.1 hy
        rw [← hys] at hz
        obtain ⟨x, hx, e'⟩ := List.mem_map.1 hz
        have := hp x hx
        rw [e'] at this
        rw [← e]
        exact this
      have z2 := i2.cell' (i := 0) rfl
      have k2 := i2.frozen 0
      have m2 := i2.lt
      have II := Lib.hid (⟨i2, hB⟩ : _ ∧ _)
      clear i1 i2 hk hB hp hys
      gi_wp2
      obtain ⟨i2, hB⟩ := II.out
      have hK' : (W.setCell ⟨w.heap.size + 1 + 1, 0, none⟩ (.bool true)).heap[D]? = some (.deferred (some [])) := (KeepsOthers.setCell W _ _).same D _ hK rfl
      have j2 := i2.set 0 (.bool true) rfl
      have jb := hB.setCell (p := ⟨w.heap.size + 1 + 1, 0, none⟩) (by simp only []; omega) (.bool true)
      have hz8 : w.heap.size + 1 + 1 < (W.setCell ⟨w.heap.size + 1 + 1, 0, none⟩ (.bool true)).heap.size := by simpa using m2
      generalize W.setCell ⟨w.heap.size + 1 + 1, 0, none⟩ (.bool true) = W8 at *
      have kx : Keeps 4 W8 (W8.putObj D (.deferred none)) := Keeps.own_ (B := 0) (grownBy_putObj' W8 D _) (fun r e => by cases e; exact ⟨Nat.zero_le _, _, hK', rfl⟩)
      have n0 : (W8.putObj D (.deferred none)).cell? ⟨w.heap.size + 1 + 1, 0, none⟩ = some (.bool true) := (kx.is j2).cell' rfl
      refine ⟨by simp, .inl ⟨_, _, rfl, run_takeDeferred hK', ?_⟩⟩
      exact ⟨.bool true, by simp [results, Try.results19, go_sem, n0], by rw [HT.out], jb.trans (belowK_b (w := w) (Nat.le_refl _) W8 D _ _ (by omega) hK' rfl rfl)⟩
    case stop =>
      rintro D c pre W hD hsp ⟨⟨i2, hB⟩, rfl, x, hx, hne⟩ hK
      have HF : Hid (r = false) := by
        show _ = _
        cases r with
        | false => rfl
        | true =>
          have e := HR.out.1 rfl
          have hm : (x.1.1, x.1.2.en) ∈ a := by rw [← HBE.out]; exact List.mem_map.2 ⟨x.1, x.2, rfl⟩
          rw [e] at hm
          exact absurd (getK_of lt tri HFB.out.book.1 hm) hne
      have m2 := i2.lt
      have kx : Keeps 4 W (W.putObj D (.deferred none)) := Keeps.own_ (B := 0) (grownBy_putObj' W D _) (fun r e => by cases e; exact ⟨Nat.zero_le _, _, hK, rfl⟩)
      have n0 : (W.putObj D (.deferred none)).cell? ⟨w.heap.size + 1 + 1, 0, none⟩ = some (.bool false) := (kx.is i2).cell' rfl
      gi_wp2
      refine ⟨by simp, .inl ⟨_, _, rfl, run_takeDeferred hK, ?_⟩⟩
      exact ⟨.bool false, by simp [results, Try.results19, go_sem, n0], by rw [HF.out], hB.trans (belowK_b (w := w) (Nat.le_refl _) W D _ _ (by omega) hK rfl rfl)⟩
  · have d0 : ((a.length : Int) != (b.length : Int)) = true := by simp; omega
    have HF : Hid (r = false) := by show _ = _; cases r with | false => rfl | true => exact absurd (by rw [HR.out.1 rfl]) hlen
    have HBZ := Lib.hid (HB.out.setCell (p := ⟨w.heap.size + 1 + 1, 0, none⟩) (by simp only []; omega) (.bool false))
    have HIZ := Lib.hid (HI2.out.set 0 (.bool false) rfl)
    gi_wp2
    generalize W2.setCell ⟨w.heap.size + 1 + 1, 0, none⟩ (.bool false) = W8 at *
    have n0 := HIZ.out.cell' (i := 0) rfl
    exact ⟨.bool false, by simp [results, Try.results19, go_sem, n0], by rw [HF.out], HBZ.out⟩
theorem same {w : World} {p q : Option Addr} {a b : List (ByteArray × En)} {r : Bool} (hr : r = true ↔ a = b) (h : Booked w p a) (g : Booked w q b) (ha : Fit 900 a) (hb : Fit 900 b) :
    Calls Try.prog 19 #[M p, M q] w fun e w' => e = .returned (.bool r) ∧ Below w.heap.size w w' :=
  (callsIn_wide (n := 4)).1 (same_in 4 (Nat.le_refl _) hr h g ha hb)
end Bk
end Go.Proofs.Ytjjemdmbhgmiiaa

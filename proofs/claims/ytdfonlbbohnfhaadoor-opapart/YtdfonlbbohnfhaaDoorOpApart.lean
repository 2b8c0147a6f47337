/-
  Ops that aren't bad, and have unlike lines, are unlike, and the other way round; so are replies.
-/
import Derived.Test.YtdfonlbbohnfhaaDoorOpAwk
import Derived.Test.YtdfonlbbohnfhaaDoorOpDecR
import Derived.Test.YtdfonlbbohnfhaaDoorOpSam2
import Derived.RegionTactic
import Derived.Deep.DeepCutAuto
import Derived.Test.YtdfonlbbohnfhaaDoorOpSam4
import Derived.ChangeAlike
namespace Go.Proofs.YtdfonlbbohnfhaaDoor
open Go.RowKit Go.ChangeShapes Go.WideShapes Go.ChangeAt
attribute [local go_sem] Oper.semAt_some
namespace opApart
open Go.Law Opx
/-- what the walk knows all along -/
structure All (g : Nat) (x y : OpW) (a b : RepW) (w0 w : World) : Prop where
  X : Is w g 25 x.box
  Y : Is w (g + 1) 25 y.box
  A : Is w (g + 2) 30 a.box
  B : Is w (g + 3) 30 b.box
  ix : x.In w
  iy : y.In w
  ia : RepRaw a w
  ib : RepRaw b w
  tabs : Tabs w
  below : Below w0.heap.size w0 w
theorem All.now {g : Nat} {x y : OpW} {a b : RepW} {w0 w w' : World} (h : All g x y a b w0 w) (hb : Below w.heap.size w w') : All g x y a b w0 w' :=
  ⟨h.X.below hb h.X.lt, h.Y.below hb h.Y.lt, h.A.below hb h.A.lt, h.B.below hb h.B.lt, h.ix.below hb, h.iy.below hb, h.ia.below hb, h.ib.below hb, h.tabs.below hb, h.below.trans (hb.mono h.below.size)⟩
theorem All.drew {g : Nat} {x y : OpW} {a b : RepW} {w0 w : World} (h : All g x y a b w0 w) (n : Nat) : All g x y a b w0 (w.drewN n) := h.now (Law.below_drewN (Below.refl _ _) n)
theorem str_dec (a b : ByteArray) : (a.toList == b.toList) = decide (a = b) := by
  by_cases h : a = b
  · subst h; simp
  · rw [lst_ne h, decide_eq_false h]
set_option maxRecDepth 100000 in
set_option maxHeartbeats 16000000 in
theorem walk (x y : OpW) (a b : RepW) (w : World) (hx : x.In w) (hy : y.In w) (ha : RepRaw a w) (hb : RepRaw b w) (hT : Tabs w) :
    Calls Tryd.prog 3 #[.agg x.box, .agg y.box, .agg a.box, .agg b.box] w fun e w' => e = .returned (.bool true) ∧ Below w.heap.size w w' := by
  have b0 : Below w.heap.size w ((((w.alloc (.cells x.box 25)).alloc (.cells y.box 25)).alloc (.cells a.box 30)).alloc (.cells b.box 30)) := ((((Below.refl w.heap.size w).alloc (Nat.le_refl _) _).alloc (by simp) _).alloc (by simp; omega) _).alloc (by simp; omega) _
  have HH : Hid (All w.heap.size x y a b w ((((w.alloc (.cells x.box 25)).alloc (.cells y.box 25)).alloc (.cells a.box 30)).alloc (.cells b.box 30))) := Lib.hid ⟨(((Is.new w _ _ rfl).alloc _).alloc _).alloc _, ((Is.new _ _ _ (by simp)).alloc _).alloc _, (Is.new _ _ _ (by simp)).alloc _, Is.new _ _ _ (by simp), hx.below b0, hy.below b0, ha.below b0, hb.below b0, hT.below b0, b0⟩
  have lva := ha.lv
  have lvb := hb.lv
  have lea := ha.le
  have leb := hb.le
  clear hx hy ha hb hT b0
  obtain ⟨kx, ux, idx, sx, px, tx, Ax, cx, usx⟩ := x
  obtain ⟨ky, uy, idy, sy, py, ty, Ay, cy, usy⟩ := y
  obtain ⟨ea, Aa, ca, va, Ea, cea, esa, la⟩ := a
  obtain ⟨eb, Ab, cb, vb, Eb, ceb, esb, lb⟩ := b
  simp only [maxLen] at lva lvb lea leb
  show Calls _ _ #[.agg #[.int .i64 kx, .string ux, .int .i64 idx, .int .i64 sx, .int .i64 px, .int .u64 tx, .slice Ax usx.length cx], .agg #[.int .i64 ky, .string uy, .int .i64 idy, .int .i64 sy, .int .i64 py, .int .u64 ty, .slice Ay usy.length cy], .agg #[.int .i64 ea, .slice Aa va.length ca, .slice Ea esa.length cea, .bool la], .agg #[.int .i64 eb, .slice Ab vb.length cb, .slice Eb esb.length ceb, .bool lb]] _ _
  replace HH : Hid (All w.heap.size ⟨kx, ux, idx, sx, px, tx, Ax, cx, usx⟩ ⟨ky, uy, idy, sy, py, ty, Ay, cy, usy⟩ ⟨ea, Aa, ca, va, Ea, cea, esa, la⟩ ⟨eb, Ab, cb, vb, Eb, ceb, esb, lb⟩ w ((((w.alloc (.cells #[.int .i64 kx, .string ux, .int .i64 idx, .int .i64 sx, .int .i64 px, .int .u64 tx, .slice Ax usx.length cx] 25)).alloc (.cells #[.int .i64 ky, .string uy, .int .i64 idy, .int .i64 sy, .int .i64 py, .int .u64 ty, .slice Ay usy.length cy] 25)).alloc (.cells #[.int .i64 ea, .slice Aa va.length ca, .slice Ea esa.length cea, .bool la] 30)).alloc (.cells #[.int .i64 eb, .slice Ab vb.length cb, .slice Eb esb.length ceb, .bool lb] 30))) := HH
  go_enter Tryd.func3, Tryd.ntmps3
  go_wp2_with fail
  generalize ((((w.alloc (.cells #[.int .i64 kx, .string ux, .int .i64 idx, .int .i64 sx, .int .i64 px, .int .u64 tx, .slice Ax usx.length cx] 25)).alloc (.cells #[.int .i64 ky, .string uy, .int .i64 idy, .int .i64 sy, .int .i64 py, .int .u64 ty, .slice Ay usy.length cy] 25)).alloc (.cells #[.int .i64 ea, .slice Aa va.length ca, .slice Ea esa.length cea, .bool la] 30)).alloc (.cells #[.int .i64 eb, .slice Ab vb.length cb, .slice Eb esb.length ceb, .bool lb] 30)) = w1 at *
  refine (awake w1 HH.out.tabs).mono ?_
  rintro e w2 ⟨rfl, bx⟩
  have HH2 := Lib.hid (HH.out.now bx)
  clear bx
  have xc0 : w2.cell? ⟨w.heap.size, 0, none⟩ = some (.int .i64 kx) := HH2.out.X.cell' rfl
  have xc1 : w2.cell? ⟨w.heap.size, 1, none⟩ = some (.string ux) := HH2.out.X.cell' rfl
  have xc2 : w2.cell? ⟨w.heap.size, 2, none⟩ = some (.int .i64 idx) := HH2.out.X.cell' rfl
  have xc3 : w2.cell? ⟨w.heap.size, 3, none⟩ = some (.int .i64 sx) := HH2.out.X.cell' rfl
  have xc4 : w2.cell? ⟨w.heap.size, 4, none⟩ = some (.int .i64 px) := HH2.out.X.cell' rfl
  have xc5 : w2.cell? ⟨w.heap.size, 5, none⟩ = some (.int .u64 tx) := HH2.out.X.cell' rfl
  have xc6 : w2.cell? ⟨w.heap.size, 6, none⟩ = some (.slice Ax usx.length cx) := HH2.out.X.cell' rfl
  have xlt := HH2.out.X.lt
  have yc0 : w2.cell? ⟨w.heap.size + 1, 0, none⟩ = some (.int .i64 ky) := HH2.out.Y.cell' rfl
  have yc1 : w2.cell? ⟨w.heap.size + 1, 1, none⟩ = some (.string uy) := HH2.out.Y.cell' rfl
  have yc2 : w2.cell? ⟨w.heap.size + 1, 2, none⟩ = some (.int .i64 idy) := HH2.out.Y.cell' rfl
  have yc3 : w2.cell? ⟨w.heap.size + 1, 3, none⟩ = some (.int .i64 sy) := HH2.out.Y.cell' rfl
  have yc4 : w2.cell? ⟨w.heap.size + 1, 4, none⟩ = some (.int .i64 py) := HH2.out.Y.cell' rfl
  have yc5 : w2.cell? ⟨w.heap.size + 1, 5, none⟩ = some (.int .u64 ty) := HH2.out.Y.cell' rfl
  have yc6 : w2.cell? ⟨w.heap.size + 1, 6, none⟩ = some (.slice Ay usy.length cy) := HH2.out.Y.cell' rfl
  have ylt := HH2.out.Y.lt
  have ac0 : w2.cell? ⟨w.heap.size + 2, 0, none⟩ = some (.int .i64 ea) := HH2.out.A.cell' rfl
  have ac1 : w2.cell? ⟨w.heap.size + 2, 1, none⟩ = some (.slice Aa va.length ca) := HH2.out.A.cell' rfl
  have ac2 : w2.cell? ⟨w.heap.size + 2, 2, none⟩ = some (.slice Ea esa.length cea) := HH2.out.A.cell' rfl
  have ac3 : w2.cell? ⟨w.heap.size + 2, 3, none⟩ = some (.bool la) := HH2.out.A.cell' rfl
  have alt := HH2.out.A.lt
  have bc0 : w2.cell? ⟨w.heap.size + 3, 0, none⟩ = some (.int .i64 eb) := HH2.out.B.cell' rfl
  have bc1 : w2.cell? ⟨w.heap.size + 3, 1, none⟩ = some (.slice Ab vb.length cb) := HH2.out.B.cell' rfl
  have bc2 : w2.cell? ⟨w.heap.size + 3, 2, none⟩ = some (.slice Eb esb.length ceb) := HH2.out.B.cell' rfl
  have bc3 : w2.cell? ⟨w.heap.size + 3, 3, none⟩ = some (.bool lb) := HH2.out.B.cell' rfl
  have blt := HH2.out.B.lt
  cases hsx : shortB ⟨kx, ux, idx, sx, px, tx, Ax, cx, usx⟩ with
  | false =>
    go_wp2_with fail
    refine (short ⟨kx, ux, idx, sx, px, tx, Ax, cx, usx⟩ HH2.out.ix hsx).mono ?_
    rintro e w3 ⟨rfl, bx⟩
    have HH3 := Lib.hid (HH2.out.now bx)
    clear bx
    go_wp2_with fail
    refine (awake w3 HH3.out.tabs).mono ?_
    rintro e w9 ⟨rfl, bx⟩
    have HH9 := Lib.hid (HH3.out.now bx)
    clear bx
    go_wp2_with fail
    go_ret
    exact ⟨rfl, HH9.out.below⟩
  | true =>
    go_wp2_with fail
    refine (short ⟨kx, ux, idx, sx, px, tx, Ax, cx, usx⟩ HH2.out.ix hsx).mono ?_
    rintro e w3 ⟨rfl, bx⟩
    have HH3 := Lib.hid (HH2.out.now bx)
    clear bx
    clear xc0 xc1 xc2 xc3 xc4 xc5 xc6 xlt yc0 yc1 yc2 yc3 yc4 yc5 yc6 ylt ac0 ac1 ac2 ac3 alt bc0 bc1 bc2 bc3 blt
    have xc0 : w3.cell? ⟨w.heap.size, 0, none⟩ = some (.int .i64 kx) := HH3.out.X.cell' rfl
    have xc1 : w3.cell? ⟨w.heap.size, 1, none⟩ = some (.string ux) := HH3.out.X.cell' rfl
    have xc2 : w3.cell? ⟨w.heap.size, 2, none⟩ = some (.int .i64 idx) := HH3.out.X.cell' rfl
    have xc3 : w3.cell? ⟨w.heap.size, 3, none⟩ = some (.int .i64 sx) := HH3.out.X.cell' rfl
    have xc4 : w3.cell? ⟨w.heap.size, 4, none⟩ = some (.int .i64 px) := HH3.out.X.cell' rfl
    have xc5 : w3.cell? ⟨w.heap.size, 5, none⟩ = some (.int .u64 tx) := HH3.out.X.cell' rfl
    have xc6 : w3.cell? ⟨w.heap.size, 6, none⟩ = some (.slice Ax usx.length cx) := HH3.out.X.cell' rfl
    have xlt := HH3.out.X.lt
    have yc0 : w3.cell? ⟨w.heap.size + 1, 0, none⟩ = some (.int .i64 ky) := HH3.out.Y.cell' rfl
    have yc1 : w3.cell? ⟨w.heap.size + 1, 1, none⟩ = some (.string uy) := HH3.out.Y.cell' rfl
    have yc2 : w3.cell? ⟨w.heap.size + 1, 2, none⟩ = some (.int .i64 idy) := HH3.out.Y.cell' rfl
    have yc3 : w3.cell? ⟨w.heap.size + 1, 3, none⟩ = some (.int .i64 sy) := HH3.out.Y.cell' rfl
    have yc4 : w3.cell? ⟨w.heap.size + 1, 4, none⟩ = some (.int .i64 py) := HH3.out.Y.cell' rfl
    have yc5 : w3.cell? ⟨w.heap.size + 1, 5, none⟩ = some (.int .u64 ty) := HH3.out.Y.cell' rfl
    have yc6 : w3.cell? ⟨w.heap.size + 1, 6, none⟩ = some (.slice Ay usy.length cy) := HH3.out.Y.cell' rfl
    have ylt := HH3.out.Y.lt
    have ac0 : w3.cell? ⟨w.heap.size + 2, 0, none⟩ = some (.int .i64 ea) := HH3.out.A.cell' rfl
    have ac1 : w3.cell? ⟨w.heap.size + 2, 1, none⟩ = some (.slice Aa va.length ca) := HH3.out.A.cell' rfl
    have ac2 : w3.cell? ⟨w.heap.size + 2, 2, none⟩ = some (.slice Ea esa.length cea) := HH3.out.A.cell' rfl
    have ac3 : w3.cell? ⟨w.heap.size + 2, 3, none⟩ = some (.bool la) := HH3.out.A.cell' rfl
    have alt := HH3.out.A.lt
    have bc0 : w3.cell? ⟨w.heap.size + 3, 0, none⟩ = some (.int .i64 eb) := HH3.out.B.cell' rfl
    have bc1 : w3.cell? ⟨w.heap.size + 3, 1, none⟩ = some (.slice Ab vb.length cb) := HH3.out.B.cell' rfl
    have bc2 : w3.cell? ⟨w.heap.size + 3, 2, none⟩ = some (.slice Eb esb.length ceb) := HH3.out.B.cell' rfl
    have bc3 : w3.cell? ⟨w.heap.size + 3, 3, none⟩ = some (.bool lb) := HH3.out.B.cell' rfl
    have blt := HH3.out.B.lt
    cases hsy : shortB ⟨ky, uy, idy, sy, py, ty, Ay, cy, usy⟩ with
    | false =>
      go_wp2_with fail
      refine (short ⟨ky, uy, idy, sy, py, ty, Ay, cy, usy⟩ HH3.out.iy hsy).mono ?_
      rintro e w4 ⟨rfl, bx⟩
      have HH4 := Lib.hid (HH3.out.now bx)
      clear bx
      go_wp2_with fail
      refine (awake w4 HH4.out.tabs).mono ?_
      rintro e w9 ⟨rfl, bx⟩
      have HH9 := Lib.hid (HH4.out.now bx)
      clear bx
      go_wp2_with fail
      go_ret
      exact ⟨rfl, HH9.out.below⟩
    | true =>
      go_wp2_with fail
      refine (short ⟨ky, uy, idy, sy, py, ty, Ay, cy, usy⟩ HH3.out.iy hsy).mono ?_
      rintro e w4 ⟨rfl, bx⟩
      have HH4 := Lib.hid (HH3.out.now bx)
      clear bx
      clear xc0 xc1 xc2 xc3 xc4 xc5 xc6 xlt yc0 yc1 yc2 yc3 yc4 yc5 yc6 ylt ac0 ac1 ac2 ac3 alt bc0 bc1 bc2 bc3 blt
      have xc0 : w4.cell? ⟨w.heap.size, 0, none⟩ = some (.int .i64 kx) := HH4.out.X.cell' rfl
      have xc1 : w4.cell? ⟨w.heap.size, 1, none⟩ = some (.string ux) := HH4.out.X.cell' rfl
      have xc2 : w4.cell? ⟨w.heap.size, 2, none⟩ = some (.int .i64 idx) := HH4.out.X.cell' rfl
      have xc3 : w4.cell? ⟨w.heap.size, 3, none⟩ = some (.int .i64 sx) := HH4.out.X.cell' rfl
      have xc4 : w4.cell? ⟨w.heap.size, 4, none⟩ = some (.int .i64 px) := HH4.out.X.cell' rfl
      have xc5 : w4.cell? ⟨w.heap.size, 5, none⟩ = some (.int .u64 tx) := HH4.out.X.cell' rfl
      have xc6 : w4.cell? ⟨w.heap.size, 6, none⟩ = some (.slice Ax usx.length cx) := HH4.out.X.cell' rfl
      have xlt := HH4.out.X.lt
      have yc0 : w4.cell? ⟨w.heap.size + 1, 0, none⟩ = some (.int .i64 ky) := HH4.out.Y.cell' rfl
      have yc1 : w4.cell? ⟨w.heap.size + 1, 1, none⟩ = some (.string uy) := HH4.out.Y.cell' rfl
      have yc2 : w4.cell? ⟨w.heap.size + 1, 2, none⟩ = some (.int .i64 idy) := HH4.out.Y.cell' rfl
      have yc3 : w4.cell? ⟨w.heap.size + 1, 3, none⟩ = some (.int .i64 sy) := HH4.out.Y.cell' rfl
      have yc4 : w4.cell? ⟨w.heap.size + 1, 4, none⟩ = some (.int .i64 py) := HH4.out.Y.cell' rfl
      have yc5 : w4.cell? ⟨w.heap.size + 1, 5, none⟩ = some (.int .u64 ty) := HH4.out.Y.cell' rfl
      have yc6 : w4.cell? ⟨w.heap.size + 1, 6, none⟩ = some (.slice Ay usy.length cy) := HH4.out.Y.cell' rfl
      have ylt := HH4.out.Y.lt
      have ac0 : w4.cell? ⟨w.heap.size + 2, 0, none⟩ = some (.int .i64 ea) := HH4.out.A.cell' rfl
      have ac1 : w4.cell? ⟨w.heap.size + 2, 1, none⟩ = some (.slice Aa va.length ca) := HH4.out.A.cell' rfl
      have ac2 : w4.cell? ⟨w.heap.size + 2, 2, none⟩ = some (.slice Ea esa.length cea) := HH4.out.A.cell' rfl
      have ac3 : w4.cell? ⟨w.heap.size + 2, 3, none⟩ = some (.bool la) := HH4.out.A.cell' rfl
      have alt := HH4.out.A.lt
      have bc0 : w4.cell? ⟨w.heap.size + 3, 0, none⟩ = some (.int .i64 eb) := HH4.out.B.cell' rfl
      have bc1 : w4.cell? ⟨w.heap.size + 3, 1, none⟩ = some (.slice Ab vb.length cb) := HH4.out.B.cell' rfl
      have bc2 : w4.cell? ⟨w.heap.size + 3, 2, none⟩ = some (.slice Eb esb.length ceb) := HH4.out.B.cell' rfl
      have bc3 : w4.cell? ⟨w.heap.size + 3, 3, none⟩ = some (.bool lb) := HH4.out.B.cell' rfl
      have blt := HH4.out.B.lt
      by_cases h0 : 60 < va.length
      · have d0 : decide ((60 : Int) < (va.length : Int)) = true := by simp; omega
        go_wp2_with fail
        refine (awake w4 HH4.out.tabs).mono ?_
        rintro e w9 ⟨rfl, bx⟩
        have HH9 := Lib.hid (HH4.out.now bx)
        clear bx
        go_wp2_with fail
        go_ret
        exact ⟨rfl, HH9.out.below⟩
      have d0 : decide ((60 : Int) < (va.length : Int)) = false := by simp; omega
      by_cases h1 : 60 < vb.length
      · have d1 : decide ((60 : Int) < (vb.length : Int)) = true := by simp; omega
        go_wp2_with fail
        refine (awake w4 HH4.out.tabs).mono ?_
        rintro e w9 ⟨rfl, bx⟩
        have HH9 := Lib.hid (HH4.out.now bx)
        clear bx
        go_wp2_with fail
        go_ret
        exact ⟨rfl, HH9.out.below⟩
      have d1 : decide ((60 : Int) < (vb.length : Int)) = false := by simp; omega
      by_cases h2 : 60 < esa.length
      · have d2 : decide ((60 : Int) < (esa.length : Int)) = true := by simp; omega
        go_wp2_with fail
        refine (awake w4 HH4.out.tabs).mono ?_
        rintro e w9 ⟨rfl, bx⟩
        have HH9 := Lib.hid (HH4.out.now bx)
        clear bx
        go_wp2_with fail
        go_ret
        exact ⟨rfl, HH9.out.below⟩
      have d2 : decide ((60 : Int) < (esa.length : Int)) = false := by simp; omega
      by_cases h3 : 60 < esb.length
      · have d3 : decide ((60 : Int) < (esb.length : Int)) = true := by simp; omega
        go_wp2_with fail
        refine (awake w4 HH4.out.tabs).mono ?_
        rintro e w9 ⟨rfl, bx⟩
        have HH9 := Lib.hid (HH4.out.now bx)
        clear bx
        go_wp2_with fail
        go_ret
        exact ⟨rfl, HH9.out.below⟩
      have d3 : decide ((60 : Int) < (esb.length : Int)) = false := by simp; omega
      have lux : usx.length ≤ 1000 := by have := hsx; simp [shortB] at this; omega
      have luy : usy.length ≤ 1000 := by have := hsy; simp [shortB] at this; omega
      cases hgx : goodB ⟨kx, ux, idx, sx, px, tx, Ax, cx, usx⟩ with
      | false =>
        have HBx : Hid (∀ W, OpW.In ⟨kx, ux, idx, sx, px, tx, Ax, cx, usx⟩ W → Calls Tryd.prog 6 #[.agg #[.int .i64 kx, .string ux, .int .i64 idx, .int .i64 sx, .int .i64 px, .int .u64 tx, .slice Ax usx.length cx]] W fun e w' => e = .returned (.bool true) ∧ Below W.heap.size W w') := Lib.hid (fun W h => rbad ⟨kx, ux, idx, sx, px, tx, Ax, cx, usx⟩ h lux (by rw [hgx]; rfl))
        go_wp2_with fail
        have HH40 := Lib.hid (HH4.out.drew 1)
        refine wp_region_held_drew (S := fun w' => w'.cell? ⟨w.heap.size, 0, none⟩ = some (.int .i64 kx) ∧ w'.cell? ⟨w.heap.size, 1, none⟩ = some (.string ux) ∧ w'.cell? ⟨w.heap.size, 2, none⟩ = some (.int .i64 idx) ∧ w'.cell? ⟨w.heap.size, 3, none⟩ = some (.int .i64 sx) ∧ w'.cell? ⟨w.heap.size, 4, none⟩ = some (.int .i64 px) ∧ w'.cell? ⟨w.heap.size, 5, none⟩ = some (.int .u64 tx) ∧ w'.cell? ⟨w.heap.size, 6, none⟩ = some (.slice Ax usx.length cx) ∧ w'.cell? ⟨w.heap.size + 1, 0, none⟩ = some (.int .i64 ky) ∧ w'.cell? ⟨w.heap.size + 1, 1, none⟩ = some (.string uy) ∧ w'.cell? ⟨w.heap.size + 1, 2, none⟩ = some (.int .i64 idy) ∧ w'.cell? ⟨w.heap.size + 1, 3, none⟩ = some (.int .i64 sy) ∧ w'.cell? ⟨w.heap.size + 1, 4, none⟩ = some (.int .i64 py) ∧ w'.cell? ⟨w.heap.size + 1, 5, none⟩ = some (.int .u64 ty) ∧ w'.cell? ⟨w.heap.size + 1, 6, none⟩ = some (.slice Ay usy.length cy)) (by kernel_rfl) ⟨HH4.out.X.cell' rfl, HH4.out.X.cell' rfl, HH4.out.X.cell' rfl, HH4.out.X.cell' rfl, HH4.out.X.cell' rfl, HH4.out.X.cell' rfl, HH4.out.X.cell' rfl, HH4.out.Y.cell' rfl, HH4.out.Y.cell' rfl, HH4.out.Y.cell' rfl, HH4.out.Y.cell' rfl, HH4.out.Y.cell' rfl, HH4.out.Y.cell' rfl, HH4.out.Y.cell' rfl⟩ (fun hS0 => ?_)
        refine Go.Law.tk 0 ⟨some 48, .load 25 (.tmp 4), _, _, _, _⟩ (v := .agg #[.int .i64 kx, .string ux, .int .i64 idx, .int .i64 sx, .int .i64 px, .int .u64 tx, .slice Ax usx.length cx]) hS0 ?_ ?_
        · intro w' hSw
          obtain ⟨s0, s1, s2, s3, s4, s5, s6, s7, s8, s9, s10, s11, s12, s13⟩ := hSw
          go_simp
        try simp only [Go.Law.pz]
        refine wpAnyH_ready (rs := [1]) (by kernel_rfl) (by simp) ?_
        refine AllReadyH.cons (o := ⟨some 49, .call { callee := .value (.func 6), args := #[.tmp 48], argTypes := _ }, _, _, _, _⟩) rfl (fun K hK => ?_) AllReadyH.nil
        go_simp
        refine Calls.mono (HBx.out _ HH40.out.ix) ?_
        rintro e w41 ⟨rfl, bx⟩
        have HH41 := Lib.hid (HH40.out.now bx)
        clear bx
        go_wp2_with fail
        refine hK.out _ _ ⟨HH41.out.X.cell' rfl, HH41.out.X.cell' rfl, HH41.out.X.cell' rfl, HH41.out.X.cell' rfl, HH41.out.X.cell' rfl, HH41.out.X.cell' rfl, HH41.out.X.cell' rfl, HH41.out.Y.cell' rfl, HH41.out.Y.cell' rfl, HH41.out.Y.cell' rfl, HH41.out.Y.cell' rfl, HH41.out.Y.cell' rfl, HH41.out.Y.cell' rfl, HH41.out.Y.cell' rfl⟩ (fun hS1 => ?_)
        clear hK K
        try simp only [Go.Law.pz]
        refine Go.Law.tk 2 ⟨some 50, .unOp .not _ (.tmp 49), _, _, _, _⟩ (v := .bool false) hS1 ?_ ?_
        · intro w' hSw
          go_simp
        try simp only [Go.Law.pz]
        refine Go.Law.tk 3 ⟨some 51, .move (.tmp 50), _, _, _, _⟩ (v := .bool false) hS1 ?_ ?_
        · intro w' hSw
          go_simp
        try simp only [Go.Law.pz]
        refine Go.Law.sk 4 ⟨some 52, .load 25 (.tmp 5), _, _, _, _⟩ hS1 ?_
        try simp only [Go.Law.pz]
        refine Go.Law.sk 5 ⟨some 53, .call { callee := .value (.func 6), args := #[.tmp 52], argTypes := _ }, _, _, _, _⟩ hS1 ?_
        try simp only [Go.Law.pz]
        refine Go.Law.sk 6 ⟨some 54, .unOp .not _ (.tmp 53), _, _, _, _⟩ hS1 ?_
        try simp only [Go.Law.pz]
        refine Go.Law.tk 7 ⟨some 55, .pick (.tmp 51) (.tmp 54) (.const (.bool false)), _, _, _, _⟩ (v := .bool false) hS1 ?_ ?_
        · intro w' hSw
          go_simp
        try simp only [Go.Law.pz]
        refine Go.Law.tk 8 ⟨some 56, .move (.tmp 55), _, _, _, _⟩ (v := .bool false) hS1 ?_ ?_
        · intro w' hSw
          go_simp
        try simp only [Go.Law.pz]
        refine Go.Law.sk 9 ⟨some 57, .load 25 (.tmp 4), _, _, _, _⟩ hS1 ?_
        try simp only [Go.Law.pz]
        refine Go.Law.sk 10 ⟨some 58, .call { callee := .value (.func 7), args := #[.tmp 57], argTypes := _ }, _, _, _, _⟩ hS1 ?_
        try simp only [Go.Law.pz]
        refine Go.Law.sk 11 ⟨some 59, .load 25 (.tmp 5), _, _, _, _⟩ hS1 ?_
        try simp only [Go.Law.pz]
        refine Go.Law.sk 12 ⟨some 60, .call { callee := .value (.func 7), args := #[.tmp 59], argTypes := _ }, _, _, _, _⟩ hS1 ?_
        try simp only [Go.Law.pz]
        refine Go.Law.sk 13 ⟨some 61, .binOp .eql 9 (.tmp 58) (.tmp 60) 9, _, _, _, _⟩ hS1 ?_
        try simp only [Go.Law.pz]
        refine Go.Law.sk 14 ⟨some 62, .load 25 (.tmp 4), _, _, _, _⟩ hS1 ?_
        try simp only [Go.Law.pz]
        refine Go.Law.sk 15 ⟨some 63, .load 25 (.tmp 5), _, _, _, _⟩ hS1 ?_
        try simp only [Go.Law.pz]
        refine Go.Law.sk 16 ⟨some 64, .call { callee := .value (.func 8), args := #[.tmp 62, .tmp 63], argTypes := _ }, _, _, _, _⟩ hS1 ?_
        try simp only [Go.Law.pz]
        refine Go.Law.sk 17 ⟨some 65, .binOp .neq _ (.tmp 61) (.tmp 64) _, _, _, _, _⟩ hS1 ?_
        try simp only [Go.Law.pz]
        refine Go.Law.tk 18 ⟨some 66, .pick (.tmp 56) (.tmp 65) (.const (.bool false)), _, _, _, _⟩ (v := .bool false) hS1 ?_ ?_
        · intro w' hSw
          go_simp
        try simp only [Go.Law.pz]
        refine wpAnyH_done (by kernel_rfl) ?_ _
        clear xc0 xc1 xc2 xc3 xc4 xc5 xc6 xlt yc0 yc1 yc2 yc3 yc4 yc5 yc6 ylt ac0 ac1 ac2 ac3 alt bc0 bc1 bc2 bc3 blt
        have ac0 : w41.cell? ⟨w.heap.size + 2, 0, none⟩ = some (.int .i64 ea) := HH41.out.A.cell' rfl
        have ac1 : w41.cell? ⟨w.heap.size + 2, 1, none⟩ = some (.slice Aa va.length ca) := HH41.out.A.cell' rfl
        have ac2 : w41.cell? ⟨w.heap.size + 2, 2, none⟩ = some (.slice Ea esa.length cea) := HH41.out.A.cell' rfl
        have ac3 : w41.cell? ⟨w.heap.size + 2, 3, none⟩ = some (.bool la) := HH41.out.A.cell' rfl
        have alt := HH41.out.A.lt
        have bc0 : w41.cell? ⟨w.heap.size + 3, 0, none⟩ = some (.int .i64 eb) := HH41.out.B.cell' rfl
        have bc1 : w41.cell? ⟨w.heap.size + 3, 1, none⟩ = some (.slice Ab vb.length cb) := HH41.out.B.cell' rfl
        have bc2 : w41.cell? ⟨w.heap.size + 3, 2, none⟩ = some (.slice Eb esb.length ceb) := HH41.out.B.cell' rfl
        have bc3 : w41.cell? ⟨w.heap.size + 3, 3, none⟩ = some (.bool lb) := HH41.out.B.cell' rfl
        have blt := HH41.out.B.lt
        go_wp2_with fail
        go_loop [9] (fun i => ∃ j : Nat, j ≤ esa.length ∧ i = .int .i64 j ∧ ∀ e ∈ esa.take j, e.us.size ≤ 100) (fun i => esa.length - (RowKit.intOf i).toNat)
        case atStart => exact ⟨0, Nat.zero_le _, rfl, by simp⟩
        case round =>
          obtain ⟨j, hj, rfl, ha⟩ := hrel
          have HLa := Lib.hid ha
          clear ha
          by_cases hlt : j < esa.length
          · have e1 : decide ((j : Int) < (esa.length : Int)) = true := by simp; omega
            obtain ⟨b, off, rfl, _, hb, c0⟩ := Seq.ev HH41.out.ia.es hlt
            obtain ⟨c0, _⟩ := c0
            have HTK := Lib.hid (List.take_succ_eq_append_getElem hlt)
            have hzz := (HH41.out.ia.ev _ (List.getElem_mem hlt)).1
            unfold maxLen at hzz
            generalize esa[j] = u at *
            try simp only at c0
            by_cases hu : u.us.size ≤ 100
            · have e2 : decide ((100 : Int) < (u.us.size : Int)) = false := by simp; omega
              go_wp2_with fail
              go_round
              case rel => exact ⟨j + 1, by omega, by go_num, by rw [HTK.out]; intro e he; rcases List.mem_append.1 he with h | h; exact HLa.out e h; obtain rfl := List.mem_singleton.1 h; exact hu⟩
              case measure => simp [RowKit.intOf]; omega
            · have e2 : decide ((100 : Int) < (u.us.size : Int)) = true := by simp; omega
              go_wp2_with fail
              go_ret
              exact ⟨rfl, HH41.out.below⟩
          · have e1 : decide ((j : Int) < (esa.length : Int)) = false := by simp; omega
            rw [List.take_of_length_le (by omega)] at HLa
            go_wp2_with fail
            go_loop [10] (fun i => ∃ j : Nat, j ≤ esb.length ∧ i = .int .i64 j ∧ ∀ e ∈ esb.take j, e.us.size ≤ 100) (fun i => esb.length - (RowKit.intOf i).toNat)
            case atStart => exact ⟨0, Nat.zero_le _, rfl, by simp⟩
            case round =>
              obtain ⟨j, hj, rfl, ha⟩ := hrel
              have HLb := Lib.hid ha
              clear ha
              by_cases hlt : j < esb.length
              · have e1 : decide ((j : Int) < (esb.length : Int)) = true := by simp; omega
                obtain ⟨b, off, rfl, _, hb, c0⟩ := Seq.ev HH41.out.ib.es hlt
                obtain ⟨c0, _⟩ := c0
                have HTK := Lib.hid (List.take_succ_eq_append_getElem hlt)
                have hzz := (HH41.out.ib.ev _ (List.getElem_mem hlt)).1
                unfold maxLen at hzz
                generalize esb[j] = u at *
                try simp only at c0
                by_cases hu : u.us.size ≤ 100
                · have e2 : decide ((100 : Int) < (u.us.size : Int)) = false := by simp; omega
                  go_wp2_with fail
                  go_round
                  case rel => exact ⟨j + 1, by omega, by go_num, by rw [HTK.out]; intro e he; rcases List.mem_append.1 he with h | h; exact HLb.out e h; obtain rfl := List.mem_singleton.1 h; exact hu⟩
                  case measure => simp [RowKit.intOf]; omega
                · have e2 : decide ((100 : Int) < (u.us.size : Int)) = true := by simp; omega
                  go_wp2_with fail
                  go_ret
                  exact ⟨rfl, HH41.out.below⟩
              · have e1 : decide ((j : Int) < (esb.length : Int)) = false := by simp; omega
                rw [List.take_of_length_le (by omega)] at HLb
                have HI50 : Hid (RepW.In ⟨ea, Aa, ca, va, Ea, cea, esa, la⟩ w41) := Lib.hid ⟨HH41.out.ia.vs, HH41.out.ia.es, HH41.out.ia.pv, fun p hp => ⟨HLa.out p hp, (HH41.out.ia.ev p hp).2⟩, HH41.out.ia.err, by show va.length ≤ 400; omega, by show esa.length ≤ 400; omega⟩
                have HJ50 : Hid (RepW.In ⟨eb, Ab, cb, vb, Eb, ceb, esb, lb⟩ w41) := Lib.hid ⟨HH41.out.ib.vs, HH41.out.ib.es, HH41.out.ib.pv, fun p hp => ⟨HLb.out p hp, (HH41.out.ib.ev p hp).2⟩, HH41.out.ib.err, by show vb.length ≤ 400; omega, by show esb.length ≤ 400; omega⟩
                have pa : ∀ e ∈ esa, 0 ≤ e.sq := fun e he => (HH41.out.ia.ev e he).2.2.2.2.2.2.2.1
                have pb : ∀ e ∈ esb, 0 ≤ e.sq := fun e he => (HH41.out.ib.ev e he).2.2.2.2.2.2.2.1
                obtain ⟨sA, hsA⟩ : ∃ s, joinB (toldB ⟨ea, Aa, ca, va, Ea, cea, esa, la⟩) = s := ⟨_, rfl⟩
                obtain ⟨sB, hsB⟩ : ∃ s, joinB (toldB ⟨eb, Ab, cb, vb, Eb, ceb, esb, lb⟩) = s := ⟨_, rfl⟩
                obtain ⟨t2, ht2⟩ : ∃ t, decide (ea = eb ∧ la = lb ∧ va = vb ∧ esa = esb) = t := ⟨_, rfl⟩
                have hst2 : (sA.toList == sB.toList) = t2 := by rw [str_dec, ← hsA, ← hsB, ← ht2]; exact decide_eq_decide.2 (told_same ⟨ea, Aa, ca, va, Ea, cea, esa, la⟩ ⟨eb, Ab, cb, vb, Eb, ceb, esb, lb⟩ pa pb)
                have HRa : Hid (∀ W, RepW.In ⟨ea, Aa, ca, va, Ea, cea, esa, la⟩ W → Tabs W → Calls Tryd.prog 9 #[.agg #[.int .i64 ea, .slice Aa va.length ca, .slice Ea esa.length cea, .bool la]] W fun e w' => e = .returned (.string sA) ∧ Below W.heap.size W w') := Lib.hid (fun W h hT => by rw [← hsA]; exact reply ⟨ea, Aa, ca, va, Ea, cea, esa, la⟩ W h hT)
                have HRb : Hid (∀ W, RepW.In ⟨eb, Ab, cb, vb, Eb, ceb, esb, lb⟩ W → Tabs W → Calls Tryd.prog 9 #[.agg #[.int .i64 eb, .slice Ab vb.length cb, .slice Eb esb.length ceb, .bool lb]] W fun e w' => e = .returned (.string sB) ∧ Below W.heap.size W w') := Lib.hid (fun W h hT => by rw [← hsB]; exact reply ⟨eb, Ab, cb, vb, Eb, ceb, esb, lb⟩ W h hT)
                have HQ : Hid (∀ W, RepW.In ⟨ea, Aa, ca, va, Ea, cea, esa, la⟩ W → RepW.In ⟨eb, Ab, cb, vb, Eb, ceb, esb, lb⟩ W → Calls Tryd.prog 10 #[.agg #[.int .i64 ea, .slice Aa va.length ca, .slice Ea esa.length cea, .bool la], .agg #[.int .i64 eb, .slice Ab vb.length cb, .slice Eb esb.length ceb, .bool lb]] W fun e w' => e = .returned (.bool t2) ∧ Below W.heap.size W w') := Lib.hid (fun W h h' => same10 ⟨ea, Aa, ca, va, Ea, cea, esa, la⟩ ⟨eb, Ab, cb, vb, Eb, ceb, esb, lb⟩ W h h' ht2)
                have htt2 : (t2 == t2) = true := by cases t2 <;> rfl
                clear hsA hsB ht2 pa pb
                go_wp2_with fail
                have bx := Law.below_drewN (Below.refl w41.heap.size w41) 1
                have HH51 : Hid (All w.heap.size ⟨kx, ux, idx, sx, px, tx, Ax, cx, usx⟩ ⟨ky, uy, idy, sy, py, ty, Ay, cy, usy⟩ ⟨ea, Aa, ca, va, Ea, cea, esa, la⟩ ⟨eb, Ab, cb, vb, Eb, ceb, esb, lb⟩ w w41.drew) := Lib.hid (HH41.out.now bx)
                have HI51 : Hid (RepW.In ⟨ea, Aa, ca, va, Ea, cea, esa, la⟩ w41.drew) := Lib.hid (HI50.out.below bx)
                have HJ51 : Hid (RepW.In ⟨eb, Ab, cb, vb, Eb, ceb, esb, lb⟩ w41.drew) := Lib.hid (HJ50.out.below bx)
                clear bx
                refine wp_region_held_drew (S := fun w' => w'.cell? ⟨w.heap.size + 2, 0, none⟩ = some (.int .i64 ea) ∧ w'.cell? ⟨w.heap.size + 2, 1, none⟩ = some (.slice Aa va.length ca) ∧ w'.cell? ⟨w.heap.size + 2, 2, none⟩ = some (.slice Ea esa.length cea) ∧ w'.cell? ⟨w.heap.size + 2, 3, none⟩ = some (.bool la) ∧ w'.cell? ⟨w.heap.size + 3, 0, none⟩ = some (.int .i64 eb) ∧ w'.cell? ⟨w.heap.size + 3, 1, none⟩ = some (.slice Ab vb.length cb) ∧ w'.cell? ⟨w.heap.size + 3, 2, none⟩ = some (.slice Eb esb.length ceb) ∧ w'.cell? ⟨w.heap.size + 3, 3, none⟩ = some (.bool lb)) (by kernel_rfl) ⟨HH41.out.A.cell' rfl, HH41.out.A.cell' rfl, HH41.out.A.cell' rfl, HH41.out.A.cell' rfl, HH41.out.B.cell' rfl, HH41.out.B.cell' rfl, HH41.out.B.cell' rfl, HH41.out.B.cell' rfl⟩ (fun hS0 => ?_)
                refine Go.Law.tk 0 ⟨some 97, .load 30 (.tmp 6), _, _, _, _⟩ (v := .agg #[.int .i64 ea, .slice Aa va.length ca, .slice Ea esa.length cea, .bool la]) hS0 ?_ ?_
                · intro w' hSw
                  obtain ⟨s0, s1, s2, s3, s4, s5, s6, s7⟩ := hSw
                  go_simp
                try simp only [Go.Law.pz]
                refine Go.Law.tk 2 ⟨some 99, .load 30 (.tmp 7), _, _, _, _⟩ (v := .agg #[.int .i64 eb, .slice Ab vb.length cb, .slice Eb esb.length ceb, .bool lb]) hS0 ?_ ?_
                · intro w' hSw
                  obtain ⟨s0, s1, s2, s3, s4, s5, s6, s7⟩ := hSw
                  go_simp
                try simp only [Go.Law.pz]
                refine Go.Law.tk 5 ⟨some 102, .load 30 (.tmp 6), _, _, _, _⟩ (v := .agg #[.int .i64 ea, .slice Aa va.length ca, .slice Ea esa.length cea, .bool la]) hS0 ?_ ?_
                · intro w' hSw
                  obtain ⟨s0, s1, s2, s3, s4, s5, s6, s7⟩ := hSw
                  go_simp
                try simp only [Go.Law.pz]
                refine Go.Law.tk 6 ⟨some 103, .load 30 (.tmp 7), _, _, _, _⟩ (v := .agg #[.int .i64 eb, .slice Ab vb.length cb, .slice Eb esb.length ceb, .bool lb]) hS0 ?_ ?_
                · intro w' hSw
                  obtain ⟨s0, s1, s2, s3, s4, s5, s6, s7⟩ := hSw
                  go_simp
                try simp only [Go.Law.pz]
                refine wpAnyH_ready (rs := [1]) (by kernel_rfl) (by simp) ?_
                refine AllReadyH.cons (o := ⟨some 98, .call { callee := .value (.func 9), args := #[.tmp 97], argTypes := _ }, _, _, _, _⟩) rfl (fun K hK => ?_) AllReadyH.nil
                go_simp
                refine Calls.mono (HRa.out w41.drew HI51.out HH51.out.tabs) ?_
                rintro e w52 ⟨rfl, bx⟩
                have HH52 := Lib.hid (HH51.out.now bx)
                have HI52 := Lib.hid (HI51.out.below bx)
                have HJ52 := Lib.hid (HJ51.out.below bx)
                clear bx
                go_wp2_with fail
                refine hK.out _ _ ⟨HH52.out.A.cell' rfl, HH52.out.A.cell' rfl, HH52.out.A.cell' rfl, HH52.out.A.cell' rfl, HH52.out.B.cell' rfl, HH52.out.B.cell' rfl, HH52.out.B.cell' rfl, HH52.out.B.cell' rfl⟩ (fun hS1 => ?_)
                clear hK K
                try simp only [Go.Law.pz]
                refine wpAnyH_ready (rs := [3]) (by kernel_rfl) (by simp) ?_
                refine AllReadyH.cons (o := ⟨some 100, .call { callee := .value (.func 9), args := #[.tmp 99], argTypes := _ }, _, _, _, _⟩) rfl (fun K hK => ?_) AllReadyH.nil
                go_simp
                refine Calls.mono (HRb.out w52 HJ52.out HH52.out.tabs) ?_
                rintro e w53 ⟨rfl, bx⟩
                have HH53 := Lib.hid (HH52.out.now bx)
                have HI53 := Lib.hid (HI52.out.below bx)
                have HJ53 := Lib.hid (HJ52.out.below bx)
                clear bx
                go_wp2_with fail
                refine hK.out _ _ ⟨HH53.out.A.cell' rfl, HH53.out.A.cell' rfl, HH53.out.A.cell' rfl, HH53.out.A.cell' rfl, HH53.out.B.cell' rfl, HH53.out.B.cell' rfl, HH53.out.B.cell' rfl, HH53.out.B.cell' rfl⟩ (fun hS2 => ?_)
                clear hK K
                try simp only [Go.Law.pz]
                refine Go.Law.tk 4 ⟨some 101, .binOp .eql 9 (.tmp 98) (.tmp 100) 9, _, _, _, _⟩ (v := .bool t2) hS2 ?_ ?_
                · intro w' hSw
                  go_simp
                try simp only [Go.Law.pz]
                refine wpAnyH_ready (rs := [7]) (by kernel_rfl) (by simp) ?_
                refine AllReadyH.cons (o := ⟨some 104, .call { callee := .value (.func 10), args := #[.tmp 102, .tmp 103], argTypes := _ }, _, _, _, _⟩) rfl (fun K hK => ?_) AllReadyH.nil
                go_simp
                refine Calls.mono (HQ.out w53 HI53.out HJ53.out) ?_
                rintro e w54 ⟨rfl, bx⟩
                have HH54 := Lib.hid (HH53.out.now bx)
                have HI54 := Lib.hid (HI53.out.below bx)
                have HJ54 := Lib.hid (HJ53.out.below bx)
                clear bx
                go_wp2_with fail
                refine hK.out _ _ ⟨HH54.out.A.cell' rfl, HH54.out.A.cell' rfl, HH54.out.A.cell' rfl, HH54.out.A.cell' rfl, HH54.out.B.cell' rfl, HH54.out.B.cell' rfl, HH54.out.B.cell' rfl, HH54.out.B.cell' rfl⟩ (fun hS3 => ?_)
                clear hK K
                try simp only [Go.Law.pz]
                refine Go.Law.tk 8 ⟨some 105, .binOp .eql _ (.tmp 101) (.tmp 104) _, _, _, _, _⟩ (v := .bool true) hS3 ?_ ?_
                · intro w' hSw
                  go_simp
                try simp only [Go.Law.pz]
                refine Go.Law.tk 9 ⟨some 8, .assign (.tmp 105), _, _, _, _⟩ (v := .bool true) hS3 ?_ ?_
                · intro w' hSw
                  go_simp
                try simp only [Go.Law.pz]
                refine wpAnyH_done (by kernel_rfl) ?_ _
                go_wp2_with fail
                go_ret
                exact ⟨rfl, HH54.out.below⟩
      | true =>
        have HBx : Hid (∀ W, OpW.In ⟨kx, ux, idx, sx, px, tx, Ax, cx, usx⟩ W → Calls Tryd.prog 6 #[.agg #[.int .i64 kx, .string ux, .int .i64 idx, .int .i64 sx, .int .i64 px, .int .u64 tx, .slice Ax usx.length cx]] W fun e w' => e = .returned (.bool false) ∧ Below W.heap.size W w') := Lib.hid (fun W h => rbad ⟨kx, ux, idx, sx, px, tx, Ax, cx, usx⟩ h lux (by rw [hgx]; rfl))
        cases hgy : goodB ⟨ky, uy, idy, sy, py, ty, Ay, cy, usy⟩ with
        | false =>
          have HBy : Hid (∀ W, OpW.In ⟨ky, uy, idy, sy, py, ty, Ay, cy, usy⟩ W → Calls Tryd.prog 6 #[.agg #[.int .i64 ky, .string uy, .int .i64 idy, .int .i64 sy, .int .i64 py, .int .u64 ty, .slice Ay usy.length cy]] W fun e w' => e = .returned (.bool true) ∧ Below W.heap.size W w') := Lib.hid (fun W h => rbad ⟨ky, uy, idy, sy, py, ty, Ay, cy, usy⟩ h luy (by rw [hgy]; rfl))
          go_wp2_with fail
          have HH40 := Lib.hid (HH4.out.drew 1)
          refine wp_region_held_drew (S := fun w' => w'.cell? ⟨w.heap.size, 0, none⟩ = some (.int .i64 kx) ∧ w'.cell? ⟨w.heap.size, 1, none⟩ = some (.string ux) ∧ w'.cell? ⟨w.heap.size, 2, none⟩ = some (.int .i64 idx) ∧ w'.cell? ⟨w.heap.size, 3, none⟩ = some (.int .i64 sx) ∧ w'.cell? ⟨w.heap.size, 4, none⟩ = some (.int .i64 px) ∧ w'.cell? ⟨w.heap.size, 5, none⟩ = some (.int .u64 tx) ∧ w'.cell? ⟨w.heap.size, 6, none⟩ = some (.slice Ax usx.length cx) ∧ w'.cell? ⟨w.heap.size + 1, 0, none⟩ = some (.int .i64 ky) ∧ w'.cell? ⟨w.heap.size + 1, 1, none⟩ = some (.string uy) ∧ w'.cell? ⟨w.heap.size + 1, 2, none⟩ = some (.int .i64 idy) ∧ w'.cell? ⟨w.heap.size + 1, 3, none⟩ = some (.int .i64 sy) ∧ w'.cell? ⟨w.heap.size + 1, 4, none⟩ = some (.int .i64 py) ∧ w'.cell? ⟨w.heap.size + 1, 5, none⟩ = some (.int .u64 ty) ∧ w'.cell? ⟨w.heap.size + 1, 6, none⟩ = some (.slice Ay usy.length cy)) (by kernel_rfl) ⟨HH4.out.X.cell' rfl, HH4.out.X.cell' rfl, HH4.out.X.cell' rfl, HH4.out.X.cell' rfl, HH4.out.X.cell' rfl, HH4.out.X.cell' rfl, HH4.out.X.cell' rfl, HH4.out.Y.cell' rfl, HH4.out.Y.cell' rfl, HH4.out.Y.cell' rfl, HH4.out.Y.cell' rfl, HH4.out.Y.cell' rfl, HH4.out.Y.cell' rfl, HH4.out.Y.cell' rfl⟩ (fun hS0 => ?_)
          refine Go.Law.tk 0 ⟨some 48, .load 25 (.tmp 4), _, _, _, _⟩ (v := .agg #[.int .i64 kx, .string ux, .int .i64 idx, .int .i64 sx, .int .i64 px, .int .u64 tx, .slice Ax usx.length cx]) hS0 ?_ ?_
          · intro w' hSw
            obtain ⟨s0, s1, s2, s3, s4, s5, s6, s7, s8, s9, s10, s11, s12, s13⟩ := hSw
            go_simp
          try simp only [Go.Law.pz]
          refine wpAnyH_ready (rs := [1]) (by kernel_rfl) (by simp) ?_
          refine AllReadyH.cons (o := ⟨some 49, .call { callee := .value (.func 6), args := #[.tmp 48], argTypes := _ }, _, _, _, _⟩) rfl (fun K hK => ?_) AllReadyH.nil
          go_simp
          refine Calls.mono (HBx.out _ HH40.out.ix) ?_
          rintro e w41 ⟨rfl, bx⟩
          have HH41 := Lib.hid (HH40.out.now bx)
          clear bx
          go_wp2_with fail
          refine hK.out _ _ ⟨HH41.out.X.cell' rfl, HH41.out.X.cell' rfl, HH41.out.X.cell' rfl, HH41.out.X.cell' rfl, HH41.out.X.cell' rfl, HH41.out.X.cell' rfl, HH41.out.X.cell' rfl, HH41.out.Y.cell' rfl, HH41.out.Y.cell' rfl, HH41.out.Y.cell' rfl, HH41.out.Y.cell' rfl, HH41.out.Y.cell' rfl, HH41.out.Y.cell' rfl, HH41.out.Y.cell' rfl⟩ (fun hS1 => ?_)
          clear hK K
          try simp only [Go.Law.pz]
          refine Go.Law.tk 2 ⟨some 50, .unOp .not _ (.tmp 49), _, _, _, _⟩ (v := .bool true) hS1 ?_ ?_
          · intro w' hSw
            go_simp
          try simp only [Go.Law.pz]
          refine Go.Law.tk 3 ⟨some 51, .move (.tmp 50), _, _, _, _⟩ (v := .bool true) hS1 ?_ ?_
          · intro w' hSw
            go_simp
          try simp only [Go.Law.pz]
          refine Go.Law.tk 4 ⟨some 52, .load 25 (.tmp 5), _, _, _, _⟩ (v := .agg #[.int .i64 ky, .string uy, .int .i64 idy, .int .i64 sy, .int .i64 py, .int .u64 ty, .slice Ay usy.length cy]) hS1 ?_ ?_
          · intro w' hSw
            obtain ⟨s0, s1, s2, s3, s4, s5, s6, s7, s8, s9, s10, s11, s12, s13⟩ := hSw
            go_simp
          try simp only [Go.Law.pz]
          refine wpAnyH_ready (rs := [5]) (by kernel_rfl) (by simp) ?_
          refine AllReadyH.cons (o := ⟨some 53, .call { callee := .value (.func 6), args := #[.tmp 52], argTypes := _ }, _, _, _, _⟩) rfl (fun K hK => ?_) AllReadyH.nil
          go_simp
          refine Calls.mono (HBy.out _ HH41.out.iy) ?_
          rintro e w42 ⟨rfl, bx⟩
          have HH42 := Lib.hid (HH41.out.now bx)
          clear bx
          go_wp2_with fail
          refine hK.out _ _ ⟨HH42.out.X.cell' rfl, HH42.out.X.cell' rfl, HH42.out.X.cell' rfl, HH42.out.X.cell' rfl, HH42.out.X.cell' rfl, HH42.out.X.cell' rfl, HH42.out.X.cell' rfl, HH42.out.Y.cell' rfl, HH42.out.Y.cell' rfl, HH42.out.Y.cell' rfl, HH42.out.Y.cell' rfl, HH42.out.Y.cell' rfl, HH42.out.Y.cell' rfl, HH42.out.Y.cell' rfl⟩ (fun hS2 => ?_)
          clear hK K
          try simp only [Go.Law.pz]
          refine Go.Law.tk 6 ⟨some 54, .unOp .not _ (.tmp 53), _, _, _, _⟩ (v := .bool false) hS2 ?_ ?_
          · intro w' hSw
            go_simp
          try simp only [Go.Law.pz]
          refine Go.Law.tk 7 ⟨some 55, .pick (.tmp 51) (.tmp 54) (.const (.bool false)), _, _, _, _⟩ (v := .bool false) hS2 ?_ ?_
          · intro w' hSw
            go_simp
          try simp only [Go.Law.pz]
          refine Go.Law.tk 8 ⟨some 56, .move (.tmp 55), _, _, _, _⟩ (v := .bool false) hS2 ?_ ?_
          · intro w' hSw
            go_simp
          try simp only [Go.Law.pz]
          refine Go.Law.sk 9 ⟨some 57, .load 25 (.tmp 4), _, _, _, _⟩ hS2 ?_
          try simp only [Go.Law.pz]
          refine Go.Law.sk 10 ⟨some 58, .call { callee := .value (.func 7), args := #[.tmp 57], argTypes := _ }, _, _, _, _⟩ hS2 ?_
          try simp only [Go.Law.pz]
          refine Go.Law.sk 11 ⟨some 59, .load 25 (.tmp 5), _, _, _, _⟩ hS2 ?_
          try simp only [Go.Law.pz]
          refine Go.Law.sk 12 ⟨some 60, .call { callee := .value (.func 7), args := #[.tmp 59], argTypes := _ }, _, _, _, _⟩ hS2 ?_
          try simp only [Go.Law.pz]
          refine Go.Law.sk 13 ⟨some 61, .binOp .eql 9 (.tmp 58) (.tmp 60) 9, _, _, _, _⟩ hS2 ?_
          try simp only [Go.Law.pz]
          refine Go.Law.sk 14 ⟨some 62, .load 25 (.tmp 4), _, _, _, _⟩ hS2 ?_
          try simp only [Go.Law.pz]
          refine Go.Law.sk 15 ⟨some 63, .load 25 (.tmp 5), _, _, _, _⟩ hS2 ?_
          try simp only [Go.Law.pz]
          refine Go.Law.sk 16 ⟨some 64, .call { callee := .value (.func 8), args := #[.tmp 62, .tmp 63], argTypes := _ }, _, _, _, _⟩ hS2 ?_
          try simp only [Go.Law.pz]
          refine Go.Law.sk 17 ⟨some 65, .binOp .neq _ (.tmp 61) (.tmp 64) _, _, _, _, _⟩ hS2 ?_
          try simp only [Go.Law.pz]
          refine Go.Law.tk 18 ⟨some 66, .pick (.tmp 56) (.tmp 65) (.const (.bool false)), _, _, _, _⟩ (v := .bool false) hS2 ?_ ?_
          · intro w' hSw
            go_simp
          try simp only [Go.Law.pz]
          refine wpAnyH_done (by kernel_rfl) ?_ _
          clear xc0 xc1 xc2 xc3 xc4 xc5 xc6 xlt yc0 yc1 yc2 yc3 yc4 yc5 yc6 ylt ac0 ac1 ac2 ac3 alt bc0 bc1 bc2 bc3 blt
          have ac0 : w42.cell? ⟨w.heap.size + 2, 0, none⟩ = some (.int .i64 ea) := HH42.out.A.cell' rfl
          have ac1 : w42.cell? ⟨w.heap.size + 2, 1, none⟩ = some (.slice Aa va.length ca) := HH42.out.A.cell' rfl
          have ac2 : w42.cell? ⟨w.heap.size + 2, 2, none⟩ = some (.slice Ea esa.length cea) := HH42.out.A.cell' rfl
          have ac3 : w42.cell? ⟨w.heap.size + 2, 3, none⟩ = some (.bool la) := HH42.out.A.cell' rfl
          have alt := HH42.out.A.lt
          have bc0 : w42.cell? ⟨w.heap.size + 3, 0, none⟩ = some (.int .i64 eb) := HH42.out.B.cell' rfl
          have bc1 : w42.cell? ⟨w.heap.size + 3, 1, none⟩ = some (.slice Ab vb.length cb) := HH42.out.B.cell' rfl
          have bc2 : w42.cell? ⟨w.heap.size + 3, 2, none⟩ = some (.slice Eb esb.length ceb) := HH42.out.B.cell' rfl
          have bc3 : w42.cell? ⟨w.heap.size + 3, 3, none⟩ = some (.bool lb) := HH42.out.B.cell' rfl
          have blt := HH42.out.B.lt
          go_wp2_with fail
          go_loop [9] (fun i => ∃ j : Nat, j ≤ esa.length ∧ i = .int .i64 j ∧ ∀ e ∈ esa.take j, e.us.size ≤ 100) (fun i => esa.length - (RowKit.intOf i).toNat)
          case atStart => exact ⟨0, Nat.zero_le _, rfl, by simp⟩
          case round =>
            obtain ⟨j, hj, rfl, ha⟩ := hrel
            have HLa := Lib.hid ha
            clear ha
            by_cases hlt : j < esa.length
            · have e1 : decide ((j : Int) < (esa.length : Int)) = true := by simp; omega
              obtain ⟨b, off, rfl, _, hb, c0⟩ := Seq.ev HH42.out.ia.es hlt
              obtain ⟨c0, _⟩ := c0
              have HTK := Lib.hid (List.take_succ_eq_append_getElem hlt)
              have hzz := (HH42.out.ia.ev _ (List.getElem_mem hlt)).1
              unfold maxLen at hzz
              generalize esa[j] = u at *
              try simp only at c0
              by_cases hu : u.us.size ≤ 100
              · have e2 : decide ((100 : Int) < (u.us.size : Int)) = false := by simp; omega
                go_wp2_with fail
                go_round
                case rel => exact ⟨j + 1, by omega, by go_num, by rw [HTK.out]; intro e he; rcases List.mem_append.1 he with h | h; exact HLa.out e h; obtain rfl := List.mem_singleton.1 h; exact hu⟩
                case measure => simp [RowKit.intOf]; omega
              · have e2 : decide ((100 : Int) < (u.us.size : Int)) = true := by simp; omega
                go_wp2_with fail
                go_ret
                exact ⟨rfl, HH42.out.below⟩
            · have e1 : decide ((j : Int) < (esa.length : Int)) = false := by simp; omega
              rw [List.take_of_length_le (by omega)] at HLa
              go_wp2_with fail
              go_loop [10] (fun i => ∃ j : Nat, j ≤ esb.length ∧ i = .int .i64 j ∧ ∀ e ∈ esb.take j, e.us.size ≤ 100) (fun i => esb.length - (RowKit.intOf i).toNat)
              case atStart => exact ⟨0, Nat.zero_le _, rfl, by simp⟩
              case round =>
                obtain ⟨j, hj, rfl, ha⟩ := hrel
                have HLb := Lib.hid ha
                clear ha
                by_cases hlt : j < esb.length
                · have e1 : decide ((j : Int) < (esb.length : Int)) = true := by simp; omega
                  obtain ⟨b, off, rfl, _, hb, c0⟩ := Seq.ev HH42.out.ib.es hlt
                  obtain ⟨c0, _⟩ := c0
                  have HTK := Lib.hid (List.take_succ_eq_append_getElem hlt)
                  have hzz := (HH42.out.ib.ev _ (List.getElem_mem hlt)).1
                  unfold maxLen at hzz
                  generalize esb[j] = u at *
                  try simp only at c0
                  by_cases hu : u.us.size ≤ 100
                  · have e2 : decide ((100 : Int) < (u.us.size : Int)) = false := by simp; omega
                    go_wp2_with fail
                    go_round
                    case rel => exact ⟨j + 1, by omega, by go_num, by rw [HTK.out]; intro e he; rcases List.mem_append.1 he with h | h; exact HLb.out e h; obtain rfl := List.mem_singleton.1 h; exact hu⟩
                    case measure => simp [RowKit.intOf]; omega
                  · have e2 : decide ((100 : Int) < (u.us.size : Int)) = true := by simp; omega
                    go_wp2_with fail
                    go_ret
                    exact ⟨rfl, HH42.out.below⟩
                · have e1 : decide ((j : Int) < (esb.length : Int)) = false := by simp; omega
                  rw [List.take_of_length_le (by omega)] at HLb
                  have HI50 : Hid (RepW.In ⟨ea, Aa, ca, va, Ea, cea, esa, la⟩ w42) := Lib.hid ⟨HH42.out.ia.vs, HH42.out.ia.es, HH42.out.ia.pv, fun p hp => ⟨HLa.out p hp, (HH42.out.ia.ev p hp).2⟩, HH42.out.ia.err, by show va.length ≤ 400; omega, by show esa.length ≤ 400; omega⟩
                  have HJ50 : Hid (RepW.In ⟨eb, Ab, cb, vb, Eb, ceb, esb, lb⟩ w42) := Lib.hid ⟨HH42.out.ib.vs, HH42.out.ib.es, HH42.out.ib.pv, fun p hp => ⟨HLb.out p hp, (HH42.out.ib.ev p hp).2⟩, HH42.out.ib.err, by show vb.length ≤ 400; omega, by show esb.length ≤ 400; omega⟩
                  have pa : ∀ e ∈ esa, 0 ≤ e.sq := fun e he => (HH42.out.ia.ev e he).2.2.2.2.2.2.2.1
                  have pb : ∀ e ∈ esb, 0 ≤ e.sq := fun e he => (HH42.out.ib.ev e he).2.2.2.2.2.2.2.1
                  obtain ⟨sA, hsA⟩ : ∃ s, joinB (toldB ⟨ea, Aa, ca, va, Ea, cea, esa, la⟩) = s := ⟨_, rfl⟩
                  obtain ⟨sB, hsB⟩ : ∃ s, joinB (toldB ⟨eb, Ab, cb, vb, Eb, ceb, esb, lb⟩) = s := ⟨_, rfl⟩
                  obtain ⟨t2, ht2⟩ : ∃ t, decide (ea = eb ∧ la = lb ∧ va = vb ∧ esa = esb) = t := ⟨_, rfl⟩
                  have hst2 : (sA.toList == sB.toList) = t2 := by rw [str_dec, ← hsA, ← hsB, ← ht2]; exact decide_eq_decide.2 (told_same ⟨ea, Aa, ca, va, Ea, cea, esa, la⟩ ⟨eb, Ab, cb, vb, Eb, ceb, esb, lb⟩ pa pb)
                  have HRa : Hid (∀ W, RepW.In ⟨ea, Aa, ca, va, Ea, cea, esa, la⟩ W → Tabs W → Calls Tryd.prog 9 #[.agg #[.int .i64 ea, .slice Aa va.length ca, .slice Ea esa.length cea, .bool la]] W fun e w' => e = .returned (.string sA) ∧ Below W.heap.size W w') := Lib.hid (fun W h hT => by rw [← hsA]; exact reply ⟨ea, Aa, ca, va, Ea, cea, esa, la⟩ W h hT)
                  have HRb : Hid (∀ W, RepW.In ⟨eb, Ab, cb, vb, Eb, ceb, esb, lb⟩ W → Tabs W → Calls Tryd.prog 9 #[.agg #[.int .i64 eb, .slice Ab vb.length cb, .slice Eb esb.length ceb, .bool lb]] W fun e w' => e = .returned (.string sB) ∧ Below W.heap.size W w') := Lib.hid (fun W h hT => by rw [← hsB]; exact reply ⟨eb, Ab, cb, vb, Eb, ceb, esb, lb⟩ W h hT)
                  have HQ : Hid (∀ W, RepW.In ⟨ea, Aa, ca, va, Ea, cea, esa, la⟩ W → RepW.In ⟨eb, Ab, cb, vb, Eb, ceb, esb, lb⟩ W → Calls Tryd.prog 10 #[.agg #[.int .i64 ea, .slice Aa va.length ca, .slice Ea esa.length cea, .bool la], .agg #[.int .i64 eb, .slice Ab vb.length cb, .slice Eb esb.length ceb, .bool lb]] W fun e w' => e = .returned (.bool t2) ∧ Below W.heap.size W w') := Lib.hid (fun W h h' => same10 ⟨ea, Aa, ca, va, Ea, cea, esa, la⟩ ⟨eb, Ab, cb, vb, Eb, ceb, esb, lb⟩ W h h' ht2)
                  have htt2 : (t2 == t2) = true := by cases t2 <;> rfl
                  clear hsA hsB ht2 pa pb
                  go_wp2_with fail
                  have bx := Law.below_drewN (Below.refl w42.heap.size w42) 1
                  have HH51 : Hid (All w.heap.size ⟨kx, ux, idx, sx, px, tx, Ax, cx, usx⟩ ⟨ky, uy, idy, sy, py, ty, Ay, cy, usy⟩ ⟨ea, Aa, ca, va, Ea, cea, esa, la⟩ ⟨eb, Ab, cb, vb, Eb, ceb, esb, lb⟩ w w42.drew) := Lib.hid (HH42.out.now bx)
                  have HI51 : Hid (RepW.In ⟨ea, Aa, ca, va, Ea, cea, esa, la⟩ w42.drew) := Lib.hid (HI50.out.below bx)
                  have HJ51 : Hid (RepW.In ⟨eb, Ab, cb, vb, Eb, ceb, esb, lb⟩ w42.drew) := Lib.hid (HJ50.out.below bx)
                  clear bx
                  refine wp_region_held_drew (S := fun w' => w'.cell? ⟨w.heap.size + 2, 0, none⟩ = some (.int .i64 ea) ∧ w'.cell? ⟨w.heap.size + 2, 1, none⟩ = some (.slice Aa va.length ca) ∧ w'.cell? ⟨w.heap.size + 2, 2, none⟩ = some (.slice Ea esa.length cea) ∧ w'.cell? ⟨w.heap.size + 2, 3, none⟩ = some (.bool la) ∧ w'.cell? ⟨w.heap.size + 3, 0, none⟩ = some (.int .i64 eb) ∧ w'.cell? ⟨w.heap.size + 3, 1, none⟩ = some (.slice Ab vb.length cb) ∧ w'.cell? ⟨w.heap.size + 3, 2, none⟩ = some (.slice Eb esb.length ceb) ∧ w'.cell? ⟨w.heap.size + 3, 3, none⟩ = some (.bool lb)) (by kernel_rfl) ⟨HH42.out.A.cell' rfl, HH42.out.A.cell' rfl, HH42.out.A.cell' rfl, HH42.out.A.cell' rfl, HH42.out.B.cell' rfl, HH42.out.B.cell' rfl, HH42.out.B.cell' rfl, HH42.out.B.cell' rfl⟩ (fun hS0 => ?_)
                  refine Go.Law.tk 0 ⟨some 97, .load 30 (.tmp 6), _, _, _, _⟩ (v := .agg #[.int .i64 ea, .slice Aa va.length ca, .slice Ea esa.length cea, .bool la]) hS0 ?_ ?_
                  · intro w' hSw
                    obtain ⟨s0, s1, s2, s3, s4, s5, s6, s7⟩ := hSw
                    go_simp
                  try simp only [Go.Law.pz]
                  refine Go.Law.tk 2 ⟨some 99, .load 30 (.tmp 7), _, _, _, _⟩ (v := .agg #[.int .i64 eb, .slice Ab vb.length cb, .slice Eb esb.length ceb, .bool lb]) hS0 ?_ ?_
                  · intro w' hSw
                    obtain ⟨s0, s1, s2, s3, s4, s5, s6, s7⟩ := hSw
                    go_simp
                  try simp only [Go.Law.pz]
                  refine Go.Law.tk 5 ⟨some 102, .load 30 (.tmp 6), _, _, _, _⟩ (v := .agg #[.int .i64 ea, .slice Aa va.length ca, .slice Ea esa.length cea, .bool la]) hS0 ?_ ?_
                  · intro w' hSw
                    obtain ⟨s0, s1, s2, s3, s4, s5, s6, s7⟩ := hSw
                    go_simp
                  try simp only [Go.Law.pz]
                  refine Go.Law.tk 6 ⟨some 103, .load 30 (.tmp 7), _, _, _, _⟩ (v := .agg #[.int .i64 eb, .slice Ab vb.length cb, .slice Eb esb.length ceb, .bool lb]) hS0 ?_ ?_
                  · intro w' hSw
                    obtain ⟨s0, s1, s2, s3, s4, s5, s6, s7⟩ := hSw
                    go_simp
                  try simp only [Go.Law.pz]
                  refine wpAnyH_ready (rs := [1]) (by kernel_rfl) (by simp) ?_
                  refine AllReadyH.cons (o := ⟨some 98, .call { callee := .value (.func 9), args := #[.tmp 97], argTypes := _ }, _, _, _, _⟩) rfl (fun K hK => ?_) AllReadyH.nil
                  go_simp
                  refine Calls.mono (HRa.out w42.drew HI51.out HH51.out.tabs) ?_
                  rintro e w52 ⟨rfl, bx⟩
                  have HH52 := Lib.hid (HH51.out.now bx)
                  have HI52 := Lib.hid (HI51.out.below bx)
                  have HJ52 := Lib.hid (HJ51.out.below bx)
                  clear bx
                  go_wp2_with fail
                  refine hK.out _ _ ⟨HH52.out.A.cell' rfl, HH52.out.A.cell' rfl, HH52.out.A.cell' rfl, HH52.out.A.cell' rfl, HH52.out.B.cell' rfl, HH52.out.B.cell' rfl, HH52.out.B.cell' rfl, HH52.out.B.cell' rfl⟩ (fun hS1 => ?_)
                  clear hK K
                  try simp only [Go.Law.pz]
                  refine wpAnyH_ready (rs := [3]) (by kernel_rfl) (by simp) ?_
                  refine AllReadyH.cons (o := ⟨some 100, .call { callee := .value (.func 9), args := #[.tmp 99], argTypes := _ }, _, _, _, _⟩) rfl (fun K hK => ?_) AllReadyH.nil
                  go_simp
                  refine Calls.mono (HRb.out w52 HJ52.out HH52.out.tabs) ?_
                  rintro e w53 ⟨rfl, bx⟩
                  have HH53 := Lib.hid (HH52.out.now bx)
                  have HI53 := Lib.hid (HI52.out.below bx)
                  have HJ53 := Lib.hid (HJ52.out.below bx)
                  clear bx
                  go_wp2_with fail
                  refine hK.out _ _ ⟨HH53.out.A.cell' rfl, HH53.out.A.cell' rfl, HH53.out.A.cell' rfl, HH53.out.A.cell' rfl, HH53.out.B.cell' rfl, HH53.out.B.cell' rfl, HH53.out.B.cell' rfl, HH53.out.B.cell' rfl⟩ (fun hS2 => ?_)
                  clear hK K
                  try simp only [Go.Law.pz]
                  refine Go.Law.tk 4 ⟨some 101, .binOp .eql 9 (.tmp 98) (.tmp 100) 9, _, _, _, _⟩ (v := .bool t2) hS2 ?_ ?_
                  · intro w' hSw
                    go_simp
                  try simp only [Go.Law.pz]
                  refine wpAnyH_ready (rs := [7]) (by kernel_rfl) (by simp) ?_
                  refine AllReadyH.cons (o := ⟨some 104, .call { callee := .value (.func 10), args := #[.tmp 102, .tmp 103], argTypes := _ }, _, _, _, _⟩) rfl (fun K hK => ?_) AllReadyH.nil
                  go_simp
                  refine Calls.mono (HQ.out w53 HI53.out HJ53.out) ?_
                  rintro e w54 ⟨rfl, bx⟩
                  have HH54 := Lib.hid (HH53.out.now bx)
                  have HI54 := Lib.hid (HI53.out.below bx)
                  have HJ54 := Lib.hid (HJ53.out.below bx)
                  clear bx
                  go_wp2_with fail
                  refine hK.out _ _ ⟨HH54.out.A.cell' rfl, HH54.out.A.cell' rfl, HH54.out.A.cell' rfl, HH54.out.A.cell' rfl, HH54.out.B.cell' rfl, HH54.out.B.cell' rfl, HH54.out.B.cell' rfl, HH54.out.B.cell' rfl⟩ (fun hS3 => ?_)
                  clear hK K
                  try simp only [Go.Law.pz]
                  refine Go.Law.tk 8 ⟨some 105, .binOp .eql _ (.tmp 101) (.tmp 104) _, _, _, _, _⟩ (v := .bool true) hS3 ?_ ?_
                  · intro w' hSw
                    go_simp
                  try simp only [Go.Law.pz]
                  refine Go.Law.tk 9 ⟨some 8, .assign (.tmp 105), _, _, _, _⟩ (v := .bool true) hS3 ?_ ?_
                  · intro w' hSw
                    go_simp
                  try simp only [Go.Law.pz]
                  refine wpAnyH_done (by kernel_rfl) ?_ _
                  go_wp2_with fail
                  go_ret
                  exact ⟨rfl, HH54.out.below⟩
        | true =>
          have HBy : Hid (∀ W, OpW.In ⟨ky, uy, idy, sy, py, ty, Ay, cy, usy⟩ W → Calls Tryd.prog 6 #[.agg #[.int .i64 ky, .string uy, .int .i64 idy, .int .i64 sy, .int .i64 py, .int .u64 ty, .slice Ay usy.length cy]] W fun e w' => e = .returned (.bool false) ∧ Below W.heap.size W w') := Lib.hid (fun W h => rbad ⟨ky, uy, idy, sy, py, ty, Ay, cy, usy⟩ h luy (by rw [hgy]; rfl))
          obtain ⟨sX, hsX⟩ : ∃ s, lineB ⟨kx, ux, idx, sx, px, tx, Ax, cx, usx⟩ = s := ⟨_, rfl⟩
          obtain ⟨sY, hsY⟩ : ∃ s, lineB ⟨ky, uy, idy, sy, py, ty, Ay, cy, usy⟩ = s := ⟨_, rfl⟩
          obtain ⟨t, ht⟩ : ∃ t, sameB ⟨kx, ux, idx, sx, px, tx, Ax, cx, usx⟩ ⟨ky, uy, idy, sy, py, ty, Ay, cy, usy⟩ = t := ⟨_, rfl⟩
          have hst : (sX.toList == sY.toList) = t := by rw [str_dec, ← hsX, ← hsY, line_same _ _ (good_kind hgx) (good_kind hgy) HH4.out.ix.ttl.1 HH4.out.iy.ttl.1, ht]
          have HLx : Hid (∀ W, OpW.In ⟨kx, ux, idx, sx, px, tx, Ax, cx, usx⟩ W → Tabs W → Calls Tryd.prog 7 #[.agg #[.int .i64 kx, .string ux, .int .i64 idx, .int .i64 sx, .int .i64 px, .int .u64 tx, .slice Ax usx.length cx]] W fun e w' => e = .returned (.string sX) ∧ Below W.heap.size W w') := Lib.hid (fun W h hT => by rw [← hsX]; exact line ⟨kx, ux, idx, sx, px, tx, Ax, cx, usx⟩ hsx W h hT)
          have HLy : Hid (∀ W, OpW.In ⟨ky, uy, idy, sy, py, ty, Ay, cy, usy⟩ W → Tabs W → Calls Tryd.prog 7 #[.agg #[.int .i64 ky, .string uy, .int .i64 idy, .int .i64 sy, .int .i64 py, .int .u64 ty, .slice Ay usy.length cy]] W fun e w' => e = .returned (.string sY) ∧ Below W.heap.size W w') := Lib.hid (fun W h hT => by rw [← hsY]; exact line ⟨ky, uy, idy, sy, py, ty, Ay, cy, usy⟩ hsy W h hT)
          have HSM : Hid (∀ W, OpW.In ⟨kx, ux, idx, sx, px, tx, Ax, cx, usx⟩ W → OpW.In ⟨ky, uy, idy, sy, py, ty, Ay, cy, usy⟩ W → Calls Tryd.prog 8 #[.agg #[.int .i64 kx, .string ux, .int .i64 idx, .int .i64 sx, .int .i64 px, .int .u64 tx, .slice Ax usx.length cx], .agg #[.int .i64 ky, .string uy, .int .i64 idy, .int .i64 sy, .int .i64 py, .int .u64 ty, .slice Ay usy.length cy]] W fun e w' => e = .returned (.bool t) ∧ Below W.heap.size W w') := Lib.hid (fun W h h' => lawSame ⟨kx, ux, idx, sx, px, tx, Ax, cx, usx⟩ ⟨ky, uy, idy, sy, py, ty, Ay, cy, usy⟩ h h' lux luy (good_kind hgx) ht)
          have htt : (t != t) = false := by cases t <;> rfl
          clear hsX hsY ht
          go_wp2_with fail
          have HH40 := Lib.hid (HH4.out.drew 1)
          refine wp_region_held_drew (S := fun w' => w'.cell? ⟨w.heap.size, 0, none⟩ = some (.int .i64 kx) ∧ w'.cell? ⟨w.heap.size, 1, none⟩ = some (.string ux) ∧ w'.cell? ⟨w.heap.size, 2, none⟩ = some (.int .i64 idx) ∧ w'.cell? ⟨w.heap.size, 3, none⟩ = some (.int .i64 sx) ∧ w'.cell? ⟨w.heap.size, 4, none⟩ = some (.int .i64 px) ∧ w'.cell? ⟨w.heap.size, 5, none⟩ = some (.int .u64 tx) ∧ w'.cell? ⟨w.heap.size, 6, none⟩ = some (.slice Ax usx.length cx) ∧ w'.cell? ⟨w.heap.size + 1, 0, none⟩ = some (.int .i64 ky) ∧ w'.cell? ⟨w.heap.size + 1, 1, none⟩ = some (.string uy) ∧ w'.cell? ⟨w.heap.size + 1, 2, none⟩ = some (.int .i64 idy) ∧ w'.cell? ⟨w.heap.size + 1, 3, none⟩ = some (.int .i64 sy) ∧ w'.cell? ⟨w.heap.size + 1, 4, none⟩ = some (.int .i64 py) ∧ w'.cell? ⟨w.heap.size + 1, 5, none⟩ = some (.int .u64 ty) ∧ w'.cell? ⟨w.heap.size + 1, 6, none⟩ = some (.slice Ay usy.length cy)) (by kernel_rfl) ⟨HH4.out.X.cell' rfl, HH4.out.X.cell' rfl, HH4.out.X.cell' rfl, HH4.out.X.cell' rfl, HH4.out.X.cell' rfl, HH4.out.X.cell' rfl, HH4.out.X.cell' rfl, HH4.out.Y.cell' rfl, HH4.out.Y.cell' rfl, HH4.out.Y.cell' rfl, HH4.out.Y.cell' rfl, HH4.out.Y.cell' rfl, HH4.out.Y.cell' rfl, HH4.out.Y.cell' rfl⟩ (fun hS0 => ?_)
          refine Go.Law.tk 0 ⟨some 48, .load 25 (.tmp 4), _, _, _, _⟩ (v := .agg #[.int .i64 kx, .string ux, .int .i64 idx, .int .i64 sx, .int .i64 px, .int .u64 tx, .slice Ax usx.length cx]) hS0 ?_ ?_
          · intro w' hSw
            obtain ⟨s0, s1, s2, s3, s4, s5, s6, s7, s8, s9, s10, s11, s12, s13⟩ := hSw
            go_simp
          try simp only [Go.Law.pz]
          refine wpAnyH_ready (rs := [1]) (by kernel_rfl) (by simp) ?_
          refine AllReadyH.cons (o := ⟨some 49, .call { callee := .value (.func 6), args := #[.tmp 48], argTypes := _ }, _, _, _, _⟩) rfl (fun K hK => ?_) AllReadyH.nil
          go_simp
          refine Calls.mono (HBx.out _ HH40.out.ix) ?_
          rintro e w41 ⟨rfl, bx⟩
          have HH41 := Lib.hid (HH40.out.now bx)
          clear bx
          go_wp2_with fail
          refine hK.out _ _ ⟨HH41.out.X.cell' rfl, HH41.out.X.cell' rfl, HH41.out.X.cell' rfl, HH41.out.X.cell' rfl, HH41.out.X.cell' rfl, HH41.out.X.cell' rfl, HH41.out.X.cell' rfl, HH41.out.Y.cell' rfl, HH41.out.Y.cell' rfl, HH41.out.Y.cell' rfl, HH41.out.Y.cell' rfl, HH41.out.Y.cell' rfl, HH41.out.Y.cell' rfl, HH41.out.Y.cell' rfl⟩ (fun hS1 => ?_)
          clear hK K
          try simp only [Go.Law.pz]
          refine Go.Law.tk 2 ⟨some 50, .unOp .not _ (.tmp 49), _, _, _, _⟩ (v := .bool true) hS1 ?_ ?_
          · intro w' hSw
            go_simp
          try simp only [Go.Law.pz]
          refine Go.Law.tk 3 ⟨some 51, .move (.tmp 50), _, _, _, _⟩ (v := .bool true) hS1 ?_ ?_
          · intro w' hSw
            go_simp
          try simp only [Go.Law.pz]
          refine Go.Law.tk 4 ⟨some 52, .load 25 (.tmp 5), _, _, _, _⟩ (v := .agg #[.int .i64 ky, .string uy, .int .i64 idy, .int .i64 sy, .int .i64 py, .int .u64 ty, .slice Ay usy.length cy]) hS1 ?_ ?_
          · intro w' hSw
            obtain ⟨s0, s1, s2, s3, s4, s5, s6, s7, s8, s9, s10, s11, s12, s13⟩ := hSw
            go_simp
          try simp only [Go.Law.pz]
          refine wpAnyH_ready (rs := [5]) (by kernel_rfl) (by simp) ?_
          refine AllReadyH.cons (o := ⟨some 53, .call { callee := .value (.func 6), args := #[.tmp 52], argTypes := _ }, _, _, _, _⟩) rfl (fun K hK => ?_) AllReadyH.nil
          go_simp
          refine Calls.mono (HBy.out _ HH41.out.iy) ?_
          rintro e w42 ⟨rfl, bx⟩
          have HH42 := Lib.hid (HH41.out.now bx)
          clear bx
          go_wp2_with fail
          refine hK.out _ _ ⟨HH42.out.X.cell' rfl, HH42.out.X.cell' rfl, HH42.out.X.cell' rfl, HH42.out.X.cell' rfl, HH42.out.X.cell' rfl, HH42.out.X.cell' rfl, HH42.out.X.cell' rfl, HH42.out.Y.cell' rfl, HH42.out.Y.cell' rfl, HH42.out.Y.cell' rfl, HH42.out.Y.cell' rfl, HH42.out.Y.cell' rfl, HH42.out.Y.cell' rfl, HH42.out.Y.cell' rfl⟩ (fun hS2 => ?_)
          clear hK K
          try simp only [Go.Law.pz]
          refine Go.Law.tk 6 ⟨some 54, .unOp .not _ (.tmp 53), _, _, _, _⟩ (v := .bool true) hS2 ?_ ?_
          · intro w' hSw
            go_simp
          try simp only [Go.Law.pz]
          refine Go.Law.tk 7 ⟨some 55, .pick (.tmp 51) (.tmp 54) (.const (.bool false)), _, _, _, _⟩ (v := .bool true) hS2 ?_ ?_
          · intro w' hSw
            go_simp
          try simp only [Go.Law.pz]
          refine Go.Law.tk 8 ⟨some 56, .move (.tmp 55), _, _, _, _⟩ (v := .bool true) hS2 ?_ ?_
          · intro w' hSw
            go_simp
          try simp only [Go.Law.pz]
          refine Go.Law.tk 9 ⟨some 57, .load 25 (.tmp 4), _, _, _, _⟩ (v := .agg #[.int .i64 kx, .string ux, .int .i64 idx, .int .i64 sx, .int .i64 px, .int .u64 tx, .slice Ax usx.length cx]) hS2 ?_ ?_
          · intro w' hSw
            obtain ⟨s0, s1, s2, s3, s4, s5, s6, s7, s8, s9, s10, s11, s12, s13⟩ := hSw
            go_simp
          try simp only [Go.Law.pz]
          refine Go.Law.tk 11 ⟨some 59, .load 25 (.tmp 5), _, _, _, _⟩ (v := .agg #[.int .i64 ky, .string uy, .int .i64 idy, .int .i64 sy, .int .i64 py, .int .u64 ty, .slice Ay usy.length cy]) hS2 ?_ ?_
          · intro w' hSw
            obtain ⟨s0, s1, s2, s3, s4, s5, s6, s7, s8, s9, s10, s11, s12, s13⟩ := hSw
            go_simp
          try simp only [Go.Law.pz]
          refine Go.Law.tk 14 ⟨some 62, .load 25 (.tmp 4), _, _, _, _⟩ (v := .agg #[.int .i64 kx, .string ux, .int .i64 idx, .int .i64 sx, .int .i64 px, .int .u64 tx, .slice Ax usx.length cx]) hS2 ?_ ?_
          · intro w' hSw
            obtain ⟨s0, s1, s2, s3, s4, s5, s6, s7, s8, s9, s10, s11, s12, s13⟩ := hSw
            go_simp
          try simp only [Go.Law.pz]
          refine Go.Law.tk 15 ⟨some 63, .load 25 (.tmp 5), _, _, _, _⟩ (v := .agg #[.int .i64 ky, .string uy, .int .i64 idy, .int .i64 sy, .int .i64 py, .int .u64 ty, .slice Ay usy.length cy]) hS2 ?_ ?_
          · intro w' hSw
            obtain ⟨s0, s1, s2, s3, s4, s5, s6, s7, s8, s9, s10, s11, s12, s13⟩ := hSw
            go_simp
          try simp only [Go.Law.pz]
          refine wpAnyH_ready (rs := [10]) (by kernel_rfl) (by simp) ?_
          refine AllReadyH.cons (o := ⟨some 58, .call { callee := .value (.func 7), args := #[.tmp 57], argTypes := _ }, _, _, _, _⟩) rfl (fun K hK => ?_) AllReadyH.nil
          go_simp
          refine Calls.mono (HLx.out _ HH42.out.ix HH42.out.tabs) ?_
          rintro e w43 ⟨rfl, bx⟩
          have HH43 := Lib.hid (HH42.out.now bx)
          clear bx
          go_wp2_with fail
          refine hK.out _ _ ⟨HH43.out.X.cell' rfl, HH43.out.X.cell' rfl, HH43.out.X.cell' rfl, HH43.out.X.cell' rfl, HH43.out.X.cell' rfl, HH43.out.X.cell' rfl, HH43.out.X.cell' rfl, HH43.out.Y.cell' rfl, HH43.out.Y.cell' rfl, HH43.out.Y.cell' rfl, HH43.out.Y.cell' rfl, HH43.out.Y.cell' rfl, HH43.out.Y.cell' rfl, HH43.out.Y.cell' rfl⟩ (fun hS3 => ?_)
          clear hK K
          try simp only [Go.Law.pz]
          refine wpAnyH_ready (rs := [12]) (by kernel_rfl) (by simp) ?_
          refine AllReadyH.cons (o := ⟨some 60, .call { callee := .value (.func 7), args := #[.tmp 59], argTypes := _ }, _, _, _, _⟩) rfl (fun K hK => ?_) AllReadyH.nil
          go_simp
          refine Calls.mono (HLy.out _ HH43.out.iy HH43.out.tabs) ?_
          rintro e w44 ⟨rfl, bx⟩
          have HH44 := Lib.hid (HH43.out.now bx)
          clear bx
          go_wp2_with fail
          refine hK.out _ _ ⟨HH44.out.X.cell' rfl, HH44.out.X.cell' rfl, HH44.out.X.cell' rfl, HH44.out.X.cell' rfl, HH44.out.X.cell' rfl, HH44.out.X.cell' rfl, HH44.out.X.cell' rfl, HH44.out.Y.cell' rfl, HH44.out.Y.cell' rfl, HH44.out.Y.cell' rfl, HH44.out.Y.cell' rfl, HH44.out.Y.cell' rfl, HH44.out.Y.cell' rfl, HH44.out.Y.cell' rfl⟩ (fun hS4 => ?_)
          clear hK K
          try simp only [Go.Law.pz]
          refine Go.Law.tk 13 ⟨some 61, .binOp .eql 9 (.tmp 58) (.tmp 60) 9, _, _, _, _⟩ (v := .bool t) hS4 ?_ ?_
          · intro w' hSw
            go_simp
          try simp only [Go.Law.pz]
          refine wpAnyH_ready (rs := [16]) (by kernel_rfl) (by simp) ?_
          refine AllReadyH.cons (o := ⟨some 64, .call { callee := .value (.func 8), args := #[.tmp 62, .tmp 63], argTypes := _ }, _, _, _, _⟩) rfl (fun K hK => ?_) AllReadyH.nil
          go_simp
          refine Calls.mono (HSM.out _ HH44.out.ix HH44.out.iy) ?_
          rintro e w45 ⟨rfl, bx⟩
          have HH45 := Lib.hid (HH44.out.now bx)
          clear bx
          go_wp2_with fail
          refine hK.out _ _ ⟨HH45.out.X.cell' rfl, HH45.out.X.cell' rfl, HH45.out.X.cell' rfl, HH45.out.X.cell' rfl, HH45.out.X.cell' rfl, HH45.out.X.cell' rfl, HH45.out.X.cell' rfl, HH45.out.Y.cell' rfl, HH45.out.Y.cell' rfl, HH45.out.Y.cell' rfl, HH45.out.Y.cell' rfl, HH45.out.Y.cell' rfl, HH45.out.Y.cell' rfl, HH45.out.Y.cell' rfl⟩ (fun hS5 => ?_)
          clear hK K
          try simp only [Go.Law.pz]
          refine Go.Law.tk 17 ⟨some 65, .binOp .neq _ (.tmp 61) (.tmp 64) _, _, _, _, _⟩ (v := .bool false) hS5 ?_ ?_
          · intro w' hSw
            go_simp
          try simp only [Go.Law.pz]
          refine Go.Law.tk 18 ⟨some 66, .pick (.tmp 56) (.tmp 65) (.const (.bool false)), _, _, _, _⟩ (v := .bool false) hS5 ?_ ?_
          · intro w' hSw
            go_simp
          try simp only [Go.Law.pz]
          refine wpAnyH_done (by kernel_rfl) ?_ _
          clear xc0 xc1 xc2 xc3 xc4 xc5 xc6 xlt yc0 yc1 yc2 yc3 yc4 yc5 yc6 ylt ac0 ac1 ac2 ac3 alt bc0 bc1 bc2 bc3 blt
          have ac0 : w45.cell? ⟨w.heap.size + 2, 0, none⟩ = some (.int .i64 ea) := HH45.out.A.cell' rfl
          have ac1 : w45.cell? ⟨w.heap.size + 2, 1, none⟩ = some (.slice Aa va.length ca) := HH45.out.A.cell' rfl
          have ac2 : w45.cell? ⟨w.heap.size + 2, 2, none⟩ = some (.slice Ea esa.length cea) := HH45.out.A.cell' rfl
          have ac3 : w45.cell? ⟨w.heap.size + 2, 3, none⟩ = some (.bool la) := HH45.out.A.cell' rfl
          have alt := HH45.out.A.lt
          have bc0 : w45.cell? ⟨w.heap.size + 3, 0, none⟩ = some (.int .i64 eb) := HH45.out.B.cell' rfl
          have bc1 : w45.cell? ⟨w.heap.size + 3, 1, none⟩ = some (.slice Ab vb.length cb) := HH45.out.B.cell' rfl
          have bc2 : w45.cell? ⟨w.heap.size + 3, 2, none⟩ = some (.slice Eb esb.length ceb) := HH45.out.B.cell' rfl
          have bc3 : w45.cell? ⟨w.heap.size + 3, 3, none⟩ = some (.bool lb) := HH45.out.B.cell' rfl
          have blt := HH45.out.B.lt
          go_wp2_with fail
          go_loop [9] (fun i => ∃ j : Nat, j ≤ esa.length ∧ i = .int .i64 j ∧ ∀ e ∈ esa.take j, e.us.size ≤ 100) (fun i => esa.length - (RowKit.intOf i).toNat)
          case atStart => exact ⟨0, Nat.zero_le _, rfl, by simp⟩
          case round =>
            obtain ⟨j, hj, rfl, ha⟩ := hrel
            have HLa := Lib.hid ha
            clear ha
            by_cases hlt : j < esa.length
            · have e1 : decide ((j : Int) < (esa.length : Int)) = true := by simp; omega
              obtain ⟨b, off, rfl, _, hb, c0⟩ := Seq.ev HH45.out.ia.es hlt
              obtain ⟨c0, _⟩ := c0
              have HTK := Lib.hid (List.take_succ_eq_append_getElem hlt)
              have hzz := (HH45.out.ia.ev _ (List.getElem_mem hlt)).1
              unfold maxLen at hzz
              generalize esa[j] = u at *
              try simp only at c0
              by_cases hu : u.us.size ≤ 100
              · have e2 : decide ((100 : Int) < (u.us.size : Int)) = false := by simp; omega
                go_wp2_with fail
                go_round
                case rel => exact ⟨j + 1, by omega, by go_num, by rw [HTK.out]; intro e he; rcases List.mem_append.1 he with h | h; exact HLa.out e h; obtain rfl := List.mem_singleton.1 h; exact hu⟩
                case measure => simp [RowKit.intOf]; omega
              · have e2 : decide ((100 : Int) < (u.us.size : Int)) = true := by simp; omega
                go_wp2_with fail
                go_ret
                exact ⟨rfl, HH45.out.below⟩
            · have e1 : decide ((j : Int) < (esa.length : Int)) = false := by simp; omega
              rw [List.take_of_length_le (by omega)] at HLa
              go_wp2_with fail
              go_loop [10] (fun i => ∃ j : Nat, j ≤ esb.length ∧ i = .int .i64 j ∧ ∀ e ∈ esb.take j, e.us.size ≤ 100) (fun i => esb.length - (RowKit.intOf i).toNat)
              case atStart => exact ⟨0, Nat.zero_le _, rfl, by simp⟩
              case round =>
                obtain ⟨j, hj, rfl, ha⟩ := hrel
                have HLb := Lib.hid ha
                clear ha
                by_cases hlt : j < esb.length
                · have e1 : decide ((j : Int) < (esb.length : Int)) = true := by simp; omega
                  obtain ⟨b, off, rfl, _, hb, c0⟩ := Seq.ev HH45.out.ib.es hlt
                  obtain ⟨c0, _⟩ := c0
                  have HTK := Lib.hid (List.take_succ_eq_append_getElem hlt)
                  have hzz := (HH45.out.ib.ev _ (List.getElem_mem hlt)).1
                  unfold maxLen at hzz
                  generalize esb[j] = u at *
                  try simp only at c0
                  by_cases hu : u.us.size ≤ 100
                  · have e2 : decide ((100 : Int) < (u.us.size : Int)) = false := by simp; omega
                    go_wp2_with fail
                    go_round
                    case rel => exact ⟨j + 1, by omega, by go_num, by rw [HTK.out]; intro e he; rcases List.mem_append.1 he with h | h; exact HLb.out e h; obtain rfl := List.mem_singleton.1 h; exact hu⟩
                    case measure => simp [RowKit.intOf]; omega
                  · have e2 : decide ((100 : Int) < (u.us.size : Int)) = true := by simp; omega
                    go_wp2_with fail
                    go_ret
                    exact ⟨rfl, HH45.out.below⟩
                · have e1 : decide ((j : Int) < (esb.length : Int)) = false := by simp; omega
                  rw [List.take_of_length_le (by omega)] at HLb
                  have HI50 : Hid (RepW.In ⟨ea, Aa, ca, va, Ea, cea, esa, la⟩ w45) := Lib.hid ⟨HH45.out.ia.vs, HH45.out.ia.es, HH45.out.ia.pv, fun p hp => ⟨HLa.out p hp, (HH45.out.ia.ev p hp).2⟩, HH45.out.ia.err, by show va.length ≤ 400; omega, by show esa.length ≤ 400; omega⟩
                  have HJ50 : Hid (RepW.In ⟨eb, Ab, cb, vb, Eb, ceb, esb, lb⟩ w45) := Lib.hid ⟨HH45.out.ib.vs, HH45.out.ib.es, HH45.out.ib.pv, fun p hp => ⟨HLb.out p hp, (HH45.out.ib.ev p hp).2⟩, HH45.out.ib.err, by show vb.length ≤ 400; omega, by show esb.length ≤ 400; omega⟩
                  have pa : ∀ e ∈ esa, 0 ≤ e.sq := fun e he => (HH45.out.ia.ev e he).2.2.2.2.2.2.2.1
                  have pb : ∀ e ∈ esb, 0 ≤ e.sq := fun e he => (HH45.out.ib.ev e he).2.2.2.2.2.2.2.1
                  obtain ⟨sA, hsA⟩ : ∃ s, joinB (toldB ⟨ea, Aa, ca, va, Ea, cea, esa, la⟩) = s := ⟨_, rfl⟩
                  obtain ⟨sB, hsB⟩ : ∃ s, joinB (toldB ⟨eb, Ab, cb, vb, Eb, ceb, esb, lb⟩) = s := ⟨_, rfl⟩
                  obtain ⟨t2, ht2⟩ : ∃ t, decide (ea = eb ∧ la = lb ∧ va = vb ∧ esa = esb) = t := ⟨_, rfl⟩
                  have hst2 : (sA.toList == sB.toList) = t2 := by rw [str_dec, ← hsA, ← hsB, ← ht2]; exact decide_eq_decide.2 (told_same ⟨ea, Aa, ca, va, Ea, cea, esa, la⟩ ⟨eb, Ab, cb, vb, Eb, ceb, esb, lb⟩ pa pb)
                  have HRa : Hid (∀ W, RepW.In ⟨ea, Aa, ca, va, Ea, cea, esa, la⟩ W → Tabs W → Calls Tryd.prog 9 #[.agg #[.int .i64 ea, .slice Aa va.length ca, .slice Ea esa.length cea, .bool la]] W fun e w' => e = .returned (.string sA) ∧ Below W.heap.size W w') := Lib.hid (fun W h hT => by rw [← hsA]; exact reply ⟨ea, Aa, ca, va, Ea, cea, esa, la⟩ W h hT)
                  have HRb : Hid (∀ W, RepW.In ⟨eb, Ab, cb, vb, Eb, ceb, esb, lb⟩ W → Tabs W → Calls Tryd.prog 9 #[.agg #[.int .i64 eb, .slice Ab vb.length cb, .slice Eb esb.length ceb, .bool lb]] W fun e w' => e = .returned (.string sB) ∧ Below W.heap.size W w') := Lib.hid (fun W h hT => by rw [← hsB]; exact reply ⟨eb, Ab, cb, vb, Eb, ceb, esb, lb⟩ W h hT)
                  have HQ : Hid (∀ W, RepW.In ⟨ea, Aa, ca, va, Ea, cea, esa, la⟩ W → RepW.In ⟨eb, Ab, cb, vb, Eb, ceb, esb, lb⟩ W → Calls Tryd.prog 10 #[.agg #[.int .i64 ea, .slice Aa va.length ca, .slice Ea esa.length cea, .bool la], .agg #[.int .i64 eb, .slice Ab vb.length cb, .slice Eb esb.length ceb, .bool lb]] W fun e w' => e = .returned (.bool t2) ∧ Below W.heap.size W w') := Lib.hid (fun W h h' => same10 ⟨ea, Aa, ca, va, Ea, cea, esa, la⟩ ⟨eb, Ab, cb, vb, Eb, ceb, esb, lb⟩ W h h' ht2)
                  have htt2 : (t2 == t2) = true := by cases t2 <;> rfl
                  clear hsA hsB ht2 pa pb
                  go_wp2_with fail
                  have bx := Law.below_drewN (Below.refl w45.heap.size w45) 1
                  have HH51 : Hid (All w.heap.size ⟨kx, ux, idx, sx, px, tx, Ax, cx, usx⟩ ⟨ky, uy, idy, sy, py, ty, Ay, cy, usy⟩ ⟨ea, Aa, ca, va, Ea, cea, esa, la⟩ ⟨eb, Ab, cb, vb, Eb, ceb, esb, lb⟩ w w45.drew) := Lib.hid (HH45.out.now bx)
                  have HI51 : Hid (RepW.In ⟨ea, Aa, ca, va, Ea, cea, esa, la⟩ w45.drew) := Lib.hid (HI50.out.below bx)
                  have HJ51 : Hid (RepW.In ⟨eb, Ab, cb, vb, Eb, ceb, esb, lb⟩ w45.drew) := Lib.hid (HJ50.out.below bx)
                  clear bx
                  refine wp_region_held_drew (S := fun w' => w'.cell? ⟨w.heap.size + 2, 0, none⟩ = some (.int .i64 ea) ∧ w'.cell? ⟨w.heap.size + 2, 1, none⟩ = some (.slice Aa va.length ca) ∧ w'.cell? ⟨w.heap.size + 2, 2, none⟩ = some (.slice Ea esa.length cea) ∧ w'.cell? ⟨w.heap.size + 2, 3, none⟩ = some (.bool la) ∧ w'.cell? ⟨w.heap.size + 3, 0, none⟩ = some (.int .i64 eb) ∧ w'.cell? ⟨w.heap.size + 3, 1, none⟩ = some (.slice Ab vb.length cb) ∧ w'.cell? ⟨w.heap.size + 3, 2, none⟩ = some (.slice Eb esb.length ceb) ∧ w'.cell? ⟨w.heap.size + 3, 3, none⟩ = some (.bool lb)) (by kernel_rfl) ⟨HH45.out.A.cell' rfl, HH45.out.A.cell' rfl, HH45.out.A.cell' rfl, HH45.out.A.cell' rfl, HH45.out.B.cell' rfl, HH45.out.B.cell' rfl, HH45.out.B.cell' rfl, HH45.out.B.cell' rfl⟩ (fun hS0 => ?_)
                  refine Go.Law.tk 0 ⟨some 97, .load 30 (.tmp 6), _, _, _, _⟩ (v := .agg #[.int .i64 ea, .slice Aa va.length ca, .slice Ea esa.length cea, .bool la]) hS0 ?_ ?_
                  · intro w' hSw
                    obtain ⟨s0, s1, s2, s3, s4, s5, s6, s7⟩ := hSw
                    go_simp
                  try simp only [Go.Law.pz]
                  refine Go.Law.tk 2 ⟨some 99, .load 30 (.tmp 7), _, _, _, _⟩ (v := .agg #[.int .i64 eb, .slice Ab vb.length cb, .slice Eb esb.length ceb, .bool lb]) hS0 ?_ ?_
                  · intro w' hSw
                    obtain ⟨s0, s1, s2, s3, s4, s5, s6, s7⟩ := hSw
                    go_simp
                  try simp only [Go.Law.pz]
                  refine Go.Law.tk 5 ⟨some 102, .load 30 (.tmp 6), _, _, _, _⟩ (v := .agg #[.int .i64 ea, .slice Aa va.length ca, .slice Ea esa.length cea, .bool la]) hS0 ?_ ?_
                  · intro w' hSw
                    obtain ⟨s0, s1, s2, s3, s4, s5, s6, s7⟩ := hSw
                    go_simp
                  try simp only [Go.Law.pz]
                  refine Go.Law.tk 6 ⟨some 103, .load 30 (.tmp 7), _, _, _, _⟩ (v := .agg #[.int .i64 eb, .slice Ab vb.length cb, .slice Eb esb.length ceb, .bool lb]) hS0 ?_ ?_
                  · intro w' hSw
                    obtain ⟨s0, s1, s2, s3, s4, s5, s6, s7⟩ := hSw
                    go_simp
                  try simp only [Go.Law.pz]
                  refine wpAnyH_ready (rs := [1]) (by kernel_rfl) (by simp) ?_
                  refine AllReadyH.cons (o := ⟨some 98, .call { callee := .value (.func 9), args := #[.tmp 97], argTypes := _ }, _, _, _, _⟩) rfl (fun K hK => ?_) AllReadyH.nil
                  go_simp
                  refine Calls.mono (HRa.out w45.drew HI51.out HH51.out.tabs) ?_
                  rintro e w52 ⟨rfl, bx⟩
                  have HH52 := Lib.hid (HH51.out.now bx)
                  have HI52 := Lib.hid (HI51.out.below bx)
                  have HJ52 := Lib.hid (HJ51.out.below bx)
                  clear bx
                  go_wp2_with fail
                  refine hK.out _ _ ⟨HH52.out.A.cell' rfl, HH52.out.A.cell' rfl, HH52.out.A.cell' rfl, HH52.out.A.cell' rfl, HH52.out.B.cell' rfl, HH52.out.B.cell' rfl, HH52.out.B.cell' rfl, HH52.out.B.cell' rfl⟩ (fun hS1 => ?_)
                  clear hK K
                  try simp only [Go.Law.pz]
                  refine wpAnyH_ready (rs := [3]) (by kernel_rfl) (by simp) ?_
                  refine AllReadyH.cons (o := ⟨some 100, .call { callee := .value (.func 9), args := #[.tmp 99], argTypes := _ }, _, _, _, _⟩) rfl (fun K hK => ?_) AllReadyH.nil
                  go_simp
                  refine Calls.mono (HRb.out w52 HJ52.out HH52.out.tabs) ?_
                  rintro e w53 ⟨rfl, bx⟩
                  have HH53 := Lib.hid (HH52.out.now bx)
                  have HI53 := Lib.hid (HI52.out.below bx)
                  have HJ53 := Lib.hid (HJ52.out.below bx)
                  clear bx
                  go_wp2_with fail
                  refine hK.out _ _ ⟨HH53.out.A.cell' rfl, HH53.out.A.cell' rfl, HH53.out.A.cell' rfl, HH53.out.A.cell' rfl, HH53.out.B.cell' rfl, HH53.out.B.cell' rfl, HH53.out.B.cell' rfl, HH53.out.B.cell' rfl⟩ (fun hS2 => ?_)
                  clear hK K
                  try simp only [Go.Law.pz]
                  refine Go.Law.tk 4 ⟨some 101, .binOp .eql 9 (.tmp 98) (.tmp 100) 9, _, _, _, _⟩ (v := .bool t2) hS2 ?_ ?_
                  · intro w' hSw
                    go_simp
                  try simp only [Go.Law.pz]
                  refine wpAnyH_ready (rs := [7]) (by kernel_rfl) (by simp) ?_
                  refine AllReadyH.cons (o := ⟨some 104, .call { callee := .value (.func 10), args := #[.tmp 102, .tmp 103], argTypes := _ }, _, _, _, _⟩) rfl (fun K hK => ?_) AllReadyH.nil
                  go_simp
                  refine Calls.mono (HQ.out w53 HI53.out HJ53.out) ?_
                  rintro e w54 ⟨rfl, bx⟩
                  have HH54 := Lib.hid (HH53.out.now bx)
                  have HI54 := Lib.hid (HI53.out.below bx)
                  have HJ54 := Lib.hid (HJ53.out.below bx)
                  clear bx
                  go_wp2_with fail
                  refine hK.out _ _ ⟨HH54.out.A.cell' rfl, HH54.out.A.cell' rfl, HH54.out.A.cell' rfl, HH54.out.A.cell' rfl, HH54.out.B.cell' rfl, HH54.out.B.cell' rfl, HH54.out.B.cell' rfl, HH54.out.B.cell' rfl⟩ (fun hS3 => ?_)
                  clear hK K
                  try simp only [Go.Law.pz]
                  refine Go.Law.tk 8 ⟨some 105, .binOp .eql _ (.tmp 101) (.tmp 104) _, _, _, _, _⟩ (v := .bool true) hS3 ?_ ?_
                  · intro w' hSw
                    go_simp
                  try simp only [Go.Law.pz]
                  refine Go.Law.tk 9 ⟨some 8, .assign (.tmp 105), _, _, _, _⟩ (v := .bool true) hS3 ?_ ?_
                  · intro w' hSw
                    go_simp
                  try simp only [Go.Law.pz]
                  refine wpAnyH_done (by kernel_rfl) ?_ _
                  go_wp2_with fail
                  go_ret
                  exact ⟨rfl, HH54.out.below⟩
set_option maxRecDepth 100000 in
set_option maxHeartbeats 4000000 in
theorem lifted (os : Os) (started : os.Started) (H : Type) (enc : TypeId × Value → H) :
    ReturnsInHanded {} Tryd.checked os 3 .any (fun w args => (Rows.opApartSpec.pre enc Tryd.prog Tryd.f3 [] false w args ∧ laidMetH Tryd.prog Rows.opApartRow.laid w) ∧ sizedMet enc Tryd.prog Tryd.f3 (OpenSpec.ofChange Rows.opApartSpec) false w args) (Rows.opApartSpec.post enc Tryd.prog Tryd.f3 false true false false) := by
  refine returnsInHanded_of_change_and (C := Tryd.checked) (X := (fun w _ => laidMetH Tryd.prog Rows.opApartRow.laid w)) (fun _ _ _ hh h => h.of_heap hh) own started (by kernel_rfl) Tryd.func3
    (ChangeSpec.witness_shaped (enc := enc) (C := Tryd.checked) (os := os) (X := (fun w _ => laidMetH Tryd.prog Rows.opApartRow.laid w)) false (World.laidAll Tryd.prog os Rows.opApartRow.laid) #[.agg #[.int .i64 0, .string ⟨#[]⟩, .int .i64 0, .int .i64 0, .int .i64 0, .int .u64 0, .slice none 0 0], .agg #[.int .i64 0, .string ⟨#[]⟩, .int .i64 0, .int .i64 0, .int .i64 0, .int .u64 0, .slice none 0 0], .agg #[.int .i64 0, .slice none 0 0, .slice none 0 0, .bool false], .agg #[.int .i64 0, .slice none 0 0, .slice none 0 0, .bool false]] 8 (World.laidAll_os _ _ _)
      (World.shaped_of_ZipB (by kernel_rfl) (by kernel_rfl)) (by kernel_rfl) (by kernel_rfl) (by kernel_rfl)
      (by rw [MakeChecks.laidMetH_plain _ _ _ (by kernel_rfl)]; exact laidMet_laidAll _ (by kernel_rfl) (by kernel_rfl))) ?_
  intro W base args ds gs before hval0 hW _ _ hL _
  have hval : ∀ (j : Nat) t v, Tryd.f3.params[j]? = some t → args[j]? = some v → Value.okWide Tryd.prog W .any base t v := hval0
  have hW' := hW
  obtain ⟨p, q, hA0, hV, rfl, hfz, hnd⟩ := hW
  have hA : DataW.TrodAll enc Tryd.prog W 0 (fun _ => true) true Tryd.f3.params.toList args.toList ds p := hA0
  rw [Tryd.params3] at hA hval
  obtain ⟨v0, vs0, d0, ds0, p0, q0, hargs, rfl, rfl, h0, r0⟩ := trodAll_cons hA
  obtain ⟨v1, vs1, d1, ds1, p1, q1, rfl, rfl, rfl, h1, r1⟩ := trodAll_cons r0
  obtain ⟨v2, vs2, d2, ds2, p2, q2, rfl, rfl, rfl, h2, r2⟩ := trodAll_cons r1
  obtain ⟨v3, vs3, d3, ds3, p3, q3, rfl, rfl, rfl, h3, r3⟩ := trodAll_cons r2
  obtain ⟨rfl, rfl, rfl⟩ := trodAll_nil r3
  obtain rfl : args = #[v0, v1, v2, v3] := by cases args; simp_all
  obtain ⟨q, rfl, hq⟩ := open_op (hval 0 25 v0 rfl rfl) h0
  obtain ⟨q1, rfl, hq1⟩ := open_op (hval 1 25 v1 rfl rfl) h1
  obtain ⟨q2, rfl, hq2⟩ := open_rep (hval 2 30 v2 rfl rfl) h2
  obtain ⟨q3, rfl, hq3⟩ := open_rep (hval 3 30 v3 rfl rfl) h3
  rw [MakeChecks.laidMetH_plain _ _ _ (by kernel_rfl)] at hL
  have HTb := Opx.tabs_of hL
  refine (walk q q1 q2 q3 W hq hq1 hq2 hq3 HTb).mono fun e W' ⟨he, bel⟩ => ?_
  subst he
  exact ⟨_, rfl, Law.post_law laidOut (by kernel_rfl) (by kernel_rfl) Tryd.underlying4 rfl (fun ds h => by match ds, h with | [_, _, _, _], _ => rfl) hW' bel⟩
theorem holds : Rows.OpApartSaid :=
  OpenClaim.holds_of_wide 3 Tryd.f3 rfl rfl rfl rfl rfl rfl rfl ⟨rfl, rfl, rfl, rfl, rfl⟩ rfl rfl rfl rfl rfl (by kernel_rfl) Tryd.func3 (by kernel_rfl)
    (of_decide_eq_true (by kernel_rfl)) (by unfold Func.isWrapper; first | (rw [if_pos (by decide +kernel)]; kernel_rfl) | (rw [if_neg (by decide +kernel)]; exact ⟨rfl, rfl⟩))
    (fun os started H enc _ => lifted os started H enc)
theorem proved : Rows.OpApartCardSaid :=
  Claim7.holds_tied_plain_at .later [] [.data, .data, .data, .data, .data, .pinned, .pinned, .pinned, .pinned, .pinned, .pinned] true (true, "5bd0e0c85dceb8adb674becbcfdaf515aef74c1360322e60ea7fd1ea4964d079") false holds (fun _ h => by cases h) (by kernel_rfl) (fun _ h => by cases h) opApart_row_tie rfl ⟨rfl, rfl⟩ (by kernel_rfl) rfl
    (fun f fn hf hfn => by
      obtain rfl : f = 3 := Option.some.inj ((show Tryd.prog.funcNamed Rows.opApartRow.func = some 3 by kernel_rfl).symm.trans hf) |>.symm
      obtain rfl : fn = Tryd.f3 := (Option.some.inj (Tryd.func3.symm.trans hfn)).symm
      exact ⟨by kernel_rfl, fun j t ht => by
        rw [Tryd.params3] at ht
        have hm : t ∈ [25, 25, 30, 30] := by simpa using Array.mem_of_getElem? ht
        have hall : ([25, 25, 30, 30].all fun u => !Tryd.prog.wantsStandIn u) = true := by kernel_rfl
        exact (show Tryd.prog.wantsStandIn t = false by simpa using List.all_eq_true.1 hall t hm)⟩)
    (by kernel_rfl)
#print axioms proved
end opApart
end Go.Proofs.YtdfonlbbohnfhaaDoor

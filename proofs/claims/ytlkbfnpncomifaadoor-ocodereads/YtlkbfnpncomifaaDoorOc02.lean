/-
  The reader's longer calls (layer 12): config, users, op.
-/
import Derived.Test.YtlkbfnpncomifaaDoorOc01
import Derived.Test.YtlkbfnpncomifaaDoorMoves
import Derived.Test.YtlkbfnpncomifaaDoorOpDec
import Derived.Test.YtlkbfnpncomifaaDoorLains
import Derived.Test.YtlkbfnpncomifaaDoorRingz
namespace Go.Proofs.YtlkbfnpncomifaaDoor
open Go.RowKit Go.Lib
attribute [local go_sem] Oper.semAt_some
namespace Opx
open Go.Law
/-- on the way of a call that fills a block h of its own and then its result's block r, from the world w0 on -/
structure St (w0 w : World) (B g : Nat) (b : List Int) (i : Nat) (T : TypeId) (r h : Nat) (cr cs : Array Value) : Prop where
  rd : Rd w B g b i
  res : Is w r T cr
  loc : Is w h T cs
  tabs : Tabs w
  hr : w0.heap.size ≤ r
  hh : w0.heap.size ≤ h
  rh : r ≠ h
  gp : 0 < g
  gl : g < w0.heap.size
  t : Law.Touch w0 w (fun k => k = g)
theorem St.call {w0 w w' : World} {B g i i' r h : Nat} {b : List Int} {T : TypeId} {cr cs : Array Value} (s : St w0 w B g b i T r h cr cs) (h1 : Rd w' B g b i') (h2 : Law.Touch w w' (fun k => k = g)) : St w0 w' B g b i' T r h cr cs :=
  ⟨h1, h2.is s.res (by have := s.hr; have := s.gl; omega), h2.is s.loc (by have := s.hh; have := s.gl; omega), s.tabs.touch h2 (by have := s.gp; omega), s.hr, s.hh, s.rh, s.gp, s.gl, s.t.trans h2 (fun _ e => .inl e)⟩
theorem St.store {w0 w : World} {B g i r h : Nat} {b : List Int} {T : TypeId} {cr cs cs' : Array Value} (s : St w0 w B g b i T r h cr cs) (k : Nat) (v : Value) (hc : cs.setIfInBounds k v = cs') : St w0 (w.setCell ⟨h, k, none⟩ v) B g b i T r h cr cs' := by
  have h0 := s.hh
  have h1 := s.gl
  have h2 := s.gp
  have h3 := s.rh
  have h4 := s.rd.le
  have ht : Law.Touch w (w.setCell ⟨h, k, none⟩ v) (fun k => k = h) := Law.Touch.store _ _ _ rfl
  exact ⟨s.rd.touch ht (by omega) (fun k hk => by subst hk; omega), ht.is s.res (by omega), s.loc.set k v hc, s.tabs.touch ht (by omega), s.hr, s.hh, h3, h2, h1, s.t.trans ht (fun k hk => .inr (by subst hk; exact h0))⟩
theorem Is.fill7 {w : World} {g : Nat} {t : TypeId} {cs : Array Value} (h : Is w g t cs) (hs : cs.size = 7) (a0 a1 a2 a3 a4 a5 a6 : Value) :
    Is (((((((w.setCell ⟨g, 0, none⟩ a0).setCell ⟨g, 1, none⟩ a1).setCell ⟨g, 2, none⟩ a2).setCell ⟨g, 3, none⟩ a3).setCell ⟨g, 4, none⟩ a4).setCell ⟨g, 5, none⟩ a5).setCell ⟨g, 6, none⟩ a6) g t #[a0, a1, a2, a3, a4, a5, a6] := by
  refine ((((((h.set 0 a0 rfl).set 1 a1 rfl).set 2 a2 rfl).set 3 a3 rfl).set 4 a4 rfl).set 5 a5 rfl).set 6 a6 ?_
  obtain ⟨l⟩ := cs
  match l, hs with
  | [_, _, _, _, _, _, _], _ => simp
/-- what is left when the result's block is written -/
structure Fin (w0 w1 w : World) (B g : Nat) (b : List Int) (i : Nat) (T : TypeId) (r : Nat) (cs : Array Value) : Prop where
  rd : Rd w B g b i
  res : Is w r T cs
  t : Law.Touch w0 w (fun k => k = g)
  ke : ∀ t, t ≠ T → Keeps t w1 w
theorem St.fin {w0 w : World} {B g i r h : Nat} {b : List Int} {T : TypeId} {cr cs : Array Value} (s : St w0 w B g b i T r h cr cs) (hs : cr.size = 7) (a0 a1 a2 a3 a4 a5 a6 : Value) :
    Fin w0 w (((((((w.setCell ⟨r, 0, none⟩ a0).setCell ⟨r, 1, none⟩ a1).setCell ⟨r, 2, none⟩ a2).setCell ⟨r, 3, none⟩ a3).setCell ⟨r, 4, none⟩ a4).setCell ⟨r, 5, none⟩ a5).setCell ⟨r, 6, none⟩ a6) B g b i T r #[a0, a1, a2, a3, a4, a5, a6] := by
  have h0 := s.hr
  have h1 := s.gl
  have h4 := s.rd.le
  have st : ∀ (W : World) k v, Law.Touch W (W.setCell ⟨r, k, none⟩ v) (fun k => k = r) := fun W k v => Law.Touch.store _ _ _ rfl
  have st2 := ((((((st w 0 a0).trans (st _ 1 a1) (fun _ e => .inl e)).trans (st _ 2 a2) (fun _ e => .inl e)).trans (st _ 3 a3) (fun _ e => .inl e)).trans (st _ 4 a4) (fun _ e => .inl e)).trans (st _ 5 a5) (fun _ e => .inl e)).trans (st _ 6 a6) (fun _ e => .inl e)
  exact ⟨s.rd.touch st2 (by omega) (fun k hk => by subst hk; omega), Is.fill7 s.res hs a0 a1 a2 a3 a4 a5 a6, s.t.trans st2 (fun k hk => .inr (by subst hk; exact h0)), fun t ht => Keeps.touch1 st2 s.res ht⟩
set_option maxRecDepth 100000 in
set_option maxHeartbeats 4000000 in
theorem config {w : World} {B g : Nat} {b : List Int} (h : Rd w B g b 0) (hT : Tabs w) (hg : 0 < g) {v : Array Value} (hv : (confB b).toArray = v) : Calls Tryd.prog 20 #[.pointer (some ⟨g, 0, none⟩)] w fun e w' => e = .returned (.agg v) ∧ Rd w' B g b 7 ∧ Law.Touch w w' (fun k => k = g) := by
  have HV := Lib.hid hv
  clear hv
  have hok := h.ok
  have e0 := hok.at 0
  have e1 := hok.at 1
  have e2 := hok.at 2
  have e3 := hok.at 3
  have e4 := hok.at 4
  have e5 := hok.at 5
  have e6 := hok.at 6
  have e7 := longI_ok e6
  have lg := h.lt
  have b1 := (Below.refl w.heap.size w).alloc (Nat.le_refl _) (.cells #[.int .i64 0, .int .i64 0, .int .i64 0, .int .i64 0, .int .i64 0, .int .u64 0, .int .u64 0] 27)
  have b2 := b1.alloc (by simp) (.cells #[.int .i64 0, .int .i64 0, .int .i64 0, .int .i64 0, .int .i64 0, .int .u64 0, .int .u64 0] 27)
  have HS0 := Lib.hid (show St w ((w.alloc (.cells #[.int .i64 0, .int .i64 0, .int .i64 0, .int .i64 0, .int .i64 0, .int .u64 0, .int .u64 0] 27)).alloc (.cells #[.int .i64 0, .int .i64 0, .int .i64 0, .int .i64 0, .int .i64 0, .int .u64 0, .int .u64 0] 27)) B g b 0 27 w.heap.size (w.heap.size + 1) #[.int .i64 0, .int .i64 0, .int .i64 0, .int .i64 0, .int .i64 0, .int .u64 0, .int .u64 0] #[.int .i64 0, .int .i64 0, .int .i64 0, .int .i64 0, .int .i64 0, .int .u64 0, .int .u64 0] from
    ⟨h.below b2, (Is.new w _ _ rfl).alloc _, Is.new _ _ _ (by simp), hT.below b2, Nat.le_refl _, by omega, by omega, hg, lg, Law.Touch.of_below b2 _⟩)
  clear b1 b2 h hT
  go_enter Tryd.func20, Tryd.ntmps20
  go_wp2_with fail
  generalize (w.alloc (.cells #[.int .i64 0, .int .i64 0, .int .i64 0, .int .i64 0, .int .i64 0, .int .u64 0, .int .u64 0] 27)).alloc (.cells #[.int .i64 0, .int .i64 0, .int .i64 0, .int .i64 0, .int .i64 0, .int .u64 0, .int .u64 0] 27) = w1 at *
  refine Calls.mono (left HS0.out.rd 8 (by decide) rfl) ?_
  rintro e wa0 ⟨rfl, r0, t0⟩
  have HC0 := Lib.hid (HS0.out.call r0 t0)
  clear r0 t0 HS0
  have c0 : wa0.cell? ⟨w.heap.size + 1, 0, none⟩ = some (.int .i64 0) := HC0.out.loc.cell' rfl
  have f0 := HC0.out.loc.frozen 0
  have l0 := HC0.out.loc.lt
  have HD0 := Lib.hid (HC0.out.store 0 (.int .i64 (1 + at_ b 0 % 8)) (cs' := #[.int .i64 (1 + at_ b 0 % 8), .int .i64 0, .int .i64 0, .int .i64 0, .int .i64 0, .int .u64 0, .int .u64 0]) rfl)
  go_wp2_with fail
  generalize wa0.setCell ⟨w.heap.size + 1, 0, none⟩ (.int .i64 (1 + at_ b 0 % 8)) = wb0 at *
  clear c0 f0 l0 HC0
  refine Calls.mono (left HD0.out.rd 8 (by decide) rfl) ?_
  rintro e wa1 ⟨rfl, r1, t1⟩
  have HC1 := Lib.hid (HD0.out.call r1 t1)
  clear r1 t1 HD0
  have c1 : wa1.cell? ⟨w.heap.size + 1, 1, none⟩ = some (.int .i64 0) := HC1.out.loc.cell' rfl
  have f1 := HC1.out.loc.frozen 1
  have l1 := HC1.out.loc.lt
  have HD1 := Lib.hid (HC1.out.store 1 (.int .i64 (1 + at_ b 1 % 8)) (cs' := #[.int .i64 (1 + at_ b 0 % 8), .int .i64 (1 + at_ b 1 % 8), .int .i64 0, .int .i64 0, .int .i64 0, .int .u64 0, .int .u64 0]) rfl)
  go_wp2_with fail
  generalize wa1.setCell ⟨w.heap.size + 1, 1, none⟩ (.int .i64 (1 + at_ b 1 % 8)) = wb1 at *
  clear c1 f1 l1 HC1
  refine Calls.mono (left HD1.out.rd 16 (by decide) rfl) ?_
  rintro e wa2 ⟨rfl, r2, t2⟩
  have HC2 := Lib.hid (HD1.out.call r2 t2)
  clear r2 t2 HD1
  have c2 : wa2.cell? ⟨w.heap.size + 1, 2, none⟩ = some (.int .i64 0) := HC2.out.loc.cell' rfl
  have f2 := HC2.out.loc.frozen 2
  have l2 := HC2.out.loc.lt
  have HD2 := Lib.hid (HC2.out.store 2 (.int .i64 (1 + at_ b 2 % 16)) (cs' := #[.int .i64 (1 + at_ b 0 % 8), .int .i64 (1 + at_ b 1 % 8), .int .i64 (1 + at_ b 2 % 16), .int .i64 0, .int .i64 0, .int .u64 0, .int .u64 0]) rfl)
  go_wp2_with fail
  generalize wa2.setCell ⟨w.heap.size + 1, 2, none⟩ (.int .i64 (1 + at_ b 2 % 16)) = wb2 at *
  clear c2 f2 l2 HC2
  refine Calls.mono (left HD2.out.rd 8 (by decide) rfl) ?_
  rintro e wa3 ⟨rfl, r3, t3⟩
  have HC3 := Lib.hid (HD2.out.call r3 t3)
  clear r3 t3 HD2
  have c3 : wa3.cell? ⟨w.heap.size + 1, 3, none⟩ = some (.int .i64 0) := HC3.out.loc.cell' rfl
  have f3 := HC3.out.loc.frozen 3
  have l3 := HC3.out.loc.lt
  have HD3 := Lib.hid (HC3.out.store 3 (.int .i64 (1 + at_ b 3 % 8)) (cs' := #[.int .i64 (1 + at_ b 0 % 8), .int .i64 (1 + at_ b 1 % 8), .int .i64 (1 + at_ b 2 % 16), .int .i64 (1 + at_ b 3 % 8), .int .i64 0, .int .u64 0, .int .u64 0]) rfl)
  go_wp2_with fail
  generalize wa3.setCell ⟨w.heap.size + 1, 3, none⟩ (.int .i64 (1 + at_ b 3 % 8)) = wb3 at *
  clear c3 f3 l3 HC3
  refine Calls.mono (left HD3.out.rd 5 (by decide) rfl) ?_
  rintro e wa4 ⟨rfl, r4, t4⟩
  have HC4 := Lib.hid (HD3.out.call r4 t4)
  clear r4 t4 HD3
  have c4 : wa4.cell? ⟨w.heap.size + 1, 4, none⟩ = some (.int .i64 0) := HC4.out.loc.cell' rfl
  have f4 := HC4.out.loc.frozen 4
  have l4 := HC4.out.loc.lt
  have HD4 := Lib.hid (HC4.out.store 4 (.int .i64 (at_ b 4 % 5)) (cs' := #[.int .i64 (1 + at_ b 0 % 8), .int .i64 (1 + at_ b 1 % 8), .int .i64 (1 + at_ b 2 % 16), .int .i64 (1 + at_ b 3 % 8), .int .i64 (at_ b 4 % 5), .int .u64 0, .int .u64 0]) rfl)
  go_wp2_with fail
  generalize wa4.setCell ⟨w.heap.size + 1, 4, none⟩ (.int .i64 (at_ b 4 % 5)) = wb4 at *
  clear c4 f4 l4 HC4
  refine Calls.mono (next HD4.out.rd rfl) ?_
  rintro e wa5 ⟨rfl, r5, t5⟩
  have HC5 := Lib.hid (HD4.out.call r5 t5)
  clear r5 t5 HD4
  have c5 : wa5.cell? ⟨w.heap.size + 1, 5, none⟩ = some (.int .u64 0) := HC5.out.loc.cell' rfl
  have f5 := HC5.out.loc.frozen 5
  have l5 := HC5.out.loc.lt
  have HD5 := Lib.hid (HC5.out.store 5 (.int .u64 (at_ b 5)) (cs' := #[.int .i64 (1 + at_ b 0 % 8), .int .i64 (1 + at_ b 1 % 8), .int .i64 (1 + at_ b 2 % 16), .int .i64 (1 + at_ b 3 % 8), .int .i64 (at_ b 4 % 5), .int .u64 (at_ b 5), .int .u64 0]) rfl)
  go_wp2_with fail
  generalize wa5.setCell ⟨w.heap.size + 1, 5, none⟩ (.int .u64 (at_ b 5)) = wb5 at *
  clear c5 f5 l5 HC5
  refine Calls.mono (long HD5.out.rd rfl) ?_
  rintro e wa6 ⟨rfl, r6, t6⟩
  have HC6 := Lib.hid (HD5.out.call r6 t6)
  clear r6 t6 HD5
  have c6 : wa6.cell? ⟨w.heap.size + 1, 6, none⟩ = some (.int .u64 0) := HC6.out.loc.cell' rfl
  have f6 := HC6.out.loc.frozen 6
  have l6 := HC6.out.loc.lt
  have HD6 := Lib.hid (HC6.out.store 6 (.int .u64 (longI (at_ b 6))) (cs' := #[.int .i64 (1 + at_ b 0 % 8), .int .i64 (1 + at_ b 1 % 8), .int .i64 (1 + at_ b 2 % 16), .int .i64 (1 + at_ b 3 % 8), .int .i64 (at_ b 4 % 5), .int .u64 (at_ b 5), .int .u64 (longI (at_ b 6))]) rfl)
  have x0 := HD6.out.loc.cell' (i := 0) (v := .int .i64 (1 + at_ b 0 % 8)) rfl
  have x1 := HD6.out.loc.cell' (i := 1) (v := .int .i64 (1 + at_ b 1 % 8)) rfl
  have x2 := HD6.out.loc.cell' (i := 2) (v := .int .i64 (1 + at_ b 2 % 16)) rfl
  have x3 := HD6.out.loc.cell' (i := 3) (v := .int .i64 (1 + at_ b 3 % 8)) rfl
  have x4 := HD6.out.loc.cell' (i := 4) (v := .int .i64 (at_ b 4 % 5)) rfl
  have x5 := HD6.out.loc.cell' (i := 5) (v := .int .u64 (at_ b 5)) rfl
  have x6 := HD6.out.loc.cell' (i := 6) (v := .int .u64 (longI (at_ b 6))) rfl
  have lx := HD6.out.loc.lt
  have ly := HD6.out.res.lt
  have hne := HD6.out.rh
  have y0 := HD6.out.res.cell' (i := 0) (v := .int .i64 0) rfl
  have y1 := HD6.out.res.cell' (i := 1) (v := .int .i64 0) rfl
  have y2 := HD6.out.res.cell' (i := 2) (v := .int .i64 0) rfl
  have y3 := HD6.out.res.cell' (i := 3) (v := .int .i64 0) rfl
  have y4 := HD6.out.res.cell' (i := 4) (v := .int .i64 0) rfl
  have y5 := HD6.out.res.cell' (i := 5) (v := .int .u64 0) rfl
  have y6 := HD6.out.res.cell' (i := 6) (v := .int .u64 0) rfl
  have z0 := HD6.out.res.frozen 0
  have z1 := HD6.out.res.frozen 1
  have z2 := HD6.out.res.frozen 2
  have z3 := HD6.out.res.frozen 3
  have z4 := HD6.out.res.frozen 4
  have z5 := HD6.out.res.frozen 5
  have z6 := HD6.out.res.frozen 6
  have HK9 := Lib.hid HC6.out.loc
  have HF := Lib.hid (HD6.out.fin rfl (.int .i64 (1 + at_ b 0 % 8)) (.int .i64 (1 + at_ b 1 % 8)) (.int .i64 (1 + at_ b 2 % 16)) (.int .i64 (1 + at_ b 3 % 8)) (.int .i64 (at_ b 4 % 5)) (.int .u64 (at_ b 5)) (.int .u64 (longI (at_ b 6))))
  go_wp2_with fail
  clear x0 y0 z0 x1 y1 z1 x2 y2 z2 x3 y3 z3 x4 y4 z4 x5 y5 z5 x6 y6 z6
  obtain ⟨rd9, res9, t9, ke9⟩ := HF.out
  have KE9 := Lib.hid ke9
  clear ke9
  clear HF
  have H9 := Lib.hid rd9
  have T9 := Lib.hid t9
  have n0 := res9.cell' (i := 0) (v := .int .i64 (1 + at_ b 0 % 8)) rfl
  have n1 := res9.cell' (i := 1) (v := .int .i64 (1 + at_ b 1 % 8)) rfl
  have n2 := res9.cell' (i := 2) (v := .int .i64 (1 + at_ b 2 % 16)) rfl
  have n3 := res9.cell' (i := 3) (v := .int .i64 (1 + at_ b 3 % 8)) rfl
  have n4 := res9.cell' (i := 4) (v := .int .i64 (at_ b 4 % 5)) rfl
  have n5 := res9.cell' (i := 5) (v := .int .u64 (at_ b 5)) rfl
  have n6 := res9.cell' (i := 6) (v := .int .u64 (longI (at_ b 6))) rfl
  clear rd9 t9 res9
  exact bodyPost_ret (v := .agg #[.int .i64 (1 + at_ b 0 % 8), .int .i64 (1 + at_ b 1 % 8), .int .i64 (1 + at_ b 2 % 16), .int .i64 (1 + at_ b 3 % 8), .int .i64 (at_ b 4 % 5), .int .u64 (at_ b 5), .int .u64 (longI (at_ b 6))]) (by simp [results, Tryd.results20, go_sem, n0 ,n1 ,n2 ,n3 ,n4 ,n5 ,n6]) rfl ⟨by rw [← HV.out]; rfl, H9.out, T9.out⟩
theorem Rd.grown {w w' : World} {B g i : Nat} {b : List Int} {row : Option Nat} (h : Rd w B g b i) (hg : w.grownBy w' row) (hr : ∀ k, row = some k → g < k) : Rd w' B g b i :=
  h.touch (T := fun k => row = some k) (Law.Touch.grown hg fun _ e => e) (fun e => Nat.lt_irrefl _ (hr _ e)) (fun k e => Nat.le_trans h.le (Nat.le_of_lt (hr k e)))
/-- behind an append of a new block's cells to an own row -/
theorem grow_touch {w0 w w' : World} {g : Nat} {row : Option Nat} (h : Law.Touch w0 w (fun k => k = g)) (o : Obj) (hg : (w.alloc o).grownBy w' row) (hr : ∀ k, row = some k → w0.heap.size ≤ k) : Law.Touch w0 w' (fun k => k = g) :=
  (h.trans (Law.Touch.alloc w o (fun _ => False)) (fun _ e => e.elim)).trans (T' := fun k => row = some k) (Law.Touch.grown hg fun _ e => e) (fun k e => .inr (hr k e))
theorem one_strv (s : ByteArray) : ∀ u ∈ [Value.string s], u.oneCell' = true := fun u hu => by obtain rfl := List.mem_singleton.1 hu; rfl
theorem elemS : ∃ i, Law.Elem Tryd.prog 47 9 i (.string .empty) 1 16 := Law.Elem.of Tryd.underlying47 (by kernel_rfl) rfl (by decide)
theorem own_nil (w : World) (base : Nat) (e : TypeId) (size : Nat) : w.ownsRow base e size (.slice none 0 0) 0 [] := ⟨by simp, .inl ⟨rfl, rfl⟩⟩
set_option maxRecDepth 100000 in
set_option maxHeartbeats 4000000 in
theorem users {w : World} {B g i : Nat} {b : List Int} (h : Rd w B g b i) (hT : Tabs w) (hg : 0 < g) {n : Nat} (hn : (at_ b i % 10).toNat = n) :
    Calls Tryd.prog 38 #[.pointer (some ⟨g, 0, none⟩)] w fun e w' => ∃ D c, e = .returned (.slice D n c) ∧ n ≤ c ∧ Lain 9 w' D ((usersAt b (i + 1) n).map .string) ∧ Rd w' B g b (i + 1 + n) ∧ Law.Touch w w' (fun k => k = g) := by
  have hok := h.ok.at i
  have hx : at_ b i % 10 = (n : Int) := by omega
  have hn9 : n ≤ 9 := by omega
  have lg := h.lt
  have HL := Lib.hid (left h 10 (by decide) hx)
  have HT := Lib.hid hT
  obtain ⟨i1, hE1⟩ := elemS
  have HE1 := Lib.hid hE1
  clear h hT hE1 hn hx hok
  go_enter Tryd.func38, Tryd.ntmps38
  go_wp2_with fail
  refine HL.out.mono ?_
  rintro e w1 ⟨rfl, r1, t1⟩
  have HR1 := Lib.hid r1
  have HT1 := Lib.hid t1
  clear r1 t1 HL
  go_wp2_with fail
  go_loopw [3, 6] (fun vs vi wr => ∃ (j : Nat) (D : Option Addr) (cap : Nat), j ≤ n ∧ vi = .int .i64 j ∧ vs = .slice D j cap ∧ wr.ownsRow w.heap.size 9 1 (.slice D j cap) j ((usersAt b (i + 1) j).map .string) ∧ Rd wr B g b (i + 1 + j) ∧ Law.Touch w wr (fun k => k = g)) (fun _ vi _ => n - (RowKit.intOf vi).toNat)
  case atStart => exact ⟨0, _, _, Nat.zero_le _, rfl, rfl, own_nil _ _ _ _, HR1.out, HT1.out⟩
  case round =>
    clear HR1 HT1
    obtain ⟨j, D, cap, hj, rfl, rfl, hO, hR, hW⟩ := hrel
    have HO := Lib.hid hO
    have HR := Lib.hid hR
    have HW := Lib.hid hW
    have HTr := Lib.hid (HT.out.touch hW (by omega))
    clear hO hR hW
    by_cases hlt : j < n
    · have d1 : decide ((j : Int) < (n : Int)) = true := by simp; omega
      go_wp2_with fail
      refine (user HR.out HTr.out hg rfl).mono ?_
      rintro e w5 ⟨rfl, r5, t5⟩
      have HR5 := Lib.hid r5
      have HW5 := Lib.hid (HW.out.trans t5 (fun _ e => .inl e))
      have HO5 := Lib.hid (t5.own HO.out (fun k hk => by have := (HO.out.lt k hk).1; omega))
      have HTK := Lib.hid (usersAt_snoc b (i + 1) j)
      clear r5 t5 HR HW HO
      generalize userB (at_ b (i + 1 + j)) = u at *
      have sz5 := HW5.out.size
      go_wp2_with (at_builtin; refine wpList_append_own _ rfl _ _ 47 rfl w.heap.size 9 i1 (.string ⟨#[]⟩) 1 16 HE1.out.ut HE1.out.info HE1.out.zero HE1.out.sz HE1.out.by_ HE1.out.cells HE1.out.pos _ _ _ rfl (HO5.out.alloc _) ⟨w5.heap.size, 0, none⟩ 1 1 [.string u] rfl rfl (Law.new_one _ _ _) (one_strv _) (by unfold maxLen; omega) (by omega) (by simp; omega) ?_; intro v' w6 hown hg6 _; have HR6 := Lib.hid ((HR5.out.below ((Below.refl w5.heap.size w5).alloc (Nat.le_refl _) _)).grown hg6 (fun k hk => by have := (HO5.out.lt k hk).1; omega)); have HW6 := Lib.hid (grow_touch HW5.out _ hg6 (fun k hk => (HO5.out.lt k hk).1)); have HO6 := Lib.hid hown; obtain ⟨D', cap', rfl, _⟩ := own_shape hown; clear hown hg6)
      go_roundw
      case rel => exact ⟨j + 1, _, _, by omega, by go_num, rfl, by rw [HTK.out]; simpa using HO6.out, HR6.out, HW6.out⟩
      case measure => simp [RowKit.intOf]; omega
    · obtain rfl : j = n := by omega
      have d1 : decide ((j : Int) < (j : Int)) = false := by simp
      obtain ⟨_, _, hsh, hcap⟩ := own_shape HO.out
      cases hsh
      go_wp2_with fail
      go_ret
      exact ⟨_, _, rfl, hcap, Lain.own HO.out, HR.out, HW.out⟩
def plain (q : OpW) : OpP := ⟨q.kind, q.user, q.id, q.st, q.pr, q.ttl, q.us⟩
set_option maxRecDepth 100000 in
set_option maxHeartbeats 4000000 in
theorem op {w : World} {B g i : Nat} {b : List Int} (h : Rd w B g b i) (hT : Tabs w) (hg : 0 < g) {k : Nat} (hk : i + opLen b i = k) {X : OpP} (hX : opAt b i = X) :
    Calls Tryd.prog 36 #[.pointer (some ⟨g, 0, none⟩)] w fun e w' => ∃ q : OpW, e = .returned (.agg q.box) ∧ plain q = X ∧ q.us.length ≤ q.c ∧ Lain 9 w' q.A (q.us.map .string) ∧ Rd w' B g b k ∧ Law.Touch w w' (fun k => k = g) := by
  have hok := h.ok
  have e0 := hok.at i
  have e1 := hok.at (i + 1)
  have e2 := hok.at (i + 2)
  have e3 := hok.at (i + 3)
  have e4 := hok.at (i + 4)
  have e5 := hok.at (i + 5)
  have m5 := longI_ok e5
  have m3 := longI_ok e3
  have lg := h.lt
  have b1 := (Below.refl w.heap.size w).alloc (Nat.le_refl _) (.cells #[.int .i64 0, .string ⟨#[]⟩, .int .i64 0, .int .i64 0, .int .i64 0, .int .u64 0, .slice none 0 0] 49)
  have b2 := b1.alloc (by simp) (.cells #[.int .i64 0, .string ⟨#[]⟩, .int .i64 0, .int .i64 0, .int .i64 0, .int .u64 0, .slice none 0 0] 49)
  have HS0 := Lib.hid (show St w ((w.alloc (.cells #[.int .i64 0, .string ⟨#[]⟩, .int .i64 0, .int .i64 0, .int .i64 0, .int .u64 0, .slice none 0 0] 49)).alloc (.cells #[.int .i64 0, .string ⟨#[]⟩, .int .i64 0, .int .i64 0, .int .i64 0, .int .u64 0, .slice none 0 0] 49)) B g b i 49 w.heap.size (w.heap.size + 1) #[.int .i64 0, .string ⟨#[]⟩, .int .i64 0, .int .i64 0, .int .i64 0, .int .u64 0, .slice none 0 0] #[.int .i64 0, .string ⟨#[]⟩, .int .i64 0, .int .i64 0, .int .i64 0, .int .u64 0, .slice none 0 0] from
    ⟨h.below b2, (Is.new w _ _ rfl).alloc _, Is.new _ _ _ (by simp), hT.below b2, Nat.le_refl _, by omega, by omega, hg, lg, Law.Touch.of_below b2 _⟩)
  clear b1 b2 h hT
  by_cases h1 : at_ b i % 11 = 1
  · have hO : opAt b i = ⟨at_ b i % 11, userB (at_ b (i + 1)), at_ b (i + 2) % 4, at_ b (i + 3) % 11, at_ b (i + 4) % 10, longI (at_ b (i + 5)), []⟩ := by unfold opAt;  rw [if_pos h1]
    have hL : opLen b i = 6 := by unfold opLen;  rw [if_pos h1]
    rw [h1] at hO
    rw [hL] at hk
    subst hk
    have HX := Lib.hid (hO.symm.trans hX)
    clear hO hX hL
    go_enter Tryd.func36, Tryd.ntmps36
    go_wp2_with fail
    generalize (w.alloc (.cells #[.int .i64 0, .string ⟨#[]⟩, .int .i64 0, .int .i64 0, .int .i64 0, .int .u64 0, .slice none 0 0] 49)).alloc (.cells #[.int .i64 0, .string ⟨#[]⟩, .int .i64 0, .int .i64 0, .int .i64 0, .int .u64 0, .slice none 0 0] 49) = w1 at *
    refine Calls.mono (left HS0.out.rd 11 (by decide) h1) ?_
    rintro e wa0 ⟨rfl, r0, t0⟩
    have HC0 := Lib.hid (HS0.out.call r0 t0)
    clear r0 t0 HS0
    have c0 : wa0.cell? ⟨w.heap.size + 1, 0, none⟩ = some (.int .i64 0) := HC0.out.loc.cell' rfl
    have f0 := HC0.out.loc.frozen 0
    have l0 := HC0.out.loc.lt
    have HD0 := Lib.hid (HC0.out.store 0 (.int .i64 (1)) (cs' := #[.int .i64 (1), .string ⟨#[]⟩, .int .i64 0, .int .i64 0, .int .i64 0, .int .u64 0, .slice none 0 0]) rfl)
    go_wp2_with fail
    generalize wa0.setCell ⟨w.heap.size + 1, 0, none⟩ (.int .i64 (1)) = wb0 at *
    clear c0 f0 l0 HC0
    refine Calls.mono (user HD0.out.rd HD0.out.tabs hg rfl) ?_
    rintro e wa1 ⟨rfl, r1, t1⟩
    have HC1 := Lib.hid (HD0.out.call r1 t1)
    clear r1 t1 HD0
    have c1 : wa1.cell? ⟨w.heap.size + 1, 1, none⟩ = some (.string ⟨#[]⟩) := HC1.out.loc.cell' rfl
    have f1 := HC1.out.loc.frozen 1
    have l1 := HC1.out.loc.lt
    have HD1 := Lib.hid (HC1.out.store 1 (.string (userB (at_ b (i + 1)))) (cs' := #[.int .i64 (1), .string (userB (at_ b (i + 1))), .int .i64 0, .int .i64 0, .int .i64 0, .int .u64 0, .slice none 0 0]) rfl)
    have kf := HD1.out.loc.cell' (i := 0) (v := .int .i64 (1)) rfl
    have kl := HD1.out.loc.lt
    go_wp2_with fail
    generalize wa1.setCell ⟨w.heap.size + 1, 1, none⟩ (.string (userB (at_ b (i + 1)))) = wb1 at *
    clear c1 f1 l1 HC1
    clear kf kl
    refine Calls.mono (left HD1.out.rd 4 (by decide) rfl) ?_
    rintro e wa2 ⟨rfl, r2, t2⟩
    have HC2 := Lib.hid (HD1.out.call r2 t2)
    clear r2 t2 HD1
    have c2 : wa2.cell? ⟨w.heap.size + 1, 2, none⟩ = some (.int .i64 0) := HC2.out.loc.cell' rfl
    have f2 := HC2.out.loc.frozen 2
    have l2 := HC2.out.loc.lt
    have HD2 := Lib.hid (HC2.out.store 2 (.int .i64 (at_ b (i + 2) % 4)) (cs' := #[.int .i64 (1), .string (userB (at_ b (i + 1))), .int .i64 (at_ b (i + 2) % 4), .int .i64 0, .int .i64 0, .int .u64 0, .slice none 0 0]) rfl)
    go_wp2_with fail
    generalize wa2.setCell ⟨w.heap.size + 1, 2, none⟩ (.int .i64 (at_ b (i + 2) % 4)) = wb2 at *
    clear c2 f2 l2 HC2
    refine Calls.mono (left HD2.out.rd 11 (by decide) rfl) ?_
    rintro e wa3 ⟨rfl, r3, t3⟩
    have HC3 := Lib.hid (HD2.out.call r3 t3)
    clear r3 t3 HD2
    have c3 : wa3.cell? ⟨w.heap.size + 1, 3, none⟩ = some (.int .i64 0) := HC3.out.loc.cell' rfl
    have f3 := HC3.out.loc.frozen 3
    have l3 := HC3.out.loc.lt
    have HD3 := Lib.hid (HC3.out.store 3 (.int .i64 (at_ b (i + 3) % 11)) (cs' := #[.int .i64 (1), .string (userB (at_ b (i + 1))), .int .i64 (at_ b (i + 2) % 4), .int .i64 (at_ b (i + 3) % 11), .int .i64 0, .int .u64 0, .slice none 0 0]) rfl)
    go_wp2_with fail
    generalize wa3.setCell ⟨w.heap.size + 1, 3, none⟩ (.int .i64 (at_ b (i + 3) % 11)) = wb3 at *
    clear c3 f3 l3 HC3
    refine Calls.mono (left HD3.out.rd 10 (by decide) rfl) ?_
    rintro e wa4 ⟨rfl, r4, t4⟩
    have HC4 := Lib.hid (HD3.out.call r4 t4)
    clear r4 t4 HD3
    have c4 : wa4.cell? ⟨w.heap.size + 1, 4, none⟩ = some (.int .i64 0) := HC4.out.loc.cell' rfl
    have f4 := HC4.out.loc.frozen 4
    have l4 := HC4.out.loc.lt
    have HD4 := Lib.hid (HC4.out.store 4 (.int .i64 (at_ b (i + 4) % 10)) (cs' := #[.int .i64 (1), .string (userB (at_ b (i + 1))), .int .i64 (at_ b (i + 2) % 4), .int .i64 (at_ b (i + 3) % 11), .int .i64 (at_ b (i + 4) % 10), .int .u64 0, .slice none 0 0]) rfl)
    go_wp2_with fail
    generalize wa4.setCell ⟨w.heap.size + 1, 4, none⟩ (.int .i64 (at_ b (i + 4) % 10)) = wb4 at *
    clear c4 f4 l4 HC4
    refine Calls.mono (long HD4.out.rd rfl) ?_
    rintro e wa5 ⟨rfl, r5, t5⟩
    have HC5 := Lib.hid (HD4.out.call r5 t5)
    clear r5 t5 HD4
    have c5 : wa5.cell? ⟨w.heap.size + 1, 5, none⟩ = some (.int .u64 0) := HC5.out.loc.cell' rfl
    have f5 := HC5.out.loc.frozen 5
    have l5 := HC5.out.loc.lt
    have HD5 := Lib.hid (HC5.out.store 5 (.int .u64 (longI (at_ b (i + 5)))) (cs' := #[.int .i64 (1), .string (userB (at_ b (i + 1))), .int .i64 (at_ b (i + 2) % 4), .int .i64 (at_ b (i + 3) % 11), .int .i64 (at_ b (i + 4) % 10), .int .u64 (longI (at_ b (i + 5))), .slice none 0 0]) rfl)
    have x0 := HD5.out.loc.cell' (i := 0) (v := .int .i64 (1)) rfl
    have x1 := HD5.out.loc.cell' (i := 1) (v := .string (userB (at_ b (i + 1)))) rfl
    have x2 := HD5.out.loc.cell' (i := 2) (v := .int .i64 (at_ b (i + 2) % 4)) rfl
    have x3 := HD5.out.loc.cell' (i := 3) (v := .int .i64 (at_ b (i + 3) % 11)) rfl
    have x4 := HD5.out.loc.cell' (i := 4) (v := .int .i64 (at_ b (i + 4) % 10)) rfl
    have x5 := HD5.out.loc.cell' (i := 5) (v := .int .u64 (longI (at_ b (i + 5)))) rfl
    have x6 := HD5.out.loc.cell' (i := 6) (v := .slice none 0 0) rfl
    have lx := HD5.out.loc.lt
    have ly := HD5.out.res.lt
    have hne := HD5.out.rh
    have y0 := HD5.out.res.cell' (i := 0) (v := .int .i64 0) rfl
    have y1 := HD5.out.res.cell' (i := 1) (v := .string ⟨#[]⟩) rfl
    have y2 := HD5.out.res.cell' (i := 2) (v := .int .i64 0) rfl
    have y3 := HD5.out.res.cell' (i := 3) (v := .int .i64 0) rfl
    have y4 := HD5.out.res.cell' (i := 4) (v := .int .i64 0) rfl
    have y5 := HD5.out.res.cell' (i := 5) (v := .int .u64 0) rfl
    have y6 := HD5.out.res.cell' (i := 6) (v := .slice none 0 0) rfl
    have z0 := HD5.out.res.frozen 0
    have z1 := HD5.out.res.frozen 1
    have z2 := HD5.out.res.frozen 2
    have z3 := HD5.out.res.frozen 3
    have z4 := HD5.out.res.frozen 4
    have z5 := HD5.out.res.frozen 5
    have z6 := HD5.out.res.frozen 6
    have HK9 := Lib.hid HC5.out.loc
    have HF := Lib.hid (HD5.out.fin rfl (.int .i64 (1)) (.string (userB (at_ b (i + 1)))) (.int .i64 (at_ b (i + 2) % 4)) (.int .i64 (at_ b (i + 3) % 11)) (.int .i64 (at_ b (i + 4) % 10)) (.int .u64 (longI (at_ b (i + 5)))) (.slice none 0 0))
    go_wp2_with fail
    clear x0 y0 z0 x1 y1 z1 x2 y2 z2 x3 y3 z3 x4 y4 z4 x5 y5 z5 x6 y6 z6
    obtain ⟨rd9, res9, t9, ke9⟩ := HF.out
    have KE9 := Lib.hid ke9
    clear ke9
    clear HF
    have H9 := Lib.hid rd9
    have T9 := Lib.hid t9
    have n0 := res9.cell' (i := 0) (v := .int .i64 (1)) rfl
    have n1 := res9.cell' (i := 1) (v := .string (userB (at_ b (i + 1)))) rfl
    have n2 := res9.cell' (i := 2) (v := .int .i64 (at_ b (i + 2) % 4)) rfl
    have n3 := res9.cell' (i := 3) (v := .int .i64 (at_ b (i + 3) % 11)) rfl
    have n4 := res9.cell' (i := 4) (v := .int .i64 (at_ b (i + 4) % 10)) rfl
    have n5 := res9.cell' (i := 5) (v := .int .u64 (longI (at_ b (i + 5)))) rfl
    have n6 := res9.cell' (i := 6) (v := .slice none 0 0) rfl
    clear rd9 t9 res9
    exact bodyPost_ret (v := .agg #[.int .i64 (1), .string (userB (at_ b (i + 1))), .int .i64 (at_ b (i + 2) % 4), .int .i64 (at_ b (i + 3) % 11), .int .i64 (at_ b (i + 4) % 10), .int .u64 (longI (at_ b (i + 5))), .slice none 0 0]) (by simp [results, Tryd.results36, go_sem, n0 ,n1 ,n2 ,n3 ,n4 ,n5 ,n6]) rfl ⟨⟨_, _, _, _, _, _, none, 0, []⟩, rfl, by rw [← HX.out]; rfl, Nat.le_refl _, Lain.nil, H9.out, T9.out⟩
  by_cases h2 : at_ b i % 11 = 2
  · have hO : opAt b i = ⟨at_ b i % 11, userB (at_ b (i + 1)), at_ b (i + 2) % 4, 0, 0, longI (at_ b (i + 3)), []⟩ := by unfold opAt; rw [if_neg (by omega)]; rw [if_pos h2]
    have hL : opLen b i = 4 := by unfold opLen; rw [if_neg (by omega)]; rw [if_pos h2]
    rw [h2] at hO
    rw [hL] at hk
    subst hk
    have HX := Lib.hid (hO.symm.trans hX)
    clear hO hX hL
    go_enter Tryd.func36, Tryd.ntmps36
    go_wp2_with fail
    generalize (w.alloc (.cells #[.int .i64 0, .string ⟨#[]⟩, .int .i64 0, .int .i64 0, .int .i64 0, .int .u64 0, .slice none 0 0] 49)).alloc (.cells #[.int .i64 0, .string ⟨#[]⟩, .int .i64 0, .int .i64 0, .int .i64 0, .int .u64 0, .slice none 0 0] 49) = w1 at *
    refine Calls.mono (left HS0.out.rd 11 (by decide) h2) ?_
    rintro e wa0 ⟨rfl, r0, t0⟩
    have HC0 := Lib.hid (HS0.out.call r0 t0)
    clear r0 t0 HS0
    have c0 : wa0.cell? ⟨w.heap.size + 1, 0, none⟩ = some (.int .i64 0) := HC0.out.loc.cell' rfl
    have f0 := HC0.out.loc.frozen 0
    have l0 := HC0.out.loc.lt
    have HD0 := Lib.hid (HC0.out.store 0 (.int .i64 (2)) (cs' := #[.int .i64 (2), .string ⟨#[]⟩, .int .i64 0, .int .i64 0, .int .i64 0, .int .u64 0, .slice none 0 0]) rfl)
    go_wp2_with fail
    generalize wa0.setCell ⟨w.heap.size + 1, 0, none⟩ (.int .i64 (2)) = wb0 at *
    clear c0 f0 l0 HC0
    refine Calls.mono (user HD0.out.rd HD0.out.tabs hg rfl) ?_
    rintro e wa1 ⟨rfl, r1, t1⟩
    have HC1 := Lib.hid (HD0.out.call r1 t1)
    clear r1 t1 HD0
    have c1 : wa1.cell? ⟨w.heap.size + 1, 1, none⟩ = some (.string ⟨#[]⟩) := HC1.out.loc.cell' rfl
    have f1 := HC1.out.loc.frozen 1
    have l1 := HC1.out.loc.lt
    have HD1 := Lib.hid (HC1.out.store 1 (.string (userB (at_ b (i + 1)))) (cs' := #[.int .i64 (2), .string (userB (at_ b (i + 1))), .int .i64 0, .int .i64 0, .int .i64 0, .int .u64 0, .slice none 0 0]) rfl)
    have kf := HD1.out.loc.cell' (i := 0) (v := .int .i64 (2)) rfl
    have kl := HD1.out.loc.lt
    go_wp2_with fail
    generalize wa1.setCell ⟨w.heap.size + 1, 1, none⟩ (.string (userB (at_ b (i + 1)))) = wb1 at *
    clear c1 f1 l1 HC1
    clear kf kl
    refine Calls.mono (left HD1.out.rd 4 (by decide) rfl) ?_
    rintro e wa2 ⟨rfl, r2, t2⟩
    have HC2 := Lib.hid (HD1.out.call r2 t2)
    clear r2 t2 HD1
    have c2 : wa2.cell? ⟨w.heap.size + 1, 2, none⟩ = some (.int .i64 0) := HC2.out.loc.cell' rfl
    have f2 := HC2.out.loc.frozen 2
    have l2 := HC2.out.loc.lt
    have HD2 := Lib.hid (HC2.out.store 2 (.int .i64 (at_ b (i + 2) % 4)) (cs' := #[.int .i64 (2), .string (userB (at_ b (i + 1))), .int .i64 (at_ b (i + 2) % 4), .int .i64 0, .int .i64 0, .int .u64 0, .slice none 0 0]) rfl)
    go_wp2_with fail
    generalize wa2.setCell ⟨w.heap.size + 1, 2, none⟩ (.int .i64 (at_ b (i + 2) % 4)) = wb2 at *
    clear c2 f2 l2 HC2
    refine Calls.mono (long HD2.out.rd rfl) ?_
    rintro e wa3 ⟨rfl, r3, t3⟩
    have HC3 := Lib.hid (HD2.out.call r3 t3)
    clear r3 t3 HD2
    have c3 : wa3.cell? ⟨w.heap.size + 1, 5, none⟩ = some (.int .u64 0) := HC3.out.loc.cell' rfl
    have f3 := HC3.out.loc.frozen 5
    have l3 := HC3.out.loc.lt
    have HD3 := Lib.hid (HC3.out.store 5 (.int .u64 (longI (at_ b (i + 3)))) (cs' := #[.int .i64 (2), .string (userB (at_ b (i + 1))), .int .i64 (at_ b (i + 2) % 4), .int .i64 0, .int .i64 0, .int .u64 (longI (at_ b (i + 3))), .slice none 0 0]) rfl)
    have x0 := HD3.out.loc.cell' (i := 0) (v := .int .i64 (2)) rfl
    have x1 := HD3.out.loc.cell' (i := 1) (v := .string (userB (at_ b (i + 1)))) rfl
    have x2 := HD3.out.loc.cell' (i := 2) (v := .int .i64 (at_ b (i + 2) % 4)) rfl
    have x3 := HD3.out.loc.cell' (i := 3) (v := .int .i64 0) rfl
    have x4 := HD3.out.loc.cell' (i := 4) (v := .int .i64 0) rfl
    have x5 := HD3.out.loc.cell' (i := 5) (v := .int .u64 (longI (at_ b (i + 3)))) rfl
    have x6 := HD3.out.loc.cell' (i := 6) (v := .slice none 0 0) rfl
    have lx := HD3.out.loc.lt
    have ly := HD3.out.res.lt
    have hne := HD3.out.rh
    have y0 := HD3.out.res.cell' (i := 0) (v := .int .i64 0) rfl
    have y1 := HD3.out.res.cell' (i := 1) (v := .string ⟨#[]⟩) rfl
    have y2 := HD3.out.res.cell' (i := 2) (v := .int .i64 0) rfl
    have y3 := HD3.out.res.cell' (i := 3) (v := .int .i64 0) rfl
    have y4 := HD3.out.res.cell' (i := 4) (v := .int .i64 0) rfl
    have y5 := HD3.out.res.cell' (i := 5) (v := .int .u64 0) rfl
    have y6 := HD3.out.res.cell' (i := 6) (v := .slice none 0 0) rfl
    have z0 := HD3.out.res.frozen 0
    have z1 := HD3.out.res.frozen 1
    have z2 := HD3.out.res.frozen 2
    have z3 := HD3.out.res.frozen 3
    have z4 := HD3.out.res.frozen 4
    have z5 := HD3.out.res.frozen 5
    have z6 := HD3.out.res.frozen 6
    have HK9 := Lib.hid HC3.out.loc
    have HF := Lib.hid (HD3.out.fin rfl (.int .i64 (2)) (.string (userB (at_ b (i + 1)))) (.int .i64 (at_ b (i + 2) % 4)) (.int .i64 0) (.int .i64 0) (.int .u64 (longI (at_ b (i + 3)))) (.slice none 0 0))
    go_wp2_with fail
    clear x0 y0 z0 x1 y1 z1 x2 y2 z2 x3 y3 z3 x4 y4 z4 x5 y5 z5 x6 y6 z6
    obtain ⟨rd9, res9, t9, ke9⟩ := HF.out
    have KE9 := Lib.hid ke9
    clear ke9
    clear HF
    have H9 := Lib.hid rd9
    have T9 := Lib.hid t9
    have n0 := res9.cell' (i := 0) (v := .int .i64 (2)) rfl
    have n1 := res9.cell' (i := 1) (v := .string (userB (at_ b (i + 1)))) rfl
    have n2 := res9.cell' (i := 2) (v := .int .i64 (at_ b (i + 2) % 4)) rfl
    have n3 := res9.cell' (i := 3) (v := .int .i64 0) rfl
    have n4 := res9.cell' (i := 4) (v := .int .i64 0) rfl
    have n5 := res9.cell' (i := 5) (v := .int .u64 (longI (at_ b (i + 3)))) rfl
    have n6 := res9.cell' (i := 6) (v := .slice none 0 0) rfl
    clear rd9 t9 res9
    exact bodyPost_ret (v := .agg #[.int .i64 (2), .string (userB (at_ b (i + 1))), .int .i64 (at_ b (i + 2) % 4), .int .i64 0, .int .i64 0, .int .u64 (longI (at_ b (i + 3))), .slice none 0 0]) (by simp [results, Tryd.results36, go_sem, n0 ,n1 ,n2 ,n3 ,n4 ,n5 ,n6]) rfl ⟨⟨_, _, _, _, _, _, none, 0, []⟩, rfl, by rw [← HX.out]; rfl, Nat.le_refl _, Lain.nil, H9.out, T9.out⟩
  by_cases h3 : at_ b i % 11 = 3
  · have hO : opAt b i = ⟨at_ b i % 11, userB (at_ b (i + 1)), at_ b (i + 2) % 4, 0, 0, 0, []⟩ := by unfold opAt; rw [if_neg (by omega)]; rw [if_neg (by omega)]; rw [if_pos h3]
    have hL : opLen b i = 3 := by unfold opLen; rw [if_neg (by omega)]; rw [if_neg (by omega)]; rw [if_pos h3]
    rw [h3] at hO
    rw [hL] at hk
    subst hk
    have HX := Lib.hid (hO.symm.trans hX)
    clear hO hX hL
    go_enter Tryd.func36, Tryd.ntmps36
    go_wp2_with fail
    generalize (w.alloc (.cells #[.int .i64 0, .string ⟨#[]⟩, .int .i64 0, .int .i64 0, .int .i64 0, .int .u64 0, .slice none 0 0] 49)).alloc (.cells #[.int .i64 0, .string ⟨#[]⟩, .int .i64 0, .int .i64 0, .int .i64 0, .int .u64 0, .slice none 0 0] 49) = w1 at *
    refine Calls.mono (left HS0.out.rd 11 (by decide) h3) ?_
    rintro e wa0 ⟨rfl, r0, t0⟩
    have HC0 := Lib.hid (HS0.out.call r0 t0)
    clear r0 t0 HS0
    have c0 : wa0.cell? ⟨w.heap.size + 1, 0, none⟩ = some (.int .i64 0) := HC0.out.loc.cell' rfl
    have f0 := HC0.out.loc.frozen 0
    have l0 := HC0.out.loc.lt
    have HD0 := Lib.hid (HC0.out.store 0 (.int .i64 (3)) (cs' := #[.int .i64 (3), .string ⟨#[]⟩, .int .i64 0, .int .i64 0, .int .i64 0, .int .u64 0, .slice none 0 0]) rfl)
    go_wp2_with fail
    generalize wa0.setCell ⟨w.heap.size + 1, 0, none⟩ (.int .i64 (3)) = wb0 at *
    clear c0 f0 l0 HC0
    refine Calls.mono (user HD0.out.rd HD0.out.tabs hg rfl) ?_
    rintro e wa1 ⟨rfl, r1, t1⟩
    have HC1 := Lib.hid (HD0.out.call r1 t1)
    clear r1 t1 HD0
    have c1 : wa1.cell? ⟨w.heap.size + 1, 1, none⟩ = some (.string ⟨#[]⟩) := HC1.out.loc.cell' rfl
    have f1 := HC1.out.loc.frozen 1
    have l1 := HC1.out.loc.lt
    have HD1 := Lib.hid (HC1.out.store 1 (.string (userB (at_ b (i + 1)))) (cs' := #[.int .i64 (3), .string (userB (at_ b (i + 1))), .int .i64 0, .int .i64 0, .int .i64 0, .int .u64 0, .slice none 0 0]) rfl)
    have kf := HD1.out.loc.cell' (i := 0) (v := .int .i64 (3)) rfl
    have kl := HD1.out.loc.lt
    go_wp2_with fail
    generalize wa1.setCell ⟨w.heap.size + 1, 1, none⟩ (.string (userB (at_ b (i + 1)))) = wb1 at *
    clear c1 f1 l1 HC1
    clear kf kl
    refine Calls.mono (left HD1.out.rd 4 (by decide) rfl) ?_
    rintro e wa2 ⟨rfl, r2, t2⟩
    have HC2 := Lib.hid (HD1.out.call r2 t2)
    clear r2 t2 HD1
    have c2 : wa2.cell? ⟨w.heap.size + 1, 2, none⟩ = some (.int .i64 0) := HC2.out.loc.cell' rfl
    have f2 := HC2.out.loc.frozen 2
    have l2 := HC2.out.loc.lt
    have HD2 := Lib.hid (HC2.out.store 2 (.int .i64 (at_ b (i + 2) % 4)) (cs' := #[.int .i64 (3), .string (userB (at_ b (i + 1))), .int .i64 (at_ b (i + 2) % 4), .int .i64 0, .int .i64 0, .int .u64 0, .slice none 0 0]) rfl)
    have x0 := HD2.out.loc.cell' (i := 0) (v := .int .i64 (3)) rfl
    have x1 := HD2.out.loc.cell' (i := 1) (v := .string (userB (at_ b (i + 1)))) rfl
    have x2 := HD2.out.loc.cell' (i := 2) (v := .int .i64 (at_ b (i + 2) % 4)) rfl
    have x3 := HD2.out.loc.cell' (i := 3) (v := .int .i64 0) rfl
    have x4 := HD2.out.loc.cell' (i := 4) (v := .int .i64 0) rfl
    have x5 := HD2.out.loc.cell' (i := 5) (v := .int .u64 0) rfl
    have x6 := HD2.out.loc.cell' (i := 6) (v := .slice none 0 0) rfl
    have lx := HD2.out.loc.lt
    have ly := HD2.out.res.lt
    have hne := HD2.out.rh
    have y0 := HD2.out.res.cell' (i := 0) (v := .int .i64 0) rfl
    have y1 := HD2.out.res.cell' (i := 1) (v := .string ⟨#[]⟩) rfl
    have y2 := HD2.out.res.cell' (i := 2) (v := .int .i64 0) rfl
    have y3 := HD2.out.res.cell' (i := 3) (v := .int .i64 0) rfl
    have y4 := HD2.out.res.cell' (i := 4) (v := .int .i64 0) rfl
    have y5 := HD2.out.res.cell' (i := 5) (v := .int .u64 0) rfl
    have y6 := HD2.out.res.cell' (i := 6) (v := .slice none 0 0) rfl
    have z0 := HD2.out.res.frozen 0
    have z1 := HD2.out.res.frozen 1
    have z2 := HD2.out.res.frozen 2
    have z3 := HD2.out.res.frozen 3
    have z4 := HD2.out.res.frozen 4
    have z5 := HD2.out.res.frozen 5
    have z6 := HD2.out.res.frozen 6
    have HK9 := Lib.hid HC2.out.loc
    have HF := Lib.hid (HD2.out.fin rfl (.int .i64 (3)) (.string (userB (at_ b (i + 1)))) (.int .i64 (at_ b (i + 2) % 4)) (.int .i64 0) (.int .i64 0) (.int .u64 0) (.slice none 0 0))
    go_wp2_with fail
    clear x0 y0 z0 x1 y1 z1 x2 y2 z2 x3 y3 z3 x4 y4 z4 x5 y5 z5 x6 y6 z6
    obtain ⟨rd9, res9, t9, ke9⟩ := HF.out
    have KE9 := Lib.hid ke9
    clear ke9
    clear HF
    have H9 := Lib.hid rd9
    have T9 := Lib.hid t9
    have n0 := res9.cell' (i := 0) (v := .int .i64 (3)) rfl
    have n1 := res9.cell' (i := 1) (v := .string (userB (at_ b (i + 1)))) rfl
    have n2 := res9.cell' (i := 2) (v := .int .i64 (at_ b (i + 2) % 4)) rfl
    have n3 := res9.cell' (i := 3) (v := .int .i64 0) rfl
    have n4 := res9.cell' (i := 4) (v := .int .i64 0) rfl
    have n5 := res9.cell' (i := 5) (v := .int .u64 0) rfl
    have n6 := res9.cell' (i := 6) (v := .slice none 0 0) rfl
    clear rd9 t9 res9
    exact bodyPost_ret (v := .agg #[.int .i64 (3), .string (userB (at_ b (i + 1))), .int .i64 (at_ b (i + 2) % 4), .int .i64 0, .int .i64 0, .int .u64 0, .slice none 0 0]) (by simp [results, Tryd.results36, go_sem, n0 ,n1 ,n2 ,n3 ,n4 ,n5 ,n6]) rfl ⟨⟨_, _, _, _, _, _, none, 0, []⟩, rfl, by rw [← HX.out]; rfl, Nat.le_refl _, Lain.nil, H9.out, T9.out⟩
  by_cases h5 : at_ b i % 11 = 5
  · have hO : opAt b i = ⟨at_ b i % 11, userB (at_ b (i + 1)), 0, 0, 0, 0, usersAt b (i + 3) (at_ b (i + 2) % 10).toNat⟩ := by unfold opAt; rw [if_neg (by omega)]; rw [if_neg (by omega)]; rw [if_neg (by omega)]; rw [if_pos h5]
    have hL : opLen b i = 3 + (at_ b (i + 2) % 10).toNat := by unfold opLen; rw [if_neg (by omega)]; rw [if_neg (by omega)]; rw [if_neg (by omega)]; rw [if_pos h5]
    rw [h5] at hO
    obtain ⟨n, hn⟩ : ∃ n, (at_ b (i + 2) % 10).toNat = n := ⟨_, rfl⟩
    rw [hn] at hO hL
    rw [hL] at hk
    subst hk
    have HX := Lib.hid (hO.symm.trans hX)
    clear hO hX hL
    go_enter Tryd.func36, Tryd.ntmps36
    go_wp2_with fail
    generalize (w.alloc (.cells #[.int .i64 0, .string ⟨#[]⟩, .int .i64 0, .int .i64 0, .int .i64 0, .int .u64 0, .slice none 0 0] 49)).alloc (.cells #[.int .i64 0, .string ⟨#[]⟩, .int .i64 0, .int .i64 0, .int .i64 0, .int .u64 0, .slice none 0 0] 49) = w1 at *
    refine Calls.mono (left HS0.out.rd 11 (by decide) h5) ?_
    rintro e wa0 ⟨rfl, r0, t0⟩
    have HC0 := Lib.hid (HS0.out.call r0 t0)
    clear r0 t0 HS0
    have c0 : wa0.cell? ⟨w.heap.size + 1, 0, none⟩ = some (.int .i64 0) := HC0.out.loc.cell' rfl
    have f0 := HC0.out.loc.frozen 0
    have l0 := HC0.out.loc.lt
    have HD0 := Lib.hid (HC0.out.store 0 (.int .i64 (5)) (cs' := #[.int .i64 (5), .string ⟨#[]⟩, .int .i64 0, .int .i64 0, .int .i64 0, .int .u64 0, .slice none 0 0]) rfl)
    go_wp2_with fail
    generalize wa0.setCell ⟨w.heap.size + 1, 0, none⟩ (.int .i64 (5)) = wb0 at *
    clear c0 f0 l0 HC0
    refine Calls.mono (user HD0.out.rd HD0.out.tabs hg rfl) ?_
    rintro e wa1 ⟨rfl, r1, t1⟩
    have HC1 := Lib.hid (HD0.out.call r1 t1)
    clear r1 t1 HD0
    have c1 : wa1.cell? ⟨w.heap.size + 1, 1, none⟩ = some (.string ⟨#[]⟩) := HC1.out.loc.cell' rfl
    have f1 := HC1.out.loc.frozen 1
    have l1 := HC1.out.loc.lt
    have HD1 := Lib.hid (HC1.out.store 1 (.string (userB (at_ b (i + 1)))) (cs' := #[.int .i64 (5), .string (userB (at_ b (i + 1))), .int .i64 0, .int .i64 0, .int .i64 0, .int .u64 0, .slice none 0 0]) rfl)
    have kf := HD1.out.loc.cell' (i := 0) (v := .int .i64 (5)) rfl
    have kl := HD1.out.loc.lt
    go_wp2_with fail
    generalize wa1.setCell ⟨w.heap.size + 1, 1, none⟩ (.string (userB (at_ b (i + 1)))) = wb1 at *
    clear c1 f1 l1 HC1
    clear kf kl
    refine Calls.mono (users HD1.out.rd HD1.out.tabs hg hn) ?_
    rintro e wa2 ⟨D, c, rfl, hc9, hS9, r2, t2⟩
    have HS9 := Lib.hid hS9
    clear hS9
    have HC2 := Lib.hid (HD1.out.call r2 t2)
    clear r2 t2 HD1
    have c2 : wa2.cell? ⟨w.heap.size + 1, 6, none⟩ = some (.slice none 0 0) := HC2.out.loc.cell' rfl
    have f2 := HC2.out.loc.frozen 6
    have l2 := HC2.out.loc.lt
    have HD2 := Lib.hid (HC2.out.store 6 (.slice D n c) (cs' := #[.int .i64 (5), .string (userB (at_ b (i + 1))), .int .i64 0, .int .i64 0, .int .i64 0, .int .u64 0, .slice D n c]) rfl)
    have x0 := HD2.out.loc.cell' (i := 0) (v := .int .i64 (5)) rfl
    have x1 := HD2.out.loc.cell' (i := 1) (v := .string (userB (at_ b (i + 1)))) rfl
    have x2 := HD2.out.loc.cell' (i := 2) (v := .int .i64 0) rfl
    have x3 := HD2.out.loc.cell' (i := 3) (v := .int .i64 0) rfl
    have x4 := HD2.out.loc.cell' (i := 4) (v := .int .i64 0) rfl
    have x5 := HD2.out.loc.cell' (i := 5) (v := .int .u64 0) rfl
    have x6 := HD2.out.loc.cell' (i := 6) (v := .slice D n c) rfl
    have lx := HD2.out.loc.lt
    have ly := HD2.out.res.lt
    have hne := HD2.out.rh
    have y0 := HD2.out.res.cell' (i := 0) (v := .int .i64 0) rfl
    have y1 := HD2.out.res.cell' (i := 1) (v := .string ⟨#[]⟩) rfl
    have y2 := HD2.out.res.cell' (i := 2) (v := .int .i64 0) rfl
    have y3 := HD2.out.res.cell' (i := 3) (v := .int .i64 0) rfl
    have y4 := HD2.out.res.cell' (i := 4) (v := .int .i64 0) rfl
    have y5 := HD2.out.res.cell' (i := 5) (v := .int .u64 0) rfl
    have y6 := HD2.out.res.cell' (i := 6) (v := .slice none 0 0) rfl
    have z0 := HD2.out.res.frozen 0
    have z1 := HD2.out.res.frozen 1
    have z2 := HD2.out.res.frozen 2
    have z3 := HD2.out.res.frozen 3
    have z4 := HD2.out.res.frozen 4
    have z5 := HD2.out.res.frozen 5
    have z6 := HD2.out.res.frozen 6
    have HK9 := Lib.hid HC2.out.loc
    have HF := Lib.hid (HD2.out.fin rfl (.int .i64 (5)) (.string (userB (at_ b (i + 1)))) (.int .i64 0) (.int .i64 0) (.int .i64 0) (.int .u64 0) (.slice D n c))
    go_wp2_with fail
    clear x0 y0 z0 x1 y1 z1 x2 y2 z2 x3 y3 z3 x4 y4 z4 x5 y5 z5 x6 y6 z6
    obtain ⟨rd9, res9, t9, ke9⟩ := HF.out
    have KE9 := Lib.hid ke9
    clear ke9
    clear HF
    have H9 := Lib.hid rd9
    have T9 := Lib.hid t9
    have n0 := res9.cell' (i := 0) (v := .int .i64 (5)) rfl
    have n1 := res9.cell' (i := 1) (v := .string (userB (at_ b (i + 1)))) rfl
    have n2 := res9.cell' (i := 2) (v := .int .i64 0) rfl
    have n3 := res9.cell' (i := 3) (v := .int .i64 0) rfl
    have n4 := res9.cell' (i := 4) (v := .int .i64 0) rfl
    have n5 := res9.cell' (i := 5) (v := .int .u64 0) rfl
    have n6 := res9.cell' (i := 6) (v := .slice D n c) rfl
    clear rd9 t9 res9
    exact bodyPost_ret (v := .agg #[.int .i64 (5), .string (userB (at_ b (i + 1))), .int .i64 0, .int .i64 0, .int .i64 0, .int .u64 0, .slice D n c]) (by simp [results, Tryd.results36, go_sem, n0 ,n1 ,n2 ,n3 ,n4 ,n5 ,n6]) rfl ⟨⟨5, userB (at_ b (i + 1)), 0, 0, 0, 0, D, c, usersAt b (i + 3) n⟩, congrArg (fun z => Ending.returned (.agg #[.int .i64 5, .string (userB (at_ b (i + 1))), .int .i64 0, .int .i64 0, .int .i64 0, .int .u64 0, .slice D z c])) (usersAt_len b (i + 3) n).symm, by rw [← HX.out]; rfl, Nat.le_trans (Nat.le_of_eq (usersAt_len b (i + 3) n)) hc9, (HS9.out.keeps (Keeps.store HK9.out (by decide) _)).keeps (KE9.out 9 (by decide)), by rw [show i + (3 + n) = i + 1 + 1 + 1 + n by omega]; exact H9.out, T9.out⟩
  · have hO : opAt b i = ⟨at_ b i % 11, userB (at_ b (i + 1)), 0, 0, 0, 0, []⟩ := by unfold opAt; rw [if_neg h1, if_neg h2, if_neg h3, if_neg h5]
    have hL : opLen b i = 2 := by unfold opLen; rw [if_neg h1, if_neg h2, if_neg h3, if_neg h5]
    have g1 : (at_ b i % 11 == 1) = false := by simpa using h1
    have g2 : (at_ b i % 11 == 2) = false := by simpa using h2
    have g3 : (at_ b i % 11 == 3) = false := by simpa using h3
    have g5 : (at_ b i % 11 == 5) = false := by simpa using h5
    rw [hL] at hk
    subst hk
    have HX := Lib.hid (hO.symm.trans hX)
    clear hO hX hL
    go_enter Tryd.func36, Tryd.ntmps36
    go_wp2_with fail
    generalize (w.alloc (.cells #[.int .i64 0, .string ⟨#[]⟩, .int .i64 0, .int .i64 0, .int .i64 0, .int .u64 0, .slice none 0 0] 49)).alloc (.cells #[.int .i64 0, .string ⟨#[]⟩, .int .i64 0, .int .i64 0, .int .i64 0, .int .u64 0, .slice none 0 0] 49) = w1 at *
    refine Calls.mono (left HS0.out.rd 11 (by decide) rfl) ?_
    rintro e wa0 ⟨rfl, r0, t0⟩
    have HC0 := Lib.hid (HS0.out.call r0 t0)
    clear r0 t0 HS0
    have c0 : wa0.cell? ⟨w.heap.size + 1, 0, none⟩ = some (.int .i64 0) := HC0.out.loc.cell' rfl
    have f0 := HC0.out.loc.frozen 0
    have l0 := HC0.out.loc.lt
    have HD0 := Lib.hid (HC0.out.store 0 (.int .i64 (at_ b i % 11)) (cs' := #[.int .i64 (at_ b i % 11), .string ⟨#[]⟩, .int .i64 0, .int .i64 0, .int .i64 0, .int .u64 0, .slice none 0 0]) rfl)
    go_wp2_with fail
    generalize wa0.setCell ⟨w.heap.size + 1, 0, none⟩ (.int .i64 (at_ b i % 11)) = wb0 at *
    clear c0 f0 l0 HC0
    refine Calls.mono (user HD0.out.rd HD0.out.tabs hg rfl) ?_
    rintro e wa1 ⟨rfl, r1, t1⟩
    have HC1 := Lib.hid (HD0.out.call r1 t1)
    clear r1 t1 HD0
    have c1 : wa1.cell? ⟨w.heap.size + 1, 1, none⟩ = some (.string ⟨#[]⟩) := HC1.out.loc.cell' rfl
    have f1 := HC1.out.loc.frozen 1
    have l1 := HC1.out.loc.lt
    have HD1 := Lib.hid (HC1.out.store 1 (.string (userB (at_ b (i + 1)))) (cs' := #[.int .i64 (at_ b i % 11), .string (userB (at_ b (i + 1))), .int .i64 0, .int .i64 0, .int .i64 0, .int .u64 0, .slice none 0 0]) rfl)
    have x0 := HD1.out.loc.cell' (i := 0) (v := .int .i64 (at_ b i % 11)) rfl
    have x1 := HD1.out.loc.cell' (i := 1) (v := .string (userB (at_ b (i + 1)))) rfl
    have x2 := HD1.out.loc.cell' (i := 2) (v := .int .i64 0) rfl
    have x3 := HD1.out.loc.cell' (i := 3) (v := .int .i64 0) rfl
    have x4 := HD1.out.loc.cell' (i := 4) (v := .int .i64 0) rfl
    have x5 := HD1.out.loc.cell' (i := 5) (v := .int .u64 0) rfl
    have x6 := HD1.out.loc.cell' (i := 6) (v := .slice none 0 0) rfl
    have lx := HD1.out.loc.lt
    have ly := HD1.out.res.lt
    have hne := HD1.out.rh
    have y0 := HD1.out.res.cell' (i := 0) (v := .int .i64 0) rfl
    have y1 := HD1.out.res.cell' (i := 1) (v := .string ⟨#[]⟩) rfl
    have y2 := HD1.out.res.cell' (i := 2) (v := .int .i64 0) rfl
    have y3 := HD1.out.res.cell' (i := 3) (v := .int .i64 0) rfl
    have y4 := HD1.out.res.cell' (i := 4) (v := .int .i64 0) rfl
    have y5 := HD1.out.res.cell' (i := 5) (v := .int .u64 0) rfl
    have y6 := HD1.out.res.cell' (i := 6) (v := .slice none 0 0) rfl
    have z0 := HD1.out.res.frozen 0
    have z1 := HD1.out.res.frozen 1
    have z2 := HD1.out.res.frozen 2
    have z3 := HD1.out.res.frozen 3
    have z4 := HD1.out.res.frozen 4
    have z5 := HD1.out.res.frozen 5
    have z6 := HD1.out.res.frozen 6
    have HK9 := Lib.hid HC1.out.loc
    have HF := Lib.hid (HD1.out.fin rfl (.int .i64 (at_ b i % 11)) (.string (userB (at_ b (i + 1)))) (.int .i64 0) (.int .i64 0) (.int .i64 0) (.int .u64 0) (.slice none 0 0))
    go_wp2_with fail
    clear x0 y0 z0 x1 y1 z1 x2 y2 z2 x3 y3 z3 x4 y4 z4 x5 y5 z5 x6 y6 z6
    obtain ⟨rd9, res9, t9, ke9⟩ := HF.out
    have KE9 := Lib.hid ke9
    clear ke9
    clear HF
    have H9 := Lib.hid rd9
    have T9 := Lib.hid t9
    have n0 := res9.cell' (i := 0) (v := .int .i64 (at_ b i % 11)) rfl
    have n1 := res9.cell' (i := 1) (v := .string (userB (at_ b (i + 1)))) rfl
    have n2 := res9.cell' (i := 2) (v := .int .i64 0) rfl
    have n3 := res9.cell' (i := 3) (v := .int .i64 0) rfl
    have n4 := res9.cell' (i := 4) (v := .int .i64 0) rfl
    have n5 := res9.cell' (i := 5) (v := .int .u64 0) rfl
    have n6 := res9.cell' (i := 6) (v := .slice none 0 0) rfl
    clear rd9 t9 res9
    exact bodyPost_ret (v := .agg #[.int .i64 (at_ b i % 11), .string (userB (at_ b (i + 1))), .int .i64 0, .int .i64 0, .int .i64 0, .int .u64 0, .slice none 0 0]) (by simp [results, Tryd.results36, go_sem, n0 ,n1 ,n2 ,n3 ,n4 ,n5 ,n6]) rfl ⟨⟨_, _, _, _, _, _, none, 0, []⟩, rfl, by rw [← HX.out]; rfl, Nat.le_refl _, Lain.nil, H9.out, T9.out⟩
end Opx
end Go.Proofs.YtlkbfnpncomifaaDoor

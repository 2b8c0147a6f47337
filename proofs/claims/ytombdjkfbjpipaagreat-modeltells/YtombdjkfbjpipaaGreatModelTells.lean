/-
  What a Poll tells, one behind the other, of a user that a client watches all the while, goes on where it stopped, as long as nothing is lost; its numbers rise. For all lists of acts, no condition.
-/
import Derived.Test.YtombdjkfbjpipaaGreatMod22
namespace Go.Proofs.YtombdjkfbjpipaaGreat
open Go.RowKit Go.ChangeShapes Go.WideShapes Go.ChangeAt
namespace modelTells
open Feed Go.Law Bk Go.Proofs.YtombdjkfbjpipaaGreat.Mod
/-- the acts as they befall: client 7 only polls -/
def aim (q : AcM) : AcM := if q.who = 7 ∧ q.do_ % 3 = 0 then ⟨q.do_, q.who, pollOp, q.by_⟩ else q
def start : Mo := ((Mo.new small).do_ 7 exW).1
theorem start_ok : start.Ok 1 := do_ok new_small_ok 7 exW
theorem act_poll (a : Mo) (d by_ : Int) (h : d % 3 = 0) : a.act ⟨d, 7, pollOp, by_⟩ = a.do_ 7 pollOp := by
  unfold Mo.act
  rw [if_neg (by show ¬ d % 3 = 1; omega), if_neg (by show ¬ d % 3 = 2; omega)]
/-- a store into a block of another kind that is not the table's -/
theorem live_put {w0 w : World} {base m : Nat} {S : Nat → Prop} {a : Mo} (h : Live w0 w base S m a) {v i : Nat} {cs : Array Value} (hI : Is w v 57 cs) (hv : w0.heap.size ≤ v) (hS : ¬ S v) (u : Value) : Live w0 (w.setCell ⟨v, i, none⟩ u) base S m a :=
  ⟨h.tab.touch (T := fun n => n = v) (Law.Touch.store w ⟨v, i, none⟩ u rfl) (fun x hx e => hS (e ▸ hx)) (Still.store hI (by decide) (by decide) (by decide) u), h.bel.setCell (p := ⟨v, i, none⟩) hv u, h.new⟩
/-- one cell of 'last' is put: what else lies -/
theorem put1 {w0 W : World} {base m v v8 lo B i : Nat} {S : Nat → Prop} {a : Mo} {cs cs' rc : Array Value} {ty : TypeId} {A : Option Addr} {xs : List Value} (u : Value) (hI : Is W v 57 cs) (hc : cs.setIfInBounds i u = cs') (hR : Is W v8 ty rc) (hn : v8 ≠ v) (hE : Seq W lo B A xs) (hl : v < lo) (hL : Live w0 W base S m a) (hv : w0.heap.size ≤ v) (hS : ¬ S v) :
    Is (W.setCell ⟨v, i, none⟩ u) v 57 cs' ∧ Is (W.setCell ⟨v, i, none⟩ u) v8 ty rc ∧ Seq (W.setCell ⟨v, i, none⟩ u) lo B A xs ∧ Live w0 (W.setCell ⟨v, i, none⟩ u) base S m a ∧ (W.setCell ⟨v, i, none⟩ u).heap.size = W.heap.size := by
  have ht := Law.Touch.store (T := fun n => n = v) W ⟨v, i, none⟩ u rfl
  refine ⟨hI.set i u hc, ht.is hR hn, hE.store (p := ⟨v, i, none⟩) (.inl hl) u, live_put hL hI hv hS u, by simp⟩
set_option maxRecDepth 100000 in
set_option maxHeartbeats 4000000 in
theorem walk (l : List AcM) (A : Option Addr) (c : Nat) (w : World) (hs : Seq w 0 w.heap.size A (l.flatMap cellsM)) (hl : l.length ≤ maxLen) (hq : ∀ q ∈ l, q.Good w) :
    Calls Tryz.prog 6 #[.slice A l.length c] w fun e w' => e = .returned (.bool true) ∧ Below w.heap.size w w' := by
  have HS := Lib.hid hs
  have HQ := Lib.hid hq
  have HL := Lib.hid hl
  clear hs hq hl
  cases hlong : longM l with
  | true =>
    go_enter Tryz.func6, Tryz.ntmps6
    go_wp2_with fail
    refine (awake w).mono ?_
    rintro e w1 ⟨rfl, b1⟩
    have HB1 := Lib.hid b1
    clear b1
    go_wp2_with fail
    refine (long l A c w1 ((HS.out.below HB1.out).more HB1.out.size) HL.out (fun q hx => (HQ.out q hx).op.in_.below HB1.out) hlong).mono ?_
    rintro e w2 ⟨rfl, b2⟩
    have HB2 := Lib.hid (HB1.out.trans (b2.mono HB1.out.size))
    clear b2
    go_wp2_with fail
    refine (awake w2).mono ?_
    rintro e w3 ⟨rfl, b3⟩
    have HB3 := Lib.hid (HB2.out.trans (b3.mono HB2.out.size))
    clear b3
    go_wp2_with fail
    go_ret
    exact ⟨rfl, HB3.out⟩
  | false =>
    obtain ⟨hl1, hsh⟩ := longM_no hlong
    go_enter Tryz.func6, Tryz.ntmps6
    go_wp2_with fail
    refine (awake w).mono ?_
    rintro e w1 ⟨rfl, b1⟩
    have HB1 := Lib.hid b1
    clear b1
    go_wp2_with fail
    refine (long l A c w1 ((HS.out.below HB1.out).more HB1.out.size) HL.out (fun q hx => (HQ.out q hx).op.in_.below HB1.out) hlong).mono ?_
    rintro e w2 ⟨rfl, b2⟩
    have HB2 := Lib.hid (HB1.out.trans (b2.mono HB1.out.size))
    clear b2 HB1
    go_wp2_with fail
    refine (small_ w2).mono ?_
    rintro e w3 ⟨rfl, b3⟩
    have HB3 := Lib.hid (HB2.out.trans (b3.mono HB2.out.size))
    clear b3 HB2
    go_wp2_with fail
    refine (new_yes small w3 (base := w.heap.size) HB3.out.size small_right).mono ?_
    rintro e w4 ⟨m, S, rfl, hT, hS, hB⟩
    have H : Hid (Live w w4 w.heap.size S m (Mo.new small)) := ⟨hT, HB3.out.trans (hB.mono HB3.out.size), fun x hx => Nat.le_trans HB3.out.size (hS x hx)⟩
    clear hT hS hB HB3
    go_wp2_with fail
    refine (do_ exW H.out.tab new_small_ok (by omega) H.out.bel.size 7 (lit_in _ _ _ _ _ _ _ (by decide) (by decide))).mono ?_
    rintro e w5 ⟨A1, c1, A2, c2, rfl, _, _, S5, hT, hG⟩
    have H5 : Hid (Live w w5 w.heap.size S5 m start) := H.out.gone hT hG
    have HF : Hid (Follows start (0, 0, 0) 0) := follows_new
    have hs0 : start.seq ≤ ((0 : Nat) : Int) := by decide +kernel
    clear hT hG H
    have bx := (Below.refl w5.heap.size w5).alloc (Nat.le_refl _) (.cells #[.int .i64 0, .int .i64 0, .int .i64 0] 57)
    have HL5 := Lib.hid (Is.new w5 57 #[.int .i64 0, .int .i64 0, .int .i64 0] rfl)
    have H6 := Lib.hid (H5.out.below bx)
    have hn5 : Hid (∀ x, S5 x → x < w5.heap.size) := fun x hx => (H5.out.tab.ok x hx).2
    have hw5 := H5.out.bel.size
    clear bx H5
    go_wp2_with fail
    generalize w5.alloc (.cells #[.int .i64 0, .int .i64 0, .int .i64 0] 57) = w6 at *
    obtain ⟨v5, hv5⟩ : ∃ n, w5.heap.size = n := ⟨_, rfl⟩
    rw [hv5] at HL5 hn5 hw5
    try rw [hv5]
    clear hv5
    go_loopw [6, 7] (fun vs vi wr => ∃ (j : Nat) (S : Nat → Prop) (a : Mo) (o0 o1 o2 sq : Int), j ≤ l.length ∧ vi = .int .i64 j ∧ vs = .int .u64 sq ∧ Is wr v5 57 #[.int .i64 o0, .int .i64 o1, .int .i64 o2] ∧ w.heap.size ≤ v5 ∧ ¬ S v5 ∧ a.Ok (j + 1) ∧ a.seq ≤ (j : Int) ∧ Follows a (o0, o1, o2) sq ∧ Live w wr w.heap.size S m a) (fun _ vi _ => l.length - (intOf vi).toNat)
    case atStart => exact ⟨0, S5, start, 0, 0, 0, 0, Nat.zero_le _, rfl, rfl, HL5.out, hw5, fun hx => Nat.lt_irrefl _ (hn5.out _ hx), start_ok, hs0, HF.out, H6.out⟩
    case round =>
      clear H6 HF HL5 hn5 hs0 hw5
      obtain ⟨j, S, a, o0, o1, o2, sq, hj, rfl, rfl, hI, hw5, hNS, hO, hsq, hF, hL⟩ := hrel
      have H := Lib.hid hL
      have HO := Lib.hid hO
      have HF := Lib.hid hF
      have HL := Lib.hid hI
      have NS := Lib.hid hNS
      have lv := hI.lt
      clear hL hO hF hI hNS
      by_cases hlt : j < l.length
      · have d1 : decide ((j : Int) < (l.length : Int)) = true := by simp; omega
        have hB := H.out.bel
        obtain ⟨b, off, rfl, _, hb, c0, c1, c2, c3, c4, c5, c6, c7, c8, c9⟩ := (HS.out.below hB).acM hlt
        have HM := Lib.hid (List.getElem_mem hlt)
        have HG := Lib.hid (HQ.out _ HM.out)
        have HIN := Lib.hid (HG.out.op.in_.below hB)
        have lb : b < wr.heap.size := Nat.lt_of_lt_of_le hb hB.size
        clear hB
        generalize l[j] = q at *
        obtain ⟨dI, qw, ⟨kind, user0, id, st, pr, ttl, Au, cu, us0⟩, by_⟩ := q
        obtain ⟨d, hd⟩ := Int.eq_ofNat_of_zero_le (bounds_u8 HG.out.do_).1
        simp only at hd
        subst hd
        have hd255 := (bounds_u8 HG.out.do_).2
        have hby := bounds_u64 HG.out.by_
        simp only at c0 c1 c2 c3 c4 c5 c6 c7 c8 c9 hd255 hby
        have HSl : Hid (∀ x, S x → x < wr.heap.size) := fun x hx => (H.out.tab.ok x hx).2
        by_cases h7 : qw = 7 ∧ d % 3 = 0
        · obtain ⟨rfl, h0⟩ := h7
          have e0 : ((d : Int) % 3 == 0) = true := by simp; omega
          have e0n : ((d : Int) % 3 != 0) = false := by simp; omega
          have bx := (Below.refl wr.heap.size wr).alloc (Nat.le_refl _) (.cells #[.int .u8 (d : Int), .int .i64 7, .int .i64 8, .string ⟨#[]⟩, .int .i64 0, .int .i64 0, .int .i64 0, .int .u64 0, .slice none 0 0, .int .u64 by_] 39)
          have HX7 := Lib.hid (Is.new wr 39 #[.int .u8 (d : Int), .int .i64 7, .int .i64 8, .string ⟨#[]⟩, .int .i64 0, .int .i64 0, .int .i64 0, .int .u64 0, .slice none 0 0, .int .u64 by_] rfl)
          have H7 := Lib.hid (H.out.below bx)
          have HL7 := Lib.hid (HL.out.below bx lv)
          have IN7 : Hid (OpW.In pollOp (wr.alloc (.cells #[.int .u8 (d : Int), .int .i64 7, .int .i64 8, .string ⟨#[]⟩, .int .i64 0, .int .i64 0, .int .i64 0, .int .u64 0, .slice none 0 0, .int .u64 by_] 39))) := lit_in _ _ _ _ _ _ _ (by decide) (by decide)
          have l7 := bx.size
          go_wp2_with fail
          generalize (wr.alloc (.cells #[.int .u8 (d : Int), .int .i64 7, .int .i64 8, .string ⟨#[]⟩, .int .i64 0, .int .i64 0, .int .i64 0, .int .u64 0, .slice none 0 0, .int .u64 by_] 39)) = w7 at *
          clear bx H HL
          refine (befalls ⟨(d : Int), 7, pollOp, by_⟩ H7.out.tab HO.out (by omega) H7.out.bel.size IN7.out ⟨Int.natCast_nonneg _, hd255⟩ hby).mono ?_
          have HP := Lib.hid HF.out.polled
          have HN : Hid (∀ o' s', o' = toldK Mod.ann (a.bk k0) → s' ≤ a.seq → Follows (a.do_ 7 pollOp).1 o' s') := fun o' s' h1 h2 => HF.out.next h1 h2
          have HC := Lib.hid HF.out.on
          have HO' : Hid ((a.do_ 7 pollOp).1.Ok (j + 1 + 1)) := do_ok HO.out 7 pollOp
          have hsq' := seq_le (a := a) ⟨(d : Int), 7, pollOp, by_⟩ hsq (by omega)
          rw [act_poll a _ by_ (by omega)] at hsq' ⊢
          generalize a.do_ 7 pollOp = ar at *
          rintro e w8 ⟨A1, c1', A2, c2', rfl, _, hev, S', hT, hG⟩
          have H8 := Lib.hid (H7.out.gone hT hG)
          have HX8 := Lib.hid (hG.is HX7.out (fun hx => by have := HSl.out _ hx; omega))
          have HL8 := Lib.hid (hG.is HL7.out NS.out)
          have NS' : Hid (¬ S' v5) := fun hx => (hG.new _ hx).elim NS.out (fun h => by omega)
          have HSl' : Hid (∀ x, S' x → x < w8.heap.size) := fun x hx => (H8.out.tab.ok x hx).2
          clear hT hG H7 HX7 HL7 IN7
          rw [HP.out.1, HP.out.2]
          rw [HP.out.1] at hev
          have hel : ((a.fd k0).que 7).length ≤ 16 := HO.out.que k0 (by rw [HF.out.n]; exact k0_lt) 7 (by decide)
          obtain ⟨es, hes⟩ : ∃ es, (a.fd k0).que 7 = es := ⟨_, rfl⟩
          rw [hes] at HC hev hel ⊢
          clear hes HP
          have HE := Lib.hid hev
          clear hev
          have x0 : w8.cell? ⟨wr.heap.size, 0, none⟩ = some (.int .u8 (d : Int)) := HX8.out.cell' rfl
          have x1 : w8.cell? ⟨wr.heap.size, 1, none⟩ = some (.int .i64 7) := HX8.out.cell' rfl
          have lx := HX8.out.lt
          cases hlos : (a.fd k0).los 7 with
          | true =>
            go_wp2_with fail
            go_ret
            exact ⟨rfl, H8.out.bel.alloc H8.out.bel.size _⟩
          | false =>
            rw [hlos] at HC
            have HCh := Lib.hid (HC.out.resolve_left (by decide))
            clear HC
            have bx := (Below.refl w8.heap.size w8).alloc (Nat.le_refl _) (.cells #[.int .i64 ar.2.err, .slice A1 ar.2.vals.length c1', .slice A2 es.length c2', .bool false] 43)
            have HR9 := Lib.hid (Is.new w8 43 #[.int .i64 ar.2.err, .slice A1 ar.2.vals.length c1', .slice A2 es.length c2', .bool false] rfl)
            have H9 := Lib.hid (H8.out.below bx)
            have HL9 := Lib.hid (HL8.out.below bx HL8.out.lt)
            have HE9 := Lib.hid (HE.out.below bx)
            have l89 := bx.size
            have lv8 := HL8.out.lt
            go_wp2_with fail
            generalize w8.alloc (.cells #[.int .i64 ar.2.err, .slice A1 ar.2.vals.length c1', .slice A2 es.length c2', .bool false] 43) = w9 at *
            clear bx H8 HL8 HE HX8 x0 x1 lx
            obtain ⟨v8, hv8⟩ : ∃ n, w8.heap.size = n := ⟨_, rfl⟩
            rw [hv8] at HR9 HE9 l89 lv8
            try rw [hv8]
            clear hv8
            go_loopw [6, 10] (fun vs vk wx => ∃ (k : Nat) (p0 p1 p2 s : Int), k ≤ es.length ∧ vk = .int .i64 k ∧ vs = .int .u64 s ∧ Is wx v5 57 #[.int .i64 p0, .int .i64 p1, .int .i64 p2] ∧ Is wx v8 43 #[.int .i64 ar.2.err, .slice A1 ar.2.vals.length c1', .slice A2 es.length c2', .bool false] ∧ Seq wx w7.heap.size v8 A2 (flatE es) ∧ v8 ≤ wx.heap.size ∧ Chain Mod.ann (es.drop k) (p0, p1, p2) s (toldK Mod.ann (a.bk k0)) a.seq ∧ Live w wx w.heap.size S' m ar.1) (fun _ vk _ => es.length - (intOf vk).toNat)
            case atStart => exact ⟨0, o0, o1, o2, sq, Nat.zero_le _, rfl, rfl, HL9.out, HR9.out, HE9.out, l89, HCh.out, H9.out⟩
            case round =>
              clear HL9 HR9 HE9 l89 HCh H9
              obtain ⟨k, p0, p1, p2, s, hk, rfl, rfl, hL, hR, hE, hsz, hch, hLv⟩ := hrel
              have HL := Lib.hid hL
              have HR := Lib.hid hR
              have HE := Lib.hid hE
              have H := Lib.hid hLv
              clear hL hR hE hLv
              have r2 : wr.cell? ⟨v8, 2, none⟩ = some (.slice A2 es.length c2') := HR.out.cell' rfl
              have lr := HR.out.lt
              have lv5 := HL.out.lt
              by_cases hlt2 : k < es.length
              · have d2 : decide ((k : Int) < (es.length : Int)) = true := by simp; omega
                obtain ⟨be, oe, hA2, hb1, hb2, e0', e1', e2', e3', e4', e5', e6', e7'⟩ := HE.out.ev hlt2
                subst hA2
                rw [List.drop_eq_getElem_cons hlt2, chain_cons] at hch
                generalize es[k] = ev at *
                obtain ⟨eu, q0, q1, q2, n0, n1, n2, es'⟩ := ev
                simp only at e0' e1' e2' e3' e4' e5' e6' e7'
                obtain ⟨hu, hold, hne, hlt3, hch⟩ := hch
                simp only at hu hold hne hlt3 hch
                subst hu
                obtain ⟨rfl, h12⟩ := Prod.mk.inj hold
                obtain ⟨rfl, rfl⟩ := Prod.mk.inj h12
                clear hold h12
                have HCn := Lib.hid hch
                have HNE := Lib.hid hne
                have g1 : decide (es' ≤ s) = false := by simp; omega
                have lbe : be < wr.heap.size := by omega
                change _ = some (Value.string ⟨#[97, 110, 110]⟩) at e0'
                clear hch hne hlt3
                have y0 : wr.cell? ⟨v5, 0, none⟩ = some (.int .i64 q0) := HL.out.cell' rfl
                have y1 : wr.cell? ⟨v5, 1, none⟩ = some (.int .i64 q1) := HL.out.cell' rfl
                have y2 : wr.cell? ⟨v5, 2, none⟩ = some (.int .i64 q2) := HL.out.cell' rfl
                have bx := (Below.refl wr.heap.size wr).alloc (Nat.le_refl _) (.cells #[.string ⟨#[97, 110, 110]⟩, .int .i64 q0, .int .i64 q1, .int .i64 q2, .int .i64 n0, .int .i64 n1, .int .i64 n2, .int .u64 es'] 67)
                have HV := Lib.hid (Is.new wr 67 #[.string ⟨#[97, 110, 110]⟩, .int .i64 q0, .int .i64 q1, .int .i64 q2, .int .i64 n0, .int .i64 n1, .int .i64 n2, .int .u64 es'] rfl)
                have H10 := Lib.hid (H.out.below bx)
                have HL10 := Lib.hid (HL.out.below bx HL.out.lt)
                have HR10 := Lib.hid (HR.out.below bx HR.out.lt)
                have HE10 := Lib.hid (HE.out.below (bx.mono hsz))
                have l10 := bx.size
                clear bx
                by_cases h0 : q0 = n0
                · have f0 : (q0 == n0) = true := by simpa using h0
                  by_cases h1 : q1 = n1
                  · have f1 : (q1 == n1) = true := by simpa using h1
                    by_cases h2 : q2 = n2
                    · have f2 : (q2 == n2) = true := by simpa using h2
                      exact absurd (by rw [h0, h1, h2]) HNE.out
                    · have f2 : (q2 == n2) = false := by simpa using h2
                      clear h0 h1 h2
                      go_wp2_with fail
                      generalize wr.alloc (.cells #[.string ⟨#[97, 110, 110]⟩, .int .i64 q0, .int .i64 q1, .int .i64 q2, .int .i64 n0, .int .i64 n1, .int .i64 n2, .int .u64 es'] 67) = w10 at *
                      obtain ⟨v9, hv9⟩ : ∃ n, wr.heap.size = n := ⟨_, rfl⟩
                      rw [hv9] at HV hsz lv5
                      simp only [hv9]
                      clear hv9
                      have lq := HV.out.lt
                      have z4 : w10.cell? ⟨v9, 4, none⟩ = some (.int .i64 n0) := HV.out.cell' rfl
                      have z5 : w10.cell? ⟨v9, 5, none⟩ = some (.int .i64 n1) := HV.out.cell' rfl
                      have z6 : w10.cell? ⟨v9, 6, none⟩ = some (.int .i64 n2) := HV.out.cell' rfl
                      have z7 : w10.cell? ⟨v9, 7, none⟩ = some (.int .u64 es') := HV.out.cell' rfl
                      refine wp_region_held_drew (S := fun w' => w'.cell? ⟨v9, 4, none⟩ = some (.int .i64 n0) ∧ w'.cell? ⟨v9, 5, none⟩ = some (.int .i64 n1) ∧ w'.cell? ⟨v9, 6, none⟩ = some (.int .i64 n2) ∧ w'.cell? ⟨v9, 7, none⟩ = some (.int .u64 es')) (by kernel_rfl) ⟨z4, z5, z6, z7⟩ (fun hS0 => ?_)
                      refine wpAnyH_take (i := 0) (oi := { dst := some 102, op := .fieldAddr 67 (.tmp 11) 2, type := _, pos := _, after := _, guard := _ }) (v := .pointer (some ⟨v9, 4, none⟩)) rfl (by kernel_rfl) (by kernel_rfl) (by kernel_rfl) (fun _ _ _ h => h) (Or.inl ⟨by rfl, ?_⟩) hS0 ?_
                      · intro w' hSw
                        go_simp
                      try simp only [Act.put, List.setIfInBounds_toArray, List.set_cons_zero, List.set_cons_succ]
                      refine wpAnyH_take (i := 1) (oi := { dst := some 103, op := .load 57 (.tmp 102), type := _, pos := _, after := _, guard := _ }) (v := .agg #[.int .i64 n0, .int .i64 n1, .int .i64 n2]) rfl (by kernel_rfl) (by kernel_rfl) (by kernel_rfl) (fun _ _ _ h => h) (Or.inl ⟨by rfl, ?_⟩) hS0 ?_
                      · intro w' hSw
                        obtain ⟨s0', s1', s2', s3'⟩ := hSw
                        go_simp
                      try simp only [Act.put, List.setIfInBounds_toArray, List.set_cons_zero, List.set_cons_succ]
                      refine wpAnyH_take (i := 2) (oi := { dst := some 104, op := .fieldAddr 67 (.tmp 11) 3, type := _, pos := _, after := _, guard := _ }) (v := .pointer (some ⟨v9, 7, none⟩)) rfl (by kernel_rfl) (by kernel_rfl) (by kernel_rfl) (fun _ _ _ h => h) (Or.inl ⟨by rfl, ?_⟩) hS0 ?_
                      · intro w' hSw
                        go_simp
                      try simp only [Act.put, List.setIfInBounds_toArray, List.set_cons_zero, List.set_cons_succ]
                      refine wpAnyH_take (i := 3) (oi := { dst := some 105, op := .load 22 (.tmp 104), type := _, pos := _, after := _, guard := _ }) (v := .int .u64 es') rfl (by kernel_rfl) (by kernel_rfl) (by kernel_rfl) (fun _ _ _ h => h) (Or.inl ⟨by rfl, ?_⟩) hS0 ?_
                      · intro w' hSw
                        obtain ⟨s0', s1', s2', s3'⟩ := hSw
                        go_simp
                      try simp only [Act.put, List.setIfInBounds_toArray, List.set_cons_zero, List.set_cons_succ]
                      have HLd : Hid (Is w10.drew v5 57 #[.int .i64 q0, .int .i64 q1, .int .i64 q2]) := HL10.out.drewN 1
                      have HRd : Hid (Is w10.drew v8 43 #[.int .i64 ar.2.err, .slice A1 ar.2.vals.length c1', .slice (some ⟨be, oe, none⟩) es.length c2', .bool false]) := HR10.out.drewN 1
                      have HVd : Hid (Is w10.drew v9 67 #[.string ⟨#[97, 110, 110]⟩, .int .i64 q0, .int .i64 q1, .int .i64 q2, .int .i64 n0, .int .i64 n1, .int .i64 n2, .int .u64 es']) := HV.out.drewN 1
                      have HEd : Hid (Seq w10.drew w7.heap.size v8 (some ⟨be, oe, none⟩) (flatE es)) := HE10.out.below (Law.below_drewN ((Below.refl w10.heap.size w10).mono (by omega)) 1)
                      have Hd : Hid (Live w w10.drew w.heap.size S' m ar.1) := H10.out.below (Law.below_drewN (Below.refl _ w10) 1)
                      have lwd : w10.drew.heap.size = w10.heap.size := rfl
                      clear HL10 HR10 HE10 H10 HV z4 z5 z6 z7
                      generalize w10.drew = w11 at *
                      have Y0 : w11.cell? ⟨v5, 0, none⟩ = some (.int .i64 q0) := HLd.out.cell' rfl
                      have Y1 : w11.cell? ⟨v5, 1, none⟩ = some (.int .i64 q1) := HLd.out.cell' rfl
                      have Y2 : w11.cell? ⟨v5, 2, none⟩ = some (.int .i64 q2) := HLd.out.cell' rfl
                      have fx0 := HLd.out.frozen 0
                      have fx1 := HLd.out.frozen 1
                      have fx2 := HLd.out.frozen 2
                      have lvd := HLd.out.lt
                      have P1 := put1 (i := 0) (.int .i64 n0) HLd.out rfl HRd.out (by omega) HEd.out (by omega) Hd.out hw5 NS'.out
                      have P2 := put1 (i := 1) (.int .i64 n1) P1.1 rfl P1.2.1 (by omega) P1.2.2.1 (by omega) P1.2.2.2.1 hw5 NS'.out
                      have P3 := put1 (i := 2) (.int .i64 n2) P2.1 rfl P2.2.1 (by omega) P2.2.2.1 (by omega) P2.2.2.2.1 hw5 NS'.out
                      have V1 := put1 (i := 0) (.int .i64 n0) HLd.out rfl HVd.out (by omega) HEd.out (by omega) Hd.out hw5 NS'.out
                      have V2 := put1 (i := 1) (.int .i64 n1) V1.1 rfl V1.2.1 (by omega) V1.2.2.1 (by omega) V1.2.2.2.1 hw5 NS'.out
                      have V3 := put1 (i := 2) (.int .i64 n2) V2.1 rfl V2.2.1 (by omega) V2.2.2.1 (by omega) V2.2.2.2.1 hw5 NS'.out
                      have HP3 := Lib.hid P3
                      have HV3 := Lib.hid V3.2.1
                      have hsz3 := P3.2.2.2.2.trans (P2.2.2.2.2.trans P1.2.2.2.2)
                      clear P1 P2 P3 V1 V2 V3
                      refine wpAnyH_ready (rs := [4]) (by kernel_rfl) (by simp) ?_
                      refine AllReadyH.cons (o := { dst := none, op := .store 57 (.tmp 5) (.tmp 103), type := _, pos := _, after := _, guard := _ }) rfl (fun K hK => ?_) AllReadyH.nil
                      go_simp
                      refine hK.out _ _ ⟨HV3.out.cell' rfl, HV3.out.cell' rfl, HV3.out.cell' rfl, HV3.out.cell' rfl⟩ (fun hS4 => ?_)
                      clear hK K
                      try simp only [Act.put, List.setIfInBounds_toArray, List.set_cons_zero, List.set_cons_succ]
                      refine wpAnyH_take (i := 5) (oi := { dst := some 6, op := .assign (.tmp 105), type := _, pos := _, after := _, guard := _ }) (v := .int .u64 es') rfl (by kernel_rfl) (by kernel_rfl) (by kernel_rfl) (fun _ _ _ h => h) (Or.inl ⟨by rfl, ?_⟩) hS4 ?_
                      · intro w' hSw
                        go_simp
                      try simp only [Act.put, List.setIfInBounds_toArray, List.set_cons_zero, List.set_cons_succ]
                      refine wpAnyH_done (by kernel_rfl) ?_ _
                      generalize ((w11.setCell ⟨v5, 0, none⟩ (.int .i64 n0)).setCell ⟨v5, 1, none⟩ (.int .i64 n1)).setCell ⟨v5, 2, none⟩ (.int .i64 n2) = w12 at *
                      clear y0 y1 y2 Y0 Y1 Y2
                      go_wp2_with fail
                      go_roundw
                      case rel => exact ⟨k + 1, n0, n1, n2, es', by omega, by go_num, rfl, HP3.out.1, HP3.out.2.1, HP3.out.2.2.1, by omega, HCn.out, HP3.out.2.2.2.1⟩
                      case measure => simp [intOf]; omega
                  · have f1 : (q1 == n1) = false := by simpa using h1
                    clear h0 h1
                    go_wp2_with fail
                    generalize wr.alloc (.cells #[.string ⟨#[97, 110, 110]⟩, .int .i64 q0, .int .i64 q1, .int .i64 q2, .int .i64 n0, .int .i64 n1, .int .i64 n2, .int .u64 es'] 67) = w10 at *
                    obtain ⟨v9, hv9⟩ : ∃ n, wr.heap.size = n := ⟨_, rfl⟩
                    rw [hv9] at HV hsz lv5
                    simp only [hv9]
                    clear hv9
                    have lq := HV.out.lt
                    have z4 : w10.cell? ⟨v9, 4, none⟩ = some (.int .i64 n0) := HV.out.cell' rfl
                    have z5 : w10.cell? ⟨v9, 5, none⟩ = some (.int .i64 n1) := HV.out.cell' rfl
                    have z6 : w10.cell? ⟨v9, 6, none⟩ = some (.int .i64 n2) := HV.out.cell' rfl
                    have z7 : w10.cell? ⟨v9, 7, none⟩ = some (.int .u64 es') := HV.out.cell' rfl
                    refine wp_region_held_drew (S := fun w' => w'.cell? ⟨v9, 4, none⟩ = some (.int .i64 n0) ∧ w'.cell? ⟨v9, 5, none⟩ = some (.int .i64 n1) ∧ w'.cell? ⟨v9, 6, none⟩ = some (.int .i64 n2) ∧ w'.cell? ⟨v9, 7, none⟩ = some (.int .u64 es')) (by kernel_rfl) ⟨z4, z5, z6, z7⟩ (fun hS0 => ?_)
                    refine wpAnyH_take (i := 0) (oi := { dst := some 102, op := .fieldAddr 67 (.tmp 11) 2, type := _, pos := _, after := _, guard := _ }) (v := .pointer (some ⟨v9, 4, none⟩)) rfl (by kernel_rfl) (by kernel_rfl) (by kernel_rfl) (fun _ _ _ h => h) (Or.inl ⟨by rfl, ?_⟩) hS0 ?_
                    · intro w' hSw
                      go_simp
                    try simp only [Act.put, List.setIfInBounds_toArray, List.set_cons_zero, List.set_cons_succ]
                    refine wpAnyH_take (i := 1) (oi := { dst := some 103, op := .load 57 (.tmp 102), type := _, pos := _, after := _, guard := _ }) (v := .agg #[.int .i64 n0, .int .i64 n1, .int .i64 n2]) rfl (by kernel_rfl) (by kernel_rfl) (by kernel_rfl) (fun _ _ _ h => h) (Or.inl ⟨by rfl, ?_⟩) hS0 ?_
                    · intro w' hSw
                      obtain ⟨s0', s1', s2', s3'⟩ := hSw
                      go_simp
                    try simp only [Act.put, List.setIfInBounds_toArray, List.set_cons_zero, List.set_cons_succ]
                    refine wpAnyH_take (i := 2) (oi := { dst := some 104, op := .fieldAddr 67 (.tmp 11) 3, type := _, pos := _, after := _, guard := _ }) (v := .pointer (some ⟨v9, 7, none⟩)) rfl (by kernel_rfl) (by kernel_rfl) (by kernel_rfl) (fun _ _ _ h => h) (Or.inl ⟨by rfl, ?_⟩) hS0 ?_
                    · intro w' hSw
                      go_simp
                    try simp only [Act.put, List.setIfInBounds_toArray, List.set_cons_zero, List.set_cons_succ]
                    refine wpAnyH_take (i := 3) (oi := { dst := some 105, op := .load 22 (.tmp 104), type := _, pos := _, after := _, guard := _ }) (v := .int .u64 es') rfl (by kernel_rfl) (by kernel_rfl) (by kernel_rfl) (fun _ _ _ h => h) (Or.inl ⟨by rfl, ?_⟩) hS0 ?_
                    · intro w' hSw
                      obtain ⟨s0', s1', s2', s3'⟩ := hSw
                      go_simp
                    try simp only [Act.put, List.setIfInBounds_toArray, List.set_cons_zero, List.set_cons_succ]
                    have HLd : Hid (Is w10.drew v5 57 #[.int .i64 q0, .int .i64 q1, .int .i64 q2]) := HL10.out.drewN 1
                    have HRd : Hid (Is w10.drew v8 43 #[.int .i64 ar.2.err, .slice A1 ar.2.vals.length c1', .slice (some ⟨be, oe, none⟩) es.length c2', .bool false]) := HR10.out.drewN 1
                    have HVd : Hid (Is w10.drew v9 67 #[.string ⟨#[97, 110, 110]⟩, .int .i64 q0, .int .i64 q1, .int .i64 q2, .int .i64 n0, .int .i64 n1, .int .i64 n2, .int .u64 es']) := HV.out.drewN 1
                    have HEd : Hid (Seq w10.drew w7.heap.size v8 (some ⟨be, oe, none⟩) (flatE es)) := HE10.out.below (Law.below_drewN ((Below.refl w10.heap.size w10).mono (by omega)) 1)
                    have Hd : Hid (Live w w10.drew w.heap.size S' m ar.1) := H10.out.below (Law.below_drewN (Below.refl _ w10) 1)
                    have lwd : w10.drew.heap.size = w10.heap.size := rfl
                    clear HL10 HR10 HE10 H10 HV z4 z5 z6 z7
                    generalize w10.drew = w11 at *
                    have Y0 : w11.cell? ⟨v5, 0, none⟩ = some (.int .i64 q0) := HLd.out.cell' rfl
                    have Y1 : w11.cell? ⟨v5, 1, none⟩ = some (.int .i64 q1) := HLd.out.cell' rfl
                    have Y2 : w11.cell? ⟨v5, 2, none⟩ = some (.int .i64 q2) := HLd.out.cell' rfl
                    have fx0 := HLd.out.frozen 0
                    have fx1 := HLd.out.frozen 1
                    have fx2 := HLd.out.frozen 2
                    have lvd := HLd.out.lt
                    have P1 := put1 (i := 0) (.int .i64 n0) HLd.out rfl HRd.out (by omega) HEd.out (by omega) Hd.out hw5 NS'.out
                    have P2 := put1 (i := 1) (.int .i64 n1) P1.1 rfl P1.2.1 (by omega) P1.2.2.1 (by omega) P1.2.2.2.1 hw5 NS'.out
                    have P3 := put1 (i := 2) (.int .i64 n2) P2.1 rfl P2.2.1 (by omega) P2.2.2.1 (by omega) P2.2.2.2.1 hw5 NS'.out
                    have V1 := put1 (i := 0) (.int .i64 n0) HLd.out rfl HVd.out (by omega) HEd.out (by omega) Hd.out hw5 NS'.out
                    have V2 := put1 (i := 1) (.int .i64 n1) V1.1 rfl V1.2.1 (by omega) V1.2.2.1 (by omega) V1.2.2.2.1 hw5 NS'.out
                    have V3 := put1 (i := 2) (.int .i64 n2) V2.1 rfl V2.2.1 (by omega) V2.2.2.1 (by omega) V2.2.2.2.1 hw5 NS'.out
                    have HP3 := Lib.hid P3
                    have HV3 := Lib.hid V3.2.1
                    have hsz3 := P3.2.2.2.2.trans (P2.2.2.2.2.trans P1.2.2.2.2)
                    clear P1 P2 P3 V1 V2 V3
                    refine wpAnyH_ready (rs := [4]) (by kernel_rfl) (by simp) ?_
                    refine AllReadyH.cons (o := { dst := none, op := .store 57 (.tmp 5) (.tmp 103), type := _, pos := _, after := _, guard := _ }) rfl (fun K hK => ?_) AllReadyH.nil
                    go_simp
                    refine hK.out _ _ ⟨HV3.out.cell' rfl, HV3.out.cell' rfl, HV3.out.cell' rfl, HV3.out.cell' rfl⟩ (fun hS4 => ?_)
                    clear hK K
                    try simp only [Act.put, List.setIfInBounds_toArray, List.set_cons_zero, List.set_cons_succ]
                    refine wpAnyH_take (i := 5) (oi := { dst := some 6, op := .assign (.tmp 105), type := _, pos := _, after := _, guard := _ }) (v := .int .u64 es') rfl (by kernel_rfl) (by kernel_rfl) (by kernel_rfl) (fun _ _ _ h => h) (Or.inl ⟨by rfl, ?_⟩) hS4 ?_
                    · intro w' hSw
                      go_simp
                    try simp only [Act.put, List.setIfInBounds_toArray, List.set_cons_zero, List.set_cons_succ]
                    refine wpAnyH_done (by kernel_rfl) ?_ _
                    generalize ((w11.setCell ⟨v5, 0, none⟩ (.int .i64 n0)).setCell ⟨v5, 1, none⟩ (.int .i64 n1)).setCell ⟨v5, 2, none⟩ (.int .i64 n2) = w12 at *
                    clear y0 y1 y2 Y0 Y1 Y2
                    go_wp2_with fail
                    go_roundw
                    case rel => exact ⟨k + 1, n0, n1, n2, es', by omega, by go_num, rfl, HP3.out.1, HP3.out.2.1, HP3.out.2.2.1, by omega, HCn.out, HP3.out.2.2.2.1⟩
                    case measure => simp [intOf]; omega
                · have f0 : (q0 == n0) = false := by simpa using h0
                  clear h0
                  go_wp2_with fail
                  generalize wr.alloc (.cells #[.string ⟨#[97, 110, 110]⟩, .int .i64 q0, .int .i64 q1, .int .i64 q2, .int .i64 n0, .int .i64 n1, .int .i64 n2, .int .u64 es'] 67) = w10 at *
                  obtain ⟨v9, hv9⟩ : ∃ n, wr.heap.size = n := ⟨_, rfl⟩
                  rw [hv9] at HV hsz lv5
                  simp only [hv9]
                  clear hv9
                  have lq := HV.out.lt
                  have z4 : w10.cell? ⟨v9, 4, none⟩ = some (.int .i64 n0) := HV.out.cell' rfl
                  have z5 : w10.cell? ⟨v9, 5, none⟩ = some (.int .i64 n1) := HV.out.cell' rfl
                  have z6 : w10.cell? ⟨v9, 6, none⟩ = some (.int .i64 n2) := HV.out.cell' rfl
                  have z7 : w10.cell? ⟨v9, 7, none⟩ = some (.int .u64 es') := HV.out.cell' rfl
                  refine wp_region_held_drew (S := fun w' => w'.cell? ⟨v9, 4, none⟩ = some (.int .i64 n0) ∧ w'.cell? ⟨v9, 5, none⟩ = some (.int .i64 n1) ∧ w'.cell? ⟨v9, 6, none⟩ = some (.int .i64 n2) ∧ w'.cell? ⟨v9, 7, none⟩ = some (.int .u64 es')) (by kernel_rfl) ⟨z4, z5, z6, z7⟩ (fun hS0 => ?_)
                  refine wpAnyH_take (i := 0) (oi := { dst := some 102, op := .fieldAddr 67 (.tmp 11) 2, type := _, pos := _, after := _, guard := _ }) (v := .pointer (some ⟨v9, 4, none⟩)) rfl (by kernel_rfl) (by kernel_rfl) (by kernel_rfl) (fun _ _ _ h => h) (Or.inl ⟨by rfl, ?_⟩) hS0 ?_
                  · intro w' hSw
                    go_simp
                  try simp only [Act.put, List.setIfInBounds_toArray, List.set_cons_zero, List.set_cons_succ]
                  refine wpAnyH_take (i := 1) (oi := { dst := some 103, op := .load 57 (.tmp 102), type := _, pos := _, after := _, guard := _ }) (v := .agg #[.int .i64 n0, .int .i64 n1, .int .i64 n2]) rfl (by kernel_rfl) (by kernel_rfl) (by kernel_rfl) (fun _ _ _ h => h) (Or.inl ⟨by rfl, ?_⟩) hS0 ?_
                  · intro w' hSw
                    obtain ⟨s0', s1', s2', s3'⟩ := hSw
                    go_simp
                  try simp only [Act.put, List.setIfInBounds_toArray, List.set_cons_zero, List.set_cons_succ]
                  refine wpAnyH_take (i := 2) (oi := { dst := some 104, op := .fieldAddr 67 (.tmp 11) 3, type := _, pos := _, after := _, guard := _ }) (v := .pointer (some ⟨v9, 7, none⟩)) rfl (by kernel_rfl) (by kernel_rfl) (by kernel_rfl) (fun _ _ _ h => h) (Or.inl ⟨by rfl, ?_⟩) hS0 ?_
                  · intro w' hSw
                    go_simp
                  try simp only [Act.put, List.setIfInBounds_toArray, List.set_cons_zero, List.set_cons_succ]
                  refine wpAnyH_take (i := 3) (oi := { dst := some 105, op := .load 22 (.tmp 104), type := _, pos := _, after := _, guard := _ }) (v := .int .u64 es') rfl (by kernel_rfl) (by kernel_rfl) (by kernel_rfl) (fun _ _ _ h => h) (Or.inl ⟨by rfl, ?_⟩) hS0 ?_
                  · intro w' hSw
                    obtain ⟨s0', s1', s2', s3'⟩ := hSw
                    go_simp
                  try simp only [Act.put, List.setIfInBounds_toArray, List.set_cons_zero, List.set_cons_succ]
                  have HLd : Hid (Is w10.drew v5 57 #[.int .i64 q0, .int .i64 q1, .int .i64 q2]) := HL10.out.drewN 1
                  have HRd : Hid (Is w10.drew v8 43 #[.int .i64 ar.2.err, .slice A1 ar.2.vals.length c1', .slice (some ⟨be, oe, none⟩) es.length c2', .bool false]) := HR10.out.drewN 1
                  have HVd : Hid (Is w10.drew v9 67 #[.string ⟨#[97, 110, 110]⟩, .int .i64 q0, .int .i64 q1, .int .i64 q2, .int .i64 n0, .int .i64 n1, .int .i64 n2, .int .u64 es']) := HV.out.drewN 1
                  have HEd : Hid (Seq w10.drew w7.heap.size v8 (some ⟨be, oe, none⟩) (flatE es)) := HE10.out.below (Law.below_drewN ((Below.refl w10.heap.size w10).mono (by omega)) 1)
                  have Hd : Hid (Live w w10.drew w.heap.size S' m ar.1) := H10.out.below (Law.below_drewN (Below.refl _ w10) 1)
                  have lwd : w10.drew.heap.size = w10.heap.size := rfl
                  clear HL10 HR10 HE10 H10 HV z4 z5 z6 z7
                  generalize w10.drew = w11 at *
                  have Y0 : w11.cell? ⟨v5, 0, none⟩ = some (.int .i64 q0) := HLd.out.cell' rfl
                  have Y1 : w11.cell? ⟨v5, 1, none⟩ = some (.int .i64 q1) := HLd.out.cell' rfl
                  have Y2 : w11.cell? ⟨v5, 2, none⟩ = some (.int .i64 q2) := HLd.out.cell' rfl
                  have fx0 := HLd.out.frozen 0
                  have fx1 := HLd.out.frozen 1
                  have fx2 := HLd.out.frozen 2
                  have lvd := HLd.out.lt
                  have P1 := put1 (i := 0) (.int .i64 n0) HLd.out rfl HRd.out (by omega) HEd.out (by omega) Hd.out hw5 NS'.out
                  have P2 := put1 (i := 1) (.int .i64 n1) P1.1 rfl P1.2.1 (by omega) P1.2.2.1 (by omega) P1.2.2.2.1 hw5 NS'.out
                  have P3 := put1 (i := 2) (.int .i64 n2) P2.1 rfl P2.2.1 (by omega) P2.2.2.1 (by omega) P2.2.2.2.1 hw5 NS'.out
                  have V1 := put1 (i := 0) (.int .i64 n0) HLd.out rfl HVd.out (by omega) HEd.out (by omega) Hd.out hw5 NS'.out
                  have V2 := put1 (i := 1) (.int .i64 n1) V1.1 rfl V1.2.1 (by omega) V1.2.2.1 (by omega) V1.2.2.2.1 hw5 NS'.out
                  have V3 := put1 (i := 2) (.int .i64 n2) V2.1 rfl V2.2.1 (by omega) V2.2.2.1 (by omega) V2.2.2.2.1 hw5 NS'.out
                  have HP3 := Lib.hid P3
                  have HV3 := Lib.hid V3.2.1
                  have hsz3 := P3.2.2.2.2.trans (P2.2.2.2.2.trans P1.2.2.2.2)
                  clear P1 P2 P3 V1 V2 V3
                  refine wpAnyH_ready (rs := [4]) (by kernel_rfl) (by simp) ?_
                  refine AllReadyH.cons (o := { dst := none, op := .store 57 (.tmp 5) (.tmp 103), type := _, pos := _, after := _, guard := _ }) rfl (fun K hK => ?_) AllReadyH.nil
                  go_simp
                  refine hK.out _ _ ⟨HV3.out.cell' rfl, HV3.out.cell' rfl, HV3.out.cell' rfl, HV3.out.cell' rfl⟩ (fun hS4 => ?_)
                  clear hK K
                  try simp only [Act.put, List.setIfInBounds_toArray, List.set_cons_zero, List.set_cons_succ]
                  refine wpAnyH_take (i := 5) (oi := { dst := some 6, op := .assign (.tmp 105), type := _, pos := _, after := _, guard := _ }) (v := .int .u64 es') rfl (by kernel_rfl) (by kernel_rfl) (by kernel_rfl) (fun _ _ _ h => h) (Or.inl ⟨by rfl, ?_⟩) hS4 ?_
                  · intro w' hSw
                    go_simp
                  try simp only [Act.put, List.setIfInBounds_toArray, List.set_cons_zero, List.set_cons_succ]
                  refine wpAnyH_done (by kernel_rfl) ?_ _
                  generalize ((w11.setCell ⟨v5, 0, none⟩ (.int .i64 n0)).setCell ⟨v5, 1, none⟩ (.int .i64 n1)).setCell ⟨v5, 2, none⟩ (.int .i64 n2) = w12 at *
                  clear y0 y1 y2 Y0 Y1 Y2
                  go_wp2_with fail
                  go_roundw
                  case rel => exact ⟨k + 1, n0, n1, n2, es', by omega, by go_num, rfl, HP3.out.1, HP3.out.2.1, HP3.out.2.2.1, by omega, HCn.out, HP3.out.2.2.2.1⟩
                  case measure => simp [intOf]; omega
              · have d2 : decide ((k : Int) < (es.length : Int)) = false := by simp; omega
                rw [List.drop_of_length_le (by omega), chain_nil] at hch
                have HN2 := Lib.hid (HN.out _ _ hch.1 hch.2)
                clear hch
                go_wp2_with fail
                go_roundw
                case rel => exact ⟨j + 1, S', ar.1, p0, p1, p2, s, by omega, by go_num, rfl, HL.out, hw5, NS'.out, HO'.out, by exact_mod_cast hsq', HN2.out, H.out⟩
                case measure => simp [intOf]; omega
        · by_cases h7b : qw = 7
          · subst h7b
            have h0 : ¬ d % 3 = 0 := fun h => h7 ⟨rfl, h⟩
            have e0 : ((d : Int) % 3 == 0) = false := by simp; omega
            have e0n : ((d : Int) % 3 != 0) = true := by simp; omega
            have bx := (Below.refl wr.heap.size wr).alloc (Nat.le_refl _) (.cells #[.int .u8 (d : Int), .int .i64 7, .int .i64 kind, .string user0, .int .i64 id, .int .i64 st, .int .i64 pr, .int .u64 ttl, .slice Au us0.length cu, .int .u64 by_] 39)
            have HX7 := Lib.hid (Is.new wr 39 #[.int .u8 (d : Int), .int .i64 7, .int .i64 kind, .string user0, .int .i64 id, .int .i64 st, .int .i64 pr, .int .u64 ttl, .slice Au us0.length cu, .int .u64 by_] rfl)
            have H7 := Lib.hid (H.out.below bx)
            have HL7 := Lib.hid (HL.out.below bx lv)
            have IN7 : Hid (OpW.In ⟨kind, user0, id, st, pr, ttl, Au, cu, us0⟩ (wr.alloc (.cells #[.int .u8 (d : Int), .int .i64 7, .int .i64 kind, .string user0, .int .i64 id, .int .i64 st, .int .i64 pr, .int .u64 ttl, .slice Au us0.length cu, .int .u64 by_] 39))) := HIN.out.below bx
            have l7 := bx.size
            go_wp2_with fail
            generalize (wr.alloc (.cells #[.int .u8 (d : Int), .int .i64 7, .int .i64 kind, .string user0, .int .i64 id, .int .i64 st, .int .i64 pr, .int .u64 ttl, .slice Au us0.length cu, .int .u64 by_] 39)) = w7 at *
            clear bx H HL
            refine (befalls ⟨(d : Int), 7, ⟨kind, user0, id, st, pr, ttl, Au, cu, us0⟩, by_⟩ H7.out.tab HO.out (by omega) H7.out.bel.size IN7.out ⟨Int.natCast_nonneg _, hd255⟩ hby).mono ?_
            have HF' := Lib.hid (HF.out.act HO.out (by omega) ⟨(d : Int), 7, ⟨kind, user0, id, st, pr, ttl, Au, cu, us0⟩, by_⟩ (.inr (by show (d : Int) % 3 ≠ 0; omega)) (Int.natCast_nonneg _))
            have HO' := Lib.hid (act_ok HO.out ⟨(d : Int), 7, ⟨kind, user0, id, st, pr, ttl, Au, cu, us0⟩, by_⟩ hby)
            have hsq' := seq_le ⟨(d : Int), 7, ⟨kind, user0, id, st, pr, ttl, Au, cu, us0⟩, by_⟩ hsq (by omega)
            generalize a.act ⟨(d : Int), 7, ⟨kind, user0, id, st, pr, ttl, Au, cu, us0⟩, by_⟩ = ar at *
            rintro e w8 ⟨A1, c1', A2, c2', rfl, _, hev, S', hT, hG⟩
            have H8 := Lib.hid (H7.out.gone hT hG)
            have HX8 := Lib.hid (hG.is HX7.out (fun hx => by have := HSl.out _ hx; omega))
            have HL8 := Lib.hid (hG.is HL7.out NS.out)
            have NS' : Hid (¬ S' v5) := fun hx => (hG.new _ hx).elim NS.out (fun h => by omega)
            have HSl' : Hid (∀ x, S' x → x < w8.heap.size) := fun x hx => (H8.out.tab.ok x hx).2
            clear hT hG H7 HX7 HL7 IN7
            have x0 : w8.cell? ⟨wr.heap.size, 0, none⟩ = some (.int .u8 (d : Int)) := HX8.out.cell' rfl
            have x1 : w8.cell? ⟨wr.heap.size, 1, none⟩ = some (.int .i64 7) := HX8.out.cell' rfl
            have lx := HX8.out.lt
            have bx := (Below.refl w8.heap.size w8).alloc (Nat.le_refl _) (.cells #[.int .i64 ar.2.err, .slice A1 ar.2.vals.length c1', .slice A2 ar.2.evs.length c2', .bool ar.2.lost] 43)
            have H9 := Lib.hid (H8.out.below bx)
            have HL9 := Lib.hid (HL8.out.below bx HL8.out.lt)
            clear bx
            go_wp2_with fail
            go_roundw
            case rel => exact ⟨j + 1, S', ar.1, o0, o1, o2, sq, by omega, by go_num, rfl, HL9.out, hw5, NS'.out, HO'.out, by exact_mod_cast hsq', HF'.out, H9.out⟩
            case measure => simp [intOf]; omega
          · have e7 : (qw == 7) = false := by simpa using h7b
            have e7n : (qw != 7) = true := by simpa using h7b
            have bx := (Below.refl wr.heap.size wr).alloc (Nat.le_refl _) (.cells #[.int .u8 (d : Int), .int .i64 qw, .int .i64 kind, .string user0, .int .i64 id, .int .i64 st, .int .i64 pr, .int .u64 ttl, .slice Au us0.length cu, .int .u64 by_] 39)
            have HX7 := Lib.hid (Is.new wr 39 #[.int .u8 (d : Int), .int .i64 qw, .int .i64 kind, .string user0, .int .i64 id, .int .i64 st, .int .i64 pr, .int .u64 ttl, .slice Au us0.length cu, .int .u64 by_] rfl)
            have H7 := Lib.hid (H.out.below bx)
            have HL7 := Lib.hid (HL.out.below bx lv)
            have IN7 : Hid (OpW.In ⟨kind, user0, id, st, pr, ttl, Au, cu, us0⟩ (wr.alloc (.cells #[.int .u8 (d : Int), .int .i64 qw, .int .i64 kind, .string user0, .int .i64 id, .int .i64 st, .int .i64 pr, .int .u64 ttl, .slice Au us0.length cu, .int .u64 by_] 39))) := HIN.out.below bx
            have l7 := bx.size
            go_wp2_with fail
            generalize (wr.alloc (.cells #[.int .u8 (d : Int), .int .i64 qw, .int .i64 kind, .string user0, .int .i64 id, .int .i64 st, .int .i64 pr, .int .u64 ttl, .slice Au us0.length cu, .int .u64 by_] 39)) = w7 at *
            clear bx H HL
            refine (befalls ⟨(d : Int), qw, ⟨kind, user0, id, st, pr, ttl, Au, cu, us0⟩, by_⟩ H7.out.tab HO.out (by omega) H7.out.bel.size IN7.out ⟨Int.natCast_nonneg _, hd255⟩ hby).mono ?_
            have HF' := Lib.hid (HF.out.act HO.out (by omega) ⟨(d : Int), qw, ⟨kind, user0, id, st, pr, ttl, Au, cu, us0⟩, by_⟩ (.inl h7b) (Int.natCast_nonneg _))
            have HO' := Lib.hid (act_ok HO.out ⟨(d : Int), qw, ⟨kind, user0, id, st, pr, ttl, Au, cu, us0⟩, by_⟩ hby)
            have hsq' := seq_le ⟨(d : Int), qw, ⟨kind, user0, id, st, pr, ttl, Au, cu, us0⟩, by_⟩ hsq (by omega)
            generalize a.act ⟨(d : Int), qw, ⟨kind, user0, id, st, pr, ttl, Au, cu, us0⟩, by_⟩ = ar at *
            rintro e w8 ⟨A1, c1', A2, c2', rfl, _, hev, S', hT, hG⟩
            have H8 := Lib.hid (H7.out.gone hT hG)
            have HX8 := Lib.hid (hG.is HX7.out (fun hx => by have := HSl.out _ hx; omega))
            have HL8 := Lib.hid (hG.is HL7.out NS.out)
            have NS' : Hid (¬ S' v5) := fun hx => (hG.new _ hx).elim NS.out (fun h => by omega)
            have HSl' : Hid (∀ x, S' x → x < w8.heap.size) := fun x hx => (H8.out.tab.ok x hx).2
            clear hT hG H7 HX7 HL7 IN7
            have x0 : w8.cell? ⟨wr.heap.size, 0, none⟩ = some (.int .u8 (d : Int)) := HX8.out.cell' rfl
            have x1 : w8.cell? ⟨wr.heap.size, 1, none⟩ = some (.int .i64 qw) := HX8.out.cell' rfl
            have lx := HX8.out.lt
            have bx := (Below.refl w8.heap.size w8).alloc (Nat.le_refl _) (.cells #[.int .i64 ar.2.err, .slice A1 ar.2.vals.length c1', .slice A2 ar.2.evs.length c2', .bool ar.2.lost] 43)
            have H9 := Lib.hid (H8.out.below bx)
            have HL9 := Lib.hid (HL8.out.below bx HL8.out.lt)
            clear bx
            go_wp2_with fail
            go_roundw
            case rel => exact ⟨j + 1, S', ar.1, o0, o1, o2, sq, by omega, by go_num, rfl, HL9.out, hw5, NS'.out, HO'.out, by exact_mod_cast hsq', HF'.out, H9.out⟩
            case measure => simp [intOf]; omega
      · have d1 : decide ((j : Int) < (l.length : Int)) = false := by simp; omega
        go_wp2_with fail
        go_ret
        exact ⟨rfl, H.out.bel⟩

set_option maxRecDepth 100000 in
theorem lifted (os : Os) (started : os.Started) (H : Type) (enc : TypeId × Value → H) :
    ReturnsInHanded {} Tryz.checked os 6 .any (Rows.modelTellsSpec.pre6 enc Tryz.prog Tryz.f6 Rows.modelTellsRow.domain false) (Rows.modelTellsSpec.post enc Tryz.prog Tryz.f6 false true false false) := by
  refine returnsInHanded_of_change (C := Tryz.checked) own started (by kernel_rfl) Tryz.func6
    (ChangeSpec.witness6 (enc := enc) (C := Tryz.checked) false ⟨#[], #[.slice none 0 0], []⟩ 8 (by kernel_rfl) (by kernel_rfl) (by kernel_rfl) (by kernel_rfl)) ?_
  intro W base args ds gs before hval0 hW hcnd _
  have hval : ∀ (j : Nat) t v, Tryz.f6.params[j]? = some t → args[j]? = some v → Value.okWide Tryz.prog W .any base t v := hval0
  have hW' := hW
  obtain ⟨p, q, hA0, hV, rfl, hfz, hnd⟩ := hW
  have hA : DataW.TrodAll enc Tryz.prog W 0 (fun _ => true) true Tryz.f6.params.toList args.toList ds p := hA0
  rw [Tryz.params6] at hA hval
  obtain ⟨v0, vs0, d0, ds0, p0, q0, hargs, rfl, rfl, h0, r0⟩ := trodAll_cons hA
  obtain ⟨rfl, rfl, rfl⟩ := trodAll_nil r0
  obtain rfl : args = #[v0] := by cases args; simp_all
  obtain ⟨A, c, l, rfl, hs, hl, hq⟩ := open_acts (hval 0 25 v0 rfl rfl) h0
  refine (walk l A c W hs hl hq).mono fun e W' ⟨he, bel⟩ => ?_
  subst he
  exact ⟨_, rfl, Law.post_law laidOut (by kernel_rfl) (by kernel_rfl) Tryz.underlying4 rfl (fun ds h => by match ds, h with | [_], _ => rfl) hW' bel⟩

theorem proved : Rows.ModelTellsSaid :=
  OpenClaim.holds_of_wide 6 Tryz.f6 rfl rfl rfl rfl rfl rfl rfl ⟨rfl, rfl, rfl, rfl, rfl⟩ rfl rfl rfl rfl rfl (by kernel_rfl) Tryz.func6 (by kernel_rfl)
    (of_decide_eq_true (by kernel_rfl)) (by unfold Func.isWrapper; rw [if_neg (by decide +kernel)]; exact ⟨rfl, rfl⟩)
    (fun os started H enc _ => lifted os started H enc)
#print axioms proved
end modelTells
end Go.Proofs.YtombdjkfbjpipaaGreat

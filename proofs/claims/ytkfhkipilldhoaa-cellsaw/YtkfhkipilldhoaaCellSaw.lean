/-
  CellSaw: whatever the bound, the acts and the two places, the statement's function returns true, and the arguments read as before. No condition.
-/
import Derived.Test.YtkfhkipilldhoaaCell02
import Derived.Test.YtkfhkipilldhoaaBools
import Derived.Lib.QuietBelow
import Derived.Test.YtkfhkipilldhoaaSlices
import Derived.Deep.QuietTactic
namespace Go.Proofs.Ytkfhkipilldhoaa.cellSaw
open Go.ChangeShapes Go.WideShapes Go.ChangeAt Go.RowKit
open Door Go.Proofs.Ytkfhkipilldhoaa.Cell

/-- the epoch behind k acts -/
def ep (f : Nat → Bool) (B : Int) : Nat → Int
  | 0 => 0
  | k + 1 => if f k then beg (ep f B k) B else fin (ep f B k)
theorem ep_ok {f : Nat → Bool} {B : Int} (h : Ok 0 B) : ∀ k, Ok (ep f B k) B
  | 0 => h
  | k + 1 => by
    unfold ep
    split
    · exact beg_ok (ep_ok h k)
    · exact fin_ok (ep_ok h k)
theorem ep_step (f : Nat → Bool) (B : Int) (k : Nat) : ep f B k ≤ ep f B (k + 1) := by
  show _ ≤ (if f k then beg (ep f B k) B else fin (ep f B k))
  unfold beg fin
  repeat' split
  all_goals omega
theorem ep_le (f : Nat → Bool) (B : Int) {j k : Nat} (h : j ≤ k) : ep f B j ≤ ep f B k := by
  induction h with
  | refl => exact Int.le_refl _
  | step _ ih => exact Int.le_trans ih (ep_step f B _)
/-- what a look at a holds behind k acts -/
def at_ (f : Nat → Bool) (B : Int) (a k : Nat) : Int := if a < k then ep f B a else 0
theorem at_here (f : Nat → Bool) (B : Int) (a : Nat) : at_ f B a (a + 1) = ep f B a := if_pos (by omega)
theorem at_else (f : Nat → Bool) (B : Int) {a k : Nat} (h : k ≠ a) : at_ f B a (k + 1) = at_ f B a k := by
  unfold at_
  by_cases h1 : a < k
  · rw [if_pos h1, if_pos (by omega)]
  · rw [if_neg h1, if_neg (by omega)]
theorem at_end (f : Nat → Bool) (B : Int) {a k : Nat} (h : a < k) : at_ f B a k = ep f B a := if_pos h
/-- whether something was written between a and q, behind k acts -/
def saw (f : Nat → Bool) (B : Int) (a q k : Nat) : Bool := decide (ep f B (min a k) ≠ ep f B (min q k))
theorem saw_no {f : Nat → Bool} {B : Int} {a q k : Nat} (haq : a ≤ q) (h : ¬(a ≤ k ∧ k < q)) : saw f B a q (k + 1) = saw f B a q k := by
  unfold saw
  by_cases h1 : a ≤ k
  · rw [show min a (k + 1) = min a k by omega, show min q (k + 1) = min q k by omega]
  · rw [show min a (k + 1) = k + 1 by omega, show min q (k + 1) = k + 1 by omega, show min a k = k by omega, show min q k = k by omega]
    simp
theorem saw_yes {f : Nat → Bool} {B : Int} {a q k : Nat} (h1 : a ≤ k) (h2 : k < q) (h : ep f B k ≠ ep f B (k + 1)) : saw f B a q (k + 1) = true := by
  unfold saw
  rw [show min a (k + 1) = a by omega, show min q (k + 1) = k + 1 by omega]
  have := ep_le f B h1
  have := ep_step f B k
  simp
  omega
theorem saw_same {f : Nat → Bool} {B : Int} {a q k : Nat} (h1 : a ≤ k) (h2 : k < q) (h : ep f B k = ep f B (k + 1)) : saw f B a q (k + 1) = saw f B a q k := by
  unfold saw
  rw [show min a (k + 1) = a by omega, show min q (k + 1) = k + 1 by omega, show min a k = a by omega, show min q k = k by omega, h]
theorem saw_end {f : Nat → Bool} {B : Int} {a q n : Nat} (haq : a ≤ q) (h : q < n) : saw f B a q n = decide (ep f B a ≠ ep f B q) := by
  unfold saw
  rw [show min a n = a by omega, show min q n = q by omega]
theorem saw_zero (f : Nat → Bool) (B : Int) (a q : Nat) : saw f B a q 0 = false := by
  unfold saw
  simp
/-- the three epochs -/
def Three (w : World) (g gx gy : Nat) (v vx vy B : Int) (wr : World) : Prop := Has w g v B wr ∧ Has w gx vx B wr ∧ Has w gy vy B wr
section
variable {w wr : World} {g gx gy : Nat} {v vx vy B : Int}
theorem Three.next {w' : World} (h : Three w g gx gy v vx vy B wr) (hb : Below wr.heap.size wr w') : Three w g gx gy v vx vy B w' := ⟨h.1.next hb, h.2.1.next hb, h.2.2.next hb⟩
theorem Three.c (h : Three w g gx gy v vx vy B wr) (n1 : gx ≠ g) (n2 : gy ≠ g) (u : Int) : Three w g gx gy u vx vy B ((wr.setCell ⟨g, 0, none⟩ (.int .u64 u)).setCell ⟨g, 1, none⟩ (.int .u64 B)) :=
  ⟨h.1.put u B, h.2.1.far n1 h.1.ge u B, h.2.2.far n2 h.1.ge u B⟩
theorem Three.x (h : Three w g gx gy v vx vy B wr) (n1 : gx ≠ g) (n3 : gx ≠ gy) (u : Int) : Three w g gx gy v u vy B ((wr.setCell ⟨gx, 0, none⟩ (.int .u64 u)).setCell ⟨gx, 1, none⟩ (.int .u64 B)) :=
  ⟨h.1.far n1.symm h.2.1.ge u B, h.2.1.put u B, h.2.2.far n3.symm h.2.1.ge u B⟩
theorem Three.y (h : Three w g gx gy v vx vy B wr) (n2 : gy ≠ g) (n3 : gx ≠ gy) (u : Int) : Three w g gx gy v vx u B ((wr.setCell ⟨gy, 0, none⟩ (.int .u64 u)).setCell ⟨gy, 1, none⟩ (.int .u64 B)) :=
  ⟨h.1.far n2.symm h.2.2.ge u B, h.2.1.far n3 h.2.2.ge u B, h.2.2.put u B⟩
end

/-- two blocks of epochs are alike and apart -/
def Two (w : World) (g : Nat) (v B : Int) (x y : Value) (wr : World) : Prop :=
  ∃ gx gy : Nat, x = .pointer (some ⟨gx, 0, none⟩) ∧ y = .pointer (some ⟨gy, 0, none⟩) ∧ gx ≠ g ∧ gy ≠ g ∧ gx ≠ gy ∧ Has w g v B wr ∧ Has w gx v B wr ∧ Has w gy v B wr

theorem Two.mk1 {w w3 : World} {g : Nat} {v B : Int} (h : Has w g v B w3) : Two w g v B (.pointer (some ⟨w3.heap.size, 0, none⟩)) (.pointer (some ⟨w3.heap.size + 1, 0, none⟩)) ((w3.alloc (C v B)).alloc (C v B)).drew := by
  have h1 := h.next (one w3 (C v B))
  have x1 := Has.new v B h.below
  have y2 := Has.new v B x1.below
  have l := h.lt
  rw [show (w3.alloc (C v B)).heap.size = w3.heap.size + 1 by simp] at y2
  exact ⟨_, _, rfl, rfl, by omega, by omega, by omega, (h1.next (one _ _)).drewN 1, (x1.next (one _ _)).drewN 1, y2.drewN 1⟩
theorem Two.mk2 {w w3 : World} {g : Nat} {v B : Int} (h : Has w g v B w3) : Two w g v B (.pointer (some ⟨w3.heap.size + 1, 0, none⟩)) (.pointer (some ⟨w3.heap.size, 0, none⟩)) ((w3.alloc (C v B)).alloc (C v B)).drew := by
  obtain ⟨gx, gy, e1, e2, h1, h2, h3, h4, h5, h6⟩ := Two.mk1 h
  exact ⟨gy, gx, e2, e1, h2, h1, h3.symm, h4, h6, h5⟩

set_option maxRecDepth 100000 in
set_option maxHeartbeats 3200000 in
theorem walk (b : Int) (A : Option Addr) (n c from_ to_ : Nat) (f : Nat → Bool) (hb : U b) (h1 : from_ ≤ 255) (h2 : to_ ≤ 255) (hn : n ≤ 400) (w : World) (hf : Law.Flags w w.heap.size A n f) :
    Calls Try.prog 5 #[.int .u64 b, .slice A n c, .int .u8 (from_ : Int), .int .u8 (to_ : Int)] w fun e w' => e = .returned (.bool true) ∧ Below w.heap.size w w' := by
  have d0 : decide (400 < (n : Int)) = false := by simp; omega
  have HO := Lib.hid (Ok.new hb)
  have HF := Lib.hid hf
  clear hf
  go_enter Try.func5, Try.ntmps5
  go_upto_region 5 with (first
    | (go_at_call 8; refine (awake _).mono ?_; rintro e w1 ⟨rfl, b1⟩)
    | (go_at_call 9; refine (new b hb _).mono ?_; rintro e w2 ⟨rfl, b2⟩))
  have H2 := Lib.hid (Has.new 0 (ev b) (b1.trans (b2.mono b1.size)))
  clear b1 b2
  have HBB : Hid (ev b = ev b) := rfl
  generalize hBB : ev b = B at *
  clear HBB
  have HBB := Lib.hid hBB
  clear hBB
  have c0 := H2.out.c0
  have c1 := H2.out.c1
  have l0 := H2.out.lt
  generalize w2.alloc (C 0 B) = w3 at *
  generalize w2.heap.size = g at *
  go_cut [12, 13] (fun x y wr => Two w g 0 B x y wr)
  case first =>
    go_region
    all_goals
      go_wp2_with fail
      go_meet
    · exact Two.mk1 H2.out
    · exact Two.mk2 H2.out
  case rest =>
    clear c0 c1 l0 H2
    obtain ⟨gx, gy, rfl, rfl, hgx, hgy, hxy, hc, hx, hy⟩ := hcut
    have H3 : Hid (Three w g gx gy 0 0 0 B wc) := ⟨hc, hx, hy⟩
    have haq : from_ ≤ from_ + to_ := by omega
    have hq4 : from_ + to_ ≤ 510 := by omega
    clear hc hx hy
    have hcast : (from_ : Int) + (to_ : Int) = ((from_ + to_ : Nat) : Int) := by simp
    go_wp2_with fail
    rw [hcast]
    clear hcast
    generalize from_ + to_ = q at *
    go_loopw [14, 15] (fun s i wr => ∃ k : Nat, k ≤ n ∧ i = .int .i64 k ∧ s = .bool (saw f B from_ q k) ∧ Three w g gx gy (ep f B k) (at_ f B from_ k) (at_ f B q k) B wr) (fun _ i _ => n - (intOf i).toNat)
    case atStart => exact ⟨0, Nat.zero_le _, rfl, by rw [saw_zero], H3.out⟩
    case round =>
      clear H3
      obtain ⟨k, hk, rfl, rfl, hT⟩ := hrel
      have HT := Lib.hid hT
      clear hT
      by_cases hlt : k < n
      · generalize hS : saw f B from_ q k = s0 at *
        have HS := Lib.hid hS
        clear hS
        generalize hX : at_ f B from_ k = vx at *
        have HX := Lib.hid hX
        clear hX
        generalize hY : at_ f B q k = vy at *
        have HY := Lib.hid hY
        clear hY
        have hst := ep_step f B k
        have HOk := Lib.hid (ep_ok (f := f) HO.out k)
        have HE1 : Hid (ep f B (k + 1) = if f k then beg (ep f B k) B else fin (ep f B k)) := rfl
        have HXn := Lib.hid (at_else f B (a := from_) (k := k))
        have HXh := Lib.hid (fun (e : k = from_) => (e ▸ at_here f B k : at_ f B from_ (k + 1) = ep f B k))
        have HYn := Lib.hid (at_else f B (a := q) (k := k))
        have HYh := Lib.hid (fun (e : k = q) => (e ▸ at_here f B k : at_ f B q (k + 1) = ep f B k))
        have HSn := Lib.hid (saw_no (f := f) (B := B) (a := from_) (q := q) (k := k) haq)
        have HSy := Lib.hid (saw_yes (f := f) (B := B) (a := from_) (q := q) (k := k))
        have HSs := Lib.hid (saw_same (f := f) (B := B) (a := from_) (q := q) (k := k))
        have HFin : Hid (∀ s wx, s = saw f B from_ q (k + 1) → Three w g gx gy (ep f B (k + 1)) (at_ f B from_ (k + 1)) (at_ f B q (k + 1)) B wx →
            ∃ k' : Nat, k' ≤ n ∧ Value.int .i64 ((k : Int) + 1) = .int .i64 k' ∧ Value.bool s = .bool (saw f B from_ q k') ∧ Three w g gx gy (ep f B k') (at_ f B from_ k') (at_ f B q k') B wx) :=
          fun s wx h1 h2 => ⟨k + 1, by omega, by simp, by rw [h1], h2⟩
        rw [HX.out] at HXn
        rw [HY.out] at HYn
        rw [HS.out] at HSn HSs
        generalize ep f B k = v at *
        generalize ep f B (k + 1) = v' at *
        generalize at_ f B from_ (k + 1) = ux at *
        generalize at_ f B q (k + 1) = uy at *
        generalize saw f B from_ q (k + 1) = s1 at *
        go_upto_if 44 with (fail)
        go_cut [14] (fun s wx => s = .bool s0 ∧ Three w g gx gy v ux vy B wx)
        case first =>
          have c0 := HT.out.1.c0
          have c1 := HT.out.1.c1
          have l0 := HT.out.1.lt
          have l1 := HT.out.2.1.lt
          have x0 := HT.out.2.1.c0
          have x1 := HT.out.2.1.c1
          have f0 := HT.out.2.1.is.frozen 0
          have f1 := HT.out.2.1.is.frozen 1
          by_cases he : k = from_
          · have HR : Hid (ux = v) := HXh.out he
            have d1 : ((k : Int) == (from_ : Int)) = true := by rw [he]; simp
            clear he
            go_wp2_with fail
            go_meet
            exact ⟨rfl, by rw [HR.out]; exact HT.out.x hgx hxy v⟩
          · have HR : Hid (ux = vx) := HXn.out he
            have d1 : ((k : Int) == (from_ : Int)) = false := by simp; omega
            clear he
            go_wp2_with fail
            go_meet
            exact ⟨rfl, by rw [HR.out]; exact HT.out⟩
        case rest =>
          clear HT HXn HXh HX
          obtain ⟨rfl, hT⟩ := hcut
          have HT := Lib.hid hT
          clear hT
          go_upto_if 48 with (fail)
          go_cut [14] (fun s wx => s = .bool s0 ∧ Three w g gx gy v ux uy B wx)
          case first =>
            have c0 := HT.out.1.c0
            have c1 := HT.out.1.c1
            have l0 := HT.out.1.lt
            have l1 := HT.out.2.2.lt
            have x0 := HT.out.2.2.c0
            have x1 := HT.out.2.2.c1
            have f0 := HT.out.2.2.is.frozen 0
            have f1 := HT.out.2.2.is.frozen 1
            by_cases he : k = q
            · have HR : Hid (uy = v) := HYh.out he
              have d1 : ((k : Int) == (q : Int)) = true := by rw [he]; simp
              clear he
              go_wp2_with fail
              go_meet
              exact ⟨rfl, by rw [HR.out]; exact HT.out.y hgy hxy v⟩
            · have HR : Hid (uy = vy) := HYn.out he
              have d1 : ((k : Int) == (q : Int)) = false := by simp; omega
              clear he
              go_wp2_with fail
              go_meet
              exact ⟨rfl, by rw [HR.out]; exact HT.out⟩
          case rest =>
            clear HT HYn HYh HY
            obtain ⟨rfl, hT⟩ := hcut
            have c0 := hT.1.c0
            have c1 := hT.1.c1
            have l0 := hT.1.lt
            have HW := Lib.hid (Has.new v B hT.1.below)
            have HT := Lib.hid (hT.next (one _ (C v B)))
            clear hT
            obtain ⟨p, off, rfl, hp, qf⟩ := (HF.out.below HT.out.1.below).at hlt
            have hp2 : p < (wc.alloc (C v B)).heap.size := by have := HT.out.1.below.size; omega
            have hgw : wc.heap.size ≠ g := by omega
            have z0 := HT.out.1.c0
            have z1 := HT.out.1.c1
            have zl := HT.out.1.lt
            go_upto_if 54 with (fail)
            generalize wc.alloc (C v B) = w4 at *
            generalize wc.heap.size = gw at *
            clear c0 c1 l0
            go_cut [14, 16] (fun s t wx => s = .bool s0 ∧ t = .pointer (some ⟨gw, 0, none⟩) ∧ Three w g gx gy v' ux uy B wx ∧ Has w gw v B wx)
            case first =>
              cases hfk : f k with
              | true =>
                have HR : Hid (v' = beg v B) := by rw [HE1.out, hfk]; rfl
                rw [hfk] at qf
                go_wp2_with fail
                refine (begin_ v B HOk.out _).mono ?_
                rintro e w5 ⟨rfl, b5⟩
                have H5 := Lib.hid (HT.out.next b5)
                have W5 := Lib.hid (HW.out.next b5)
                have f0 := H5.out.1.is.frozen 0
                have f1 := H5.out.1.is.frozen 1
                have l5 := H5.out.1.lt
                clear b5 z0 z1 zl hp2 qf
                have y0 := H5.out.1.c0
                have y1 := H5.out.1.c1
                go_wp2_with fail
                go_meet
                exact ⟨rfl, rfl, by rw [HR.out]; exact H5.out.c hgx hgy _, W5.out.far hgw H5.out.1.ge _ _⟩
              | false =>
                have HR : Hid (v' = fin v) := by rw [HE1.out, hfk]; rfl
                rw [hfk] at qf
                go_wp2_with fail
                refine (end_ v B HOk.out _).mono ?_
                rintro e w5 ⟨rfl, b5⟩
                have H5 := Lib.hid (HT.out.next b5)
                have W5 := Lib.hid (HW.out.next b5)
                have f0 := H5.out.1.is.frozen 0
                have f1 := H5.out.1.is.frozen 1
                have l5 := H5.out.1.lt
                clear b5 z0 z1 zl hp2 qf
                have y0 := H5.out.1.c0
                have y1 := H5.out.1.c1
                go_wp2_with fail
                go_meet
                exact ⟨rfl, rfl, by rw [HR.out]; exact H5.out.c hgx hgy _, W5.out.far hgw H5.out.1.ge _ _⟩
            case rest =>
              clear HT HW z0 z1 zl hp2 qf
              obtain ⟨rfl, rfl, hT, hW⟩ := hcut
              have HT := Lib.hid hT
              have HW := Lib.hid hW
              clear hT hW
              by_cases ha : from_ ≤ k
              · have d1 : decide ((from_ : Int) ≤ (k : Int)) = true := by simpa using ha
                by_cases hq : k < q
                · have d2 : decide ((k : Int) < (q : Int)) = true := by simpa using hq
                  have y0 := HT.out.1.c0
                  have y1 := HT.out.1.c1
                  have yl := HT.out.1.lt
                  have z0 := HW.out.c0
                  have z1 := HW.out.c1
                  have zl := HW.out.lt
                  have HK : Hid (∀ w', Kp wc w' → w'.cell? ⟨g, 0, none⟩ = some (.int .u64 v') ∧ w'.cell? ⟨g, 1, none⟩ = some (.int .u64 B) ∧ w'.cell? ⟨gw, 0, none⟩ = some (.int .u64 v) ∧ w'.cell? ⟨gw, 1, none⟩ = some (.int .u64 B) ∧ Kp wc w') :=
                    fun w' K => ⟨K.c yl y0, K.c yl y1, K.c zl z0, K.c zl z1, K⟩
                  have HV := Lib.hid (valueK wc)
                  have K0 := Kp.drew wc
                  by_cases hne : v = v'
                  · have HR : Hid (s1 = s0) := HSs.out ha hq hne
                    have d3 : (v != v') = false := by simpa using hne
                    clear hne
                    go_wp2_with fail
                    go_region_held3 (fun w' => w'.cell? ⟨g, 0, none⟩ = some (.int .u64 v') ∧ w'.cell? ⟨g, 1, none⟩ = some (.int .u64 B) ∧ w'.cell? ⟨gw, 0, none⟩ = some (.int .u64 v) ∧ w'.cell? ⟨gw, 1, none⟩ = some (.int .u64 B) ∧ Kp wc w') (exact HK.out _ (by assumption)) (first
                      | (go_at_call 14; refine (HV.out _ _ _ (by assumption)).mono ?_; rintro e wz ⟨rfl, Kz⟩))
                    all_goals
                      go_wp2_with fail
                      go_roundw
                      case rel => exact HFin.out _ _ HR.out.symm (HT.out.next Kz)
                      case measure => simp [intOf]; omega
                  · have HR : Hid (s1 = true) := HSy.out ha hq hne
                    have d3 : (v != v') = true := by simpa using hne
                    clear hne
                    go_wp2_with fail
                    go_region_held3 (fun w' => w'.cell? ⟨g, 0, none⟩ = some (.int .u64 v') ∧ w'.cell? ⟨g, 1, none⟩ = some (.int .u64 B) ∧ w'.cell? ⟨gw, 0, none⟩ = some (.int .u64 v) ∧ w'.cell? ⟨gw, 1, none⟩ = some (.int .u64 B) ∧ Kp wc w') (exact HK.out _ (by assumption)) (first
                      | (go_at_call 14; refine (HV.out _ _ _ (by assumption)).mono ?_; rintro e wz ⟨rfl, Kz⟩))
                    all_goals
                      go_wp2_with fail
                      go_roundw
                      case rel => exact HFin.out _ _ HR.out.symm (HT.out.next Kz)
                      case measure => simp [intOf]; omega
                · have d2 : decide ((k : Int) < (q : Int)) = false := by simp; omega
                  have HR : Hid (s1 = s0) := HSn.out (fun h => hq h.2)
                  go_wp2_with fail
                  go_quiet (fail)
                  go_wp2_with fail
                  go_roundw
                  case rel => exact HFin.out _ _ HR.out.symm (HT.out.next (Law.below_drewN (Below.refl _ _) _))
                  case measure => simp [intOf]; omega
              · have d1 : decide ((from_ : Int) ≤ (k : Int)) = false := by simp; omega
                have HR : Hid (s1 = s0) := HSn.out (fun h => ha h.1)
                go_wp2_with fail
                go_quiet (fail)
                go_wp2_with fail
                go_roundw
                case rel => exact HFin.out _ _ HR.out.symm (HT.out.next (Law.below_drewN (Below.refl _ _) _))
                case measure => simp [intOf]; omega
      · obtain rfl : k = n := by omega
        by_cases hqn : k ≤ q
        · have d1 : decide ((k : Int) ≤ (q : Int)) = true := by simpa using hqn
          go_wp2_with fail
          go_ret
          exact ⟨rfl, HT.out.1.below⟩
        · have d1 : decide ((k : Int) ≤ (q : Int)) = false := by simp; omega
          have HS := Lib.hid (saw_end (f := f) (B := B) haq (show q < k by omega))
          have HX := Lib.hid (at_end f B (a := from_) (show from_ < k by omega))
          have HY := Lib.hid (at_end f B (a := q) (show q < k by omega))
          have HOx := Lib.hid (ep_ok (f := f) HO.out from_)
          have HOy := Lib.hid (ep_ok (f := f) HO.out q)
          rw [HX.out, HY.out] at HT
          clear HX HY
          rw [HS.out]
          clear HS
          generalize ep f B from_ = vx at *
          generalize ep f B q = vy at *
          generalize ep f B k = v at *
          have x0 := HT.out.2.1.c0
          have x1 := HT.out.2.1.c1
          have xl := HT.out.2.1.lt
          have y0 := HT.out.2.2.c0
          have y1 := HT.out.2.2.c1
          have yl := HT.out.2.2.lt
          have HK : Hid (∀ w', Kp wr w' → w'.cell? ⟨gx, 0, none⟩ = some (.int .u64 vx) ∧ w'.cell? ⟨gx, 1, none⟩ = some (.int .u64 B) ∧ w'.cell? ⟨gy, 0, none⟩ = some (.int .u64 vy) ∧ w'.cell? ⟨gy, 1, none⟩ = some (.int .u64 B) ∧ Kp wr w') :=
            fun w' K => ⟨K.c xl x0, K.c xl x1, K.c yl y0, K.c yl y1, K⟩
          have HV := Lib.hid (valueK wr)
          have K0 := Kp.drew wr
          have HL : Hid (∀ w', Kp wr w' → Calls Try.prog 18 #[.int .u64 vx, .int .u64 vy, .int .u64 b] w' fun e w'' => e = .returned (.bool (val vx vy b)) ∧ Kp wr w'') := fun w' K => (valid vx vy b HOx.out.U hb w').mono fun _ _ ⟨h1, h2⟩ => ⟨h1, h2 ▸ K⟩
          have HVal : Hid (val vx vy b = (vx == vy && !(vx % 2 == 1) && decide (vx < B))) := by unfold val; rw [HBB.out]; rfl
          generalize val vx vy b = r at *
          go_wp2_with fail
          go_region_held3 (fun w' => w'.cell? ⟨gx, 0, none⟩ = some (.int .u64 vx) ∧ w'.cell? ⟨gx, 1, none⟩ = some (.int .u64 B) ∧ w'.cell? ⟨gy, 0, none⟩ = some (.int .u64 vy) ∧ w'.cell? ⟨gy, 1, none⟩ = some (.int .u64 B) ∧ Kp wr w') (exact HK.out _ (by assumption)) (first
            | (go_at_call 14; refine (HV.out _ _ _ (by assumption)).mono ?_; rintro e wz ⟨rfl, Kz⟩)
            | (go_at_call 18; refine (HL.out _ (by assumption)).mono ?_; rintro e wz ⟨rfl, Kz⟩))
          have H8 := Lib.hid (HT.out.next Kz)
          clear HT HK HV K0 HL x0 x1 xl y0 y1 yl
          clear Kz
          generalize hw8 : wz = w8 at *
          clear hw8
          have x0 := H8.out.2.1.c0
          have x1 := H8.out.2.1.c1
          have xl := H8.out.2.1.lt
          have y0 := H8.out.2.2.c0
          have y1 := H8.out.2.2.c1
          have yl := H8.out.2.2.lt
          cases r with
          | true =>
            have hV := HVal.out.symm
            simp only [Bool.and_eq_true, beq_iff_eq, decide_eq_true_eq, Bool.not_eq_true', beq_eq_false_iff_ne] at hV
            obtain ⟨⟨rfl, hm⟩, hlt'⟩ := hV
            have d2 : (vx % 2 == 1) = false := by simpa using hm
            have d3 : (vx == B) = false := by simp; omega
            clear hm hlt' HVal
            go_wp2_with fail
            refine (writing1 vx B false HOx.out.U d2 _).mono ?_
            rintro e w9 ⟨rfl, b9⟩
            have H9 := Lib.hid (H8.out.next b9)
            clear b9 H8 x0 x1 xl y0 y1 yl
            have x0 := H9.out.2.1.c0
            have x1 := H9.out.2.1.c1
            have xl := H9.out.2.1.lt
            have y0 := H9.out.2.2.c0
            have y1 := H9.out.2.2.c1
            have yl := H9.out.2.2.lt
            go_wp2_with fail
            refine (writing1 vx B false HOx.out.U d2 _).mono ?_
            rintro e w10 ⟨rfl, b10⟩
            have H10 := Lib.hid (H9.out.next b10)
            clear b10 H9 x0 x1 xl y0 y1 yl
            have x0 := H10.out.2.1.c0
            have x1 := H10.out.2.1.c1
            have xl := H10.out.2.1.lt
            have y0 := H10.out.2.2.c0
            have y1 := H10.out.2.2.c1
            have yl := H10.out.2.2.lt
            go_wp2_with fail
            refine (spent1 vx B false d3 _).mono ?_
            rintro e w11 ⟨rfl, b11⟩
            have H11 := Lib.hid (H10.out.next b11)
            clear b11 H10 x0 x1 xl y0 y1 yl
            have x0 := H11.out.2.1.c0
            have x1 := H11.out.2.1.c1
            have xl := H11.out.2.1.lt
            have y0 := H11.out.2.2.c0
            have y1 := H11.out.2.2.c1
            have yl := H11.out.2.2.lt
            go_wp2_with fail
            go_ret
            exact ⟨rfl, H11.out.1.below⟩
          | false =>
            have q0 := cell_regrown x0
            have q1 := cell_regrown x1
            have q2 := cell_regrown y0
            have q3 := cell_regrown y1
            clear x0 x1 xl y0 y1 yl
            by_cases hxv : vx = vy
            · have d2 : (vx != vy) = false := by simpa using hxv
              cases hm : (vx % 2 == 1) with
              | true =>
                clear hxv
                go_wp2_with fail
                refine wp_region_quiet_below (by kernel_rfl) (by kernel_rfl) ?_
                repeat (quiet_step (first
                  | (go_at_call 14; exact Calls.regrown_of (value _ _ _))
                  | (go_at_call 17; exact Calls.regrown_of (writing1 vx B true HOx.out.U hm _))))
                refine wpQuiet_nil ?_
                intro _ hw'
                obtain ⟨⟨nq, osq⟩, hw''⟩ := hw'
                subst hw''
                have H9 := Lib.hid (H8.out.next (below_regrown w8 nq osq))
                clear q0 q1 q2 q3
                generalize Go.Sort.grow (redrawn w8 nq) osq = w9 at *
                go_wp2_with fail
                go_ret
                exact ⟨rfl, H9.out.1.below⟩
              | false =>
                have hs : (vx == B) = true := by
                  have h1 := HVal.out
                  rw [hm, show (vx == vy) = true by simpa using hxv] at h1
                  have h2 := HOx.out.le
                  simp at h1 ⊢
                  omega
                clear hxv
                go_wp2_with fail
                refine wp_region_quiet_below (by kernel_rfl) (by kernel_rfl) ?_
                repeat (quiet_step (first
                  | (go_at_call 14; exact Calls.regrown_of (value _ _ _))
                  | (go_at_call 17; exact Calls.regrown_of (writing1 vx B false HOx.out.U hm _))
                  | (go_at_call 15; exact Calls.regrown_of (spent1 vx B true hs _))))
                refine wpQuiet_nil ?_
                intro _ hw'
                obtain ⟨⟨nq, osq⟩, hw''⟩ := hw'
                subst hw''
                have H9 := Lib.hid (H8.out.next (below_regrown w8 nq osq))
                clear q0 q1 q2 q3
                generalize Go.Sort.grow (redrawn w8 nq) osq = w9 at *
                go_wp2_with fail
                go_ret
                exact ⟨rfl, H9.out.1.below⟩
            · have d2 : (vx != vy) = true := by simpa using hxv
              clear hxv
              go_wp2_with fail
              refine wp_region_quiet_below (by kernel_rfl) (by kernel_rfl) ?_
              repeat (quiet_step (first
                | (go_at_call 14; exact Calls.regrown_of (value _ _ _))))
              refine wpQuiet_nil ?_
              intro _ hw'
              obtain ⟨⟨nq, osq⟩, hw''⟩ := hw'
              subst hw''
              have H9 := Lib.hid (H8.out.next (below_regrown w8 nq osq))
              clear q0 q1 q2 q3
              generalize Go.Sort.grow (redrawn w8 nq) osq = w9 at *
              go_wp2_with fail
              go_ret
              exact ⟨rfl, H9.out.1.below⟩

theorem walkLong (b r1 r2 : Int) (A : Option Addr) (n c : Nat) (hn : 400 < n) (w : World) :
    Calls Try.prog 5 #[.int .u64 b, .slice A n c, .int .u8 r1, .int .u8 r2] w fun e w' => e = .returned (.bool true) ∧ Below w.heap.size w w' := by
  have d0 : decide (400 < (n : Int)) = true := by simp; omega
  go_enter Try.func5, Try.ntmps5
  go_wp2_with fail
  refine (awake w).mono ?_
  rintro e w1 ⟨rfl, b1⟩
  have HB := Lib.hid b1
  clear b1
  go_wp2_with fail
  refine (awake _).mono ?_
  rintro e w2 ⟨rfl, b2⟩
  have HB2 := Lib.hid (HB.out.trans (b2.mono HB.out.size))
  clear b2
  go_wp2_with fail
  go_ret
  exact ⟨rfl, HB2.out⟩

theorem walk0 (b r1 r2 : Int) (A : Option Addr) (n c : Nat) (f : Nat → Bool) (hb : U b) (h1 : (Lit.int .u8 r1).wf = true) (h2 : (Lit.int .u8 r2).wf = true) (w : World) (hf : Law.Flags w w.heap.size A n f) :
    Calls Try.prog 5 #[.int .u64 b, .slice A n c, .int .u8 r1, .int .u8 r2] w fun e w' => e = .returned (.bool true) ∧ Below w.heap.size w w' := by
  have k1 := bounds_u8 h1
  have k2 := bounds_u8 h2
  obtain ⟨m1, rfl⟩ := Int.eq_ofNat_of_zero_le k1.1
  obtain ⟨m2, rfl⟩ := Int.eq_ofNat_of_zero_le k2.1
  by_cases h : n ≤ 400
  · exact walk b A n c m1 m2 f hb (by omega) (by omega) h w hf
  · exact walkLong b _ _ A n c (by omega) w

set_option maxRecDepth 100000 in
theorem lifted (os : Os) (started : os.Started) (H : Type) (enc : TypeId × Value → H) :
    ReturnsInHanded {} Try.checked os 5 .any (Rows.cellSawSpec.pre6 enc Try.prog Try.f5 Rows.cellSawRow.domain false) (Rows.cellSawSpec.post enc Try.prog Try.f5 false true false false) := by
  refine returnsInHanded_of_change (C := Try.checked) own started (by kernel_rfl) Try.func5
    (ChangeSpec.witness6 (enc := enc) (C := Try.checked) false ⟨#[], #[.int .u64 0, .slice none 0 0, .int .u8 0, .int .u8 0], []⟩ 8 (by kernel_rfl) (by kernel_rfl) (by kernel_rfl) (by kernel_rfl)) ?_
  intro W base args ds gs before hval0 hW hcnd _
  have hval : ∀ (j : Nat) t v, Try.f5.params[j]? = some t → args[j]? = some v → Value.okWide Try.prog W .any base t v := hval0
  have hW' := hW
  obtain ⟨p, q, hA0, hV, rfl, hfz, hnd⟩ := hW
  have hA : DataW.TrodAll enc Try.prog W 0 (fun _ => true) true Try.f5.params.toList args.toList ds p := hA0
  rw [Try.params5] at hA hval
  obtain ⟨v0, vs0, d0, ds0, p0, q0, hargs, rfl, rfl, h0, r0⟩ := trodAll_cons hA
  obtain ⟨v1, vs1, d1, ds1, p1, q1, rfl, rfl, rfl, h1, r1⟩ := trodAll_cons r0
  obtain ⟨v2, vs2, d2, ds2, p2, q2, rfl, rfl, rfl, h2, r2⟩ := trodAll_cons r1
  obtain ⟨v3, vs3, d3, ds3, p3, q3, rfl, rfl, rfl, h3, r3⟩ := trodAll_cons r2
  obtain ⟨rfl, rfl, rfl⟩ := trodAll_nil r3
  obtain rfl : args = #[v0, v1, v2, v3] := by cases args; simp_all
  obtain ⟨a0, rfl, rfl, rfl, w0⟩ := open_int Try.underlying22 (hval 0 22 v0 rfl rfl) h0
  obtain ⟨A, n, c, f, rfl, hf⟩ := Law.open_flags Try.underlying23 Try.underlying4 (by kernel_rfl) (hval 1 23 v1 rfl rfl) h1
  obtain ⟨a2, rfl, rfl, rfl, w2⟩ := open_int Try.underlying5 (hval 2 5 v2 rfl rfl) h2
  obtain ⟨a3, rfl, rfl, rfl, w3⟩ := open_int Try.underlying5 (hval 3 5 v3 rfl rfl) h3
  refine (walk0 a0 a2 a3 A n c f (ofwf w0) w2 w3 W hf).mono fun e W' ⟨he, bel⟩ => ?_
  subst he
  exact ⟨_, rfl, Law.post_law laidOut (by kernel_rfl) (by kernel_rfl) Try.underlying4 rfl (fun ds h => by match ds, h with | [_, _, _, _], _ => rfl) hW' bel⟩

theorem proved : Rows.CellSawSaid :=
  OpenClaim.holds_of_wide 5 Try.f5 rfl rfl rfl rfl rfl rfl rfl ⟨rfl, rfl, rfl, rfl, rfl⟩ rfl rfl rfl rfl rfl (by kernel_rfl) Try.func5 (by kernel_rfl)
    (of_decide_eq_true (by kernel_rfl)) (by unfold Func.isWrapper; rw [if_neg (by decide +kernel)]; exact ⟨rfl, rfl⟩)
    (fun os started H enc _ => lifted os started H enc)
#print axioms proved
end Go.Proofs.Ytkfhkipilldhoaa.cellSaw

/-
  Writings and sweeps are counted, and nothing else; time goes on by Ticks alone. For all lists of acts, no condition.
-/
import Derived.Test.YtombdjkfbjpipaaGreatJ25
namespace Go.Proofs.YtombdjkfbjpipaaGreat
open Go.RowKit Go.ChangeShapes Go.WideShapes Go.ChangeAt
namespace modelSeq
open Feed Go.Law Bk Go.Proofs.YtombdjkfbjpipaaGreat.Mod
set_option maxRecDepth 100000 in
set_option maxHeartbeats 4000000 in
theorem walk (l : List AcM) (A : Option Addr) (c : Nat) (w : World) (hs : Seq w 0 w.heap.size A (l.flatMap cellsM)) (hl : l.length ≤ maxLen) (hq : ∀ q ∈ l, q.Good w) :
    Calls Tryz.prog 9 #[.slice A l.length c] w fun e w' => e = .returned (.bool true) ∧ Below w.heap.size w w' := by
  have HS := Lib.hid hs
  have HQ := Lib.hid hq
  have HL := Lib.hid hl
  clear hs hq hl
  cases hlong : longM l with
  | true =>
    go_enter Tryz.func9, Tryz.ntmps9
    go_wp2_with fail
    refine (awake w).mono ?_
    rintro e w1 ⟨rfl, b1⟩
    have HB1 := Lib.hid b1
    clear b1
    go_wp2_with fail
    refine (long l A c w1 ((HS.out.below HB1.out).more HB1.out.size) HL.out (fun q hx => (HQ.out q hx).op.in_.below HB1.out) hlong).mono ?_
    rintro e w2 ⟨rfl, b2⟩
    have HB2 := Lib.hid (HB1.out.trans (b2.mono HB1.out.size))
    clear b2
    go_wp2_with fail
    refine (awake w2).mono ?_
    rintro e w3 ⟨rfl, b3⟩
    have HB3 := Lib.hid (HB2.out.trans (b3.mono HB2.out.size))
    clear b3
    go_wp2_with fail
    go_ret
    exact ⟨rfl, HB3.out⟩
  | false =>
    obtain ⟨hl1, hsh⟩ := longM_no hlong
    go_enter Tryz.func9, Tryz.ntmps9
    go_wp2_with fail
    refine (awake w).mono ?_
    rintro e w1 ⟨rfl, b1⟩
    have HB1 := Lib.hid b1
    clear b1
    go_wp2_with fail
    refine (long l A c w1 ((HS.out.below HB1.out).more HB1.out.size) HL.out (fun q hx => (HQ.out q hx).op.in_.below HB1.out) hlong).mono ?_
    rintro e w2 ⟨rfl, b2⟩
    have HB2 := Lib.hid (HB1.out.trans (b2.mono HB1.out.size))
    clear b2 HB1
    go_wp2_with fail
    refine (small_ w2).mono ?_
    rintro e w3 ⟨rfl, b3⟩
    have HB3 := Lib.hid (HB2.out.trans (b3.mono HB2.out.size))
    clear b3 HB2
    go_wp2_with fail
    refine (new_yes small w3 (base := w.heap.size) HB3.out.size small_right).mono ?_
    rintro e w4 ⟨m, S, rfl, hT, hS, hB⟩
    have H : Hid (Live w w4 w.heap.size S m (Mo.new small)) := ⟨hT, HB3.out.trans (hB.mono HB3.out.size), fun x hx => Nat.le_trans HB3.out.size (hS x hx)⟩
    clear hT hS hB HB3
    go_wp2_with fail
    go_loopw [5, 6, 7] (fun vn vt vi wr => ∃ (j : Nat) (S : Nat → Prop), j ≤ l.length ∧ vi = .int .i64 j ∧ vn = .int .u64 ((Mo.new small).run (l.take j)).seq ∧ vt = .int .u64 ((Mo.new small).run (l.take j)).now ∧ ((Mo.new small).run (l.take j)).seq ≤ (j : Int) ∧ Live w wr w.heap.size S m ((Mo.new small).run (l.take j))) (fun _ _ vi _ => l.length - (intOf vi).toNat)
    case atStart => exact ⟨0, S, Nat.zero_le _, rfl, rfl, rfl, Int.le_refl 0, H.out⟩
    case round =>
      clear H
      obtain ⟨j, S, hj, rfl, rfl, rfl, hsq, hL⟩ := hrel
      have H := Lib.hid hL
      clear hL
      by_cases hlt : j < l.length
      · have d1 : decide ((j : Int) < (l.length : Int)) = true := by simp; omega
        have hB := H.out.bel
        obtain ⟨b, off, rfl, _, hb, c0, c1, c2, c3, c4, c5, c6, c7, c8, c9⟩ := (HS.out.below hB).acM hlt
        have HM := Lib.hid (List.getElem_mem hlt)
        have HG := Lib.hid (HQ.out _ HM.out)
        have HIN := Lib.hid (HG.out.op.in_.below hB)
        have lb : b < wr.heap.size := Nat.lt_of_lt_of_le hb hB.size
        have HR := Lib.hid (run_take (Mo.new small) hlt)
        have HO := Lib.hid (run_ok_take new_small_ok (fun q hx => bounds_u64 (HQ.out q hx).by_) hl1 j)
        clear hB
        generalize l[j] = q at *
        obtain ⟨dI, qw, ⟨kind, user, id, st, pr, ttl, Au, cu, us⟩, by_⟩ := q
        obtain ⟨d, hd⟩ := Int.eq_ofNat_of_zero_le (bounds_u8 HG.out.do_).1
        simp only at hd
        subst hd
        have hd255 := (bounds_u8 HG.out.do_).2
        have hby := bounds_u64 HG.out.by_
        simp only at c0 c1 c2 c3 c4 c5 c6 c7 c8 c9 hd255 hby
        go_wp2_with fail
        have HB0 := (Below.refl wr.heap.size wr).alloc (Nat.le_refl _) (.cells #[.int .u8 (d : Int), .int .i64 qw, .int .i64 kind, .string user, .int .i64 id, .int .i64 st, .int .i64 pr, .int .u64 ttl, .slice Au us.length cu, .int .u64 by_] 39)
        have HX := Lib.hid (Is.new wr 39 #[.int .u8 (d : Int), .int .i64 qw, .int .i64 kind, .string user, .int .i64 id, .int .i64 st, .int .i64 pr, .int .u64 ttl, .slice Au us.length cu, .int .u64 by_] rfl)
        have H1 := Lib.hid (H.out.below HB0)
        have IN1 := Lib.hid (HIN.out.below HB0)
        have hok := H.out.tab.ok
        have NX : ¬ S wr.heap.size := fun hx => by have := (hok _ hx).2; omega
        clear HB0 hok
        generalize (wr.alloc (.cells #[.int .u8 (d : Int), .int .i64 qw, .int .i64 kind, .string user, .int .i64 id, .int .i64 st, .int .i64 pr, .int .u64 ttl, .slice Au us.length cu, .int .u64 by_] 39)) = w5 at *
        have HA := Lib.hid (act_seq ((Mo.new small).run (l.take j)) ⟨(d : Int), qw, ⟨kind, user, id, st, pr, ttl, Au, cu, us⟩, by_⟩)
        have HN := Lib.hid (act_now ((Mo.new small).run (l.take j)) ⟨(d : Int), qw, ⟨kind, user, id, st, pr, ttl, Au, cu, us⟩, by_⟩)
        have HNn : Hid (((Mo.new small).run (l.take j)).n = 3) := (run_as (l.take j) (Mo.new small)).2.2.1
        have hsb := HO.out.seq
        have hnb := HO.out.now
        refine (befalls ⟨(d : Int), qw, ⟨kind, user, id, st, pr, ttl, Au, cu, us⟩, by_⟩ H1.out.tab HO.out (by omega) H1.out.bel.size IN1.out ⟨Int.natCast_nonneg _, hd255⟩ hby).mono ?_
        generalize (Mo.new small).run (l.take j) = a at *
        have HU : Hid (∃ a', (a.act ⟨(d : Int), qw, ⟨kind, user, id, st, pr, ttl, Au, cu, us⟩, by_⟩).1 = a') := ⟨_, rfl⟩
        obtain ⟨a', ha'⟩ := HU.out
        rintro e w6 ⟨A1, c1', A2, c2', rfl, _, _, S', hT, hG⟩
        rw [ha'] at hT HA HN HR
        have H6 := Lib.hid (H1.out.gone hT hG)
        have HX6 := Lib.hid (hG.is HX.out NX)
        clear hT hG HX H1 NX HU ha'
        have x0 : w6.cell? ⟨wr.heap.size, 0, none⟩ = some (.int .u8 (d : Int)) := HX6.out.cell' rfl
        have x1 : w6.cell? ⟨wr.heap.size, 1, none⟩ = some (.int .i64 qw) := HX6.out.cell' rfl
        have x2 : w6.cell? ⟨wr.heap.size, 2, none⟩ = some (.int .i64 kind) := HX6.out.cell' rfl
        have x3 : w6.cell? ⟨wr.heap.size, 3, none⟩ = some (.string user) := HX6.out.cell' rfl
        have x4 : w6.cell? ⟨wr.heap.size, 4, none⟩ = some (.int .i64 id) := HX6.out.cell' rfl
        have x5 : w6.cell? ⟨wr.heap.size, 5, none⟩ = some (.int .i64 st) := HX6.out.cell' rfl
        have x6 : w6.cell? ⟨wr.heap.size, 6, none⟩ = some (.int .i64 pr) := HX6.out.cell' rfl
        have x7 : w6.cell? ⟨wr.heap.size, 7, none⟩ = some (.int .u64 ttl) := HX6.out.cell' rfl
        have x8 : w6.cell? ⟨wr.heap.size, 8, none⟩ = some (.slice Au us.length cu) := HX6.out.cell' rfl
        have x9 : w6.cell? ⟨wr.heap.size, 9, none⟩ = some (.int .u64 by_) := HX6.out.cell' rfl
        have lx := HX6.out.lt
        have HTM := fun (W : World) (hB : Below w6.heap.size w6 W) => time (H6.out.tab.below hB)
        have hU := H6.out.tab
        have hr3 : a'.seq ≤ (j : Int) + 1 := by rw [HA.out]; split <;> first | (rw [sat_one (by omega)]; omega) | omega
        have hr4 : Door.U a'.now := by rw [HN.out]; split <;> first | exact Door.sat_U hnb hby | exact hnb
        clear hU
        by_cases h0 : d % 3 = 0
        · have e0 : ((d : Int) % 3 == 0) = true := by simp; omega
          have hw2 : a'.now = a.now := by rw [HN.out, if_neg (by show ¬ (d : Int) % 3 = 1; omega)]
          have IN6 := Lib.hid ((HG.out.op.in_).below H6.out.bel)
          cases hg : goodB ⟨kind, user, id, st, pr, ttl, Au, cu, us⟩ with
          | false =>
            have hcn : counts a.n ⟨(d : Int), qw, ⟨kind, user, id, st, pr, ttl, Au, cu, us⟩, by_⟩ = false := by
              unfold counts
              rw [if_neg (by show ¬ (d : Int) % 3 = 1; omega), if_neg (by show ¬ (d : Int) % 3 = 2; omega)]
              exact decide_eq_false fun hx => by have h1 := hx.1; have h2 := hx.2.1; have h3 := hx.2.2; simp only at h1 h2 h3; rw [hg] at h1; cases h1
            have hs2 : a'.seq = a.seq := by rw [HA.out, hcn]; rfl
            have HTM2 := HTM
            rw [hs2, hw2] at HTM2
            go_wp2_with fail
            refine (bad ⟨kind, user, id, st, pr, ttl, Au, cu, us⟩ IN6.out (r := true) (by rw [hg]; rfl)).mono ?_
            rintro e w7 ⟨rfl, b7⟩
            have y1 : w7.cell? ⟨wr.heap.size, 1, none⟩ = some (.int .i64 qw) := (b7.cell (p := ⟨wr.heap.size, 1, none⟩) lx).trans x1
            have y2 : w7.cell? ⟨wr.heap.size, 2, none⟩ = some (.int .i64 kind) := (b7.cell (p := ⟨wr.heap.size, 2, none⟩) lx).trans x2
            have ly : wr.heap.size < w7.heap.size := Nat.lt_of_lt_of_le lx b7.size
            go_wp2_with fail
            refine (HTM2 _ b7).mono ?_
            rintro e w8 ⟨rfl, b8⟩
            go_wp2_with fail
            refine (HTM2 _ (b7.trans (b8.mono b7.size))).mono ?_
            rintro e w9 ⟨rfl, b9⟩
            have HL9 := Lib.hid (H6.out.below (b7.trans ((b8.trans (b9.mono b8.size)).mono b7.size)))
            clear b8 b9
            go_wp2_with fail
            go_roundw
            case rel => exact ⟨j + 1, S', by omega, by go_num, by rw [HR.out, hs2], by rw [HR.out, hw2], by rw [HR.out]; exact_mod_cast hr3, by rw [HR.out]; exact HL9.out⟩
            case measure => simp [intOf]; omega
          | true =>
            have hk := goodB_kind hg
            simp only at hk
            by_cases hw0 : 0 ≤ qw
            · have f0 : decide (0 ≤ qw) = true := decide_eq_true hw0
              by_cases hw8 : qw < 8
              · have f8 : decide (qw < 8) = true := decide_eq_true hw8
                by_cases hk3 : kind ≤ 3
                · have f3 : decide (kind ≤ 3) = true := decide_eq_true hk3
                  have hcn : counts a.n ⟨(d : Int), qw, ⟨kind, user, id, st, pr, ttl, Au, cu, us⟩, by_⟩ = true := by
                    unfold counts
                    rw [if_neg (by show ¬ (d : Int) % 3 = 1; omega), if_neg (by show ¬ (d : Int) % 3 = 2; omega)]
                    exact decide_eq_true ⟨hg, ⟨hw0, hw8⟩, by show kind = 1 ∨ kind = 2 ∨ kind = 3; omega⟩
                  have hs2 : a'.seq = a.seq + 1 := by rw [HA.out, hcn]; simp only [if_true]; exact sat_one (by omega)
                  have HTM2 := HTM
                  rw [hs2, hw2] at HTM2
                  have hwr : IntKind.u64.wrap (a.seq + 1) = a.seq + 1 := by unfold Door.U at hsb; rw [IntKind.wrap_u64]; omega
                  go_wp2_with fail
                  refine (bad ⟨kind, user, id, st, pr, ttl, Au, cu, us⟩ IN6.out (r := false) (by rw [hg]; rfl)).mono ?_
                  rintro e w7 ⟨rfl, b7⟩
                  have y1 : w7.cell? ⟨wr.heap.size, 1, none⟩ = some (.int .i64 qw) := (b7.cell (p := ⟨wr.heap.size, 1, none⟩) lx).trans x1
                  have y2 : w7.cell? ⟨wr.heap.size, 2, none⟩ = some (.int .i64 kind) := (b7.cell (p := ⟨wr.heap.size, 2, none⟩) lx).trans x2
                  have ly : wr.heap.size < w7.heap.size := Nat.lt_of_lt_of_le lx b7.size
                  go_wp2_with fail
                  refine (HTM2 _ b7).mono ?_
                  rintro e w8 ⟨rfl, b8⟩
                  go_wp2_with fail
                  refine (HTM2 _ (b7.trans (b8.mono b7.size))).mono ?_
                  rintro e w9 ⟨rfl, b9⟩
                  have HL9 := Lib.hid (H6.out.below (b7.trans ((b8.trans (b9.mono b8.size)).mono b7.size)))
                  clear b8 b9
                  go_wp2_with fail
                  go_roundw
                  case rel => exact ⟨j + 1, S', by omega, by go_num, by rw [HR.out, hs2], by rw [HR.out, hw2], by rw [HR.out]; exact_mod_cast hr3, by rw [HR.out]; exact HL9.out⟩
                  case measure => simp [intOf]; omega
                · have f3 : decide (kind ≤ 3) = false := decide_eq_false hk3
                  have hcn : counts a.n ⟨(d : Int), qw, ⟨kind, user, id, st, pr, ttl, Au, cu, us⟩, by_⟩ = false := by
                    unfold counts
                    rw [if_neg (by show ¬ (d : Int) % 3 = 1; omega), if_neg (by show ¬ (d : Int) % 3 = 2; omega)]
                    exact decide_eq_false fun hx => by have h1 := hx.1; have h2 := hx.2.1; have h3 := hx.2.2; simp only at h1 h2 h3; omega
                  have hs2 : a'.seq = a.seq := by rw [HA.out, hcn]; rfl
                  have HTM2 := HTM
                  rw [hs2, hw2] at HTM2
                  go_wp2_with fail
                  refine (bad ⟨kind, user, id, st, pr, ttl, Au, cu, us⟩ IN6.out (r := false) (by rw [hg]; rfl)).mono ?_
                  rintro e w7 ⟨rfl, b7⟩
                  have y1 : w7.cell? ⟨wr.heap.size, 1, none⟩ = some (.int .i64 qw) := (b7.cell (p := ⟨wr.heap.size, 1, none⟩) lx).trans x1
                  have y2 : w7.cell? ⟨wr.heap.size, 2, none⟩ = some (.int .i64 kind) := (b7.cell (p := ⟨wr.heap.size, 2, none⟩) lx).trans x2
                  have ly : wr.heap.size < w7.heap.size := Nat.lt_of_lt_of_le lx b7.size
                  go_wp2_with fail
                  refine (HTM2 _ b7).mono ?_
                  rintro e w8 ⟨rfl, b8⟩
                  go_wp2_with fail
                  refine (HTM2 _ (b7.trans (b8.mono b7.size))).mono ?_
                  rintro e w9 ⟨rfl, b9⟩
                  have HL9 := Lib.hid (H6.out.below (b7.trans ((b8.trans (b9.mono b8.size)).mono b7.size)))
                  clear b8 b9
                  go_wp2_with fail
                  go_roundw
                  case rel => exact ⟨j + 1, S', by omega, by go_num, by rw [HR.out, hs2], by rw [HR.out, hw2], by rw [HR.out]; exact_mod_cast hr3, by rw [HR.out]; exact HL9.out⟩
                  case measure => simp [intOf]; omega
              · have f8 : decide (qw < 8) = false := decide_eq_false hw8
                have hcn : counts a.n ⟨(d : Int), qw, ⟨kind, user, id, st, pr, ttl, Au, cu, us⟩, by_⟩ = false := by
                  unfold counts
                  rw [if_neg (by show ¬ (d : Int) % 3 = 1; omega), if_neg (by show ¬ (d : Int) % 3 = 2; omega)]
                  exact decide_eq_false fun hx => by have h1 := hx.1; have h2 := hx.2.1; have h3 := hx.2.2; simp only at h1 h2 h3; omega
                have hs2 : a'.seq = a.seq := by rw [HA.out, hcn]; rfl
                have HTM2 := HTM
                rw [hs2, hw2] at HTM2
                go_wp2_with fail
                refine (bad ⟨kind, user, id, st, pr, ttl, Au, cu, us⟩ IN6.out (r := false) (by rw [hg]; rfl)).mono ?_
                rintro e w7 ⟨rfl, b7⟩
                have y1 : w7.cell? ⟨wr.heap.size, 1, none⟩ = some (.int .i64 qw) := (b7.cell (p := ⟨wr.heap.size, 1, none⟩) lx).trans x1
                have y2 : w7.cell? ⟨wr.heap.size, 2, none⟩ = some (.int .i64 kind) := (b7.cell (p := ⟨wr.heap.size, 2, none⟩) lx).trans x2
                have ly : wr.heap.size < w7.heap.size := Nat.lt_of_lt_of_le lx b7.size
                go_wp2_with fail
                refine (HTM2 _ b7).mono ?_
                rintro e w8 ⟨rfl, b8⟩
                go_wp2_with fail
                refine (HTM2 _ (b7.trans (b8.mono b7.size))).mono ?_
                rintro e w9 ⟨rfl, b9⟩
                have HL9 := Lib.hid (H6.out.below (b7.trans ((b8.trans (b9.mono b8.size)).mono b7.size)))
                clear b8 b9
                go_wp2_with fail
                go_roundw
                case rel => exact ⟨j + 1, S', by omega, by go_num, by rw [HR.out, hs2], by rw [HR.out, hw2], by rw [HR.out]; exact_mod_cast hr3, by rw [HR.out]; exact HL9.out⟩
                case measure => simp [intOf]; omega
            · have f0 : decide (0 ≤ qw) = false := decide_eq_false hw0
              have hcn : counts a.n ⟨(d : Int), qw, ⟨kind, user, id, st, pr, ttl, Au, cu, us⟩, by_⟩ = false := by
                unfold counts
                rw [if_neg (by show ¬ (d : Int) % 3 = 1; omega), if_neg (by show ¬ (d : Int) % 3 = 2; omega)]
                exact decide_eq_false fun hx => by have h1 := hx.1; have h2 := hx.2.1; have h3 := hx.2.2; simp only at h1 h2 h3; omega
              have hs2 : a'.seq = a.seq := by rw [HA.out, hcn]; rfl
              have HTM2 := HTM
              rw [hs2, hw2] at HTM2
              go_wp2_with fail
              refine (bad ⟨kind, user, id, st, pr, ttl, Au, cu, us⟩ IN6.out (r := false) (by rw [hg]; rfl)).mono ?_
              rintro e w7 ⟨rfl, b7⟩
              have y1 : w7.cell? ⟨wr.heap.size, 1, none⟩ = some (.int .i64 qw) := (b7.cell (p := ⟨wr.heap.size, 1, none⟩) lx).trans x1
              have y2 : w7.cell? ⟨wr.heap.size, 2, none⟩ = some (.int .i64 kind) := (b7.cell (p := ⟨wr.heap.size, 2, none⟩) lx).trans x2
              have ly : wr.heap.size < w7.heap.size := Nat.lt_of_lt_of_le lx b7.size
              go_wp2_with fail
              refine (HTM2 _ b7).mono ?_
              rintro e w8 ⟨rfl, b8⟩
              go_wp2_with fail
              refine (HTM2 _ (b7.trans (b8.mono b7.size))).mono ?_
              rintro e w9 ⟨rfl, b9⟩
              have HL9 := Lib.hid (H6.out.below (b7.trans ((b8.trans (b9.mono b8.size)).mono b7.size)))
              clear b8 b9
              go_wp2_with fail
              go_roundw
              case rel => exact ⟨j + 1, S', by omega, by go_num, by rw [HR.out, hs2], by rw [HR.out, hw2], by rw [HR.out]; exact_mod_cast hr3, by rw [HR.out]; exact HL9.out⟩
              case measure => simp [intOf]; omega
        · have e0 : ((d : Int) % 3 == 0) = false := by simp; omega
          by_cases h1 : d % 3 = 1
          · have e1 : ((d : Int) % 3 == 1) = true := by simp; omega
            have hcn : counts a.n ⟨(d : Int), qw, ⟨kind, user, id, st, pr, ttl, Au, cu, us⟩, by_⟩ = false := by unfold counts; rw [if_pos (by show (d : Int) % 3 = 1; omega)]
            have hs2 : a'.seq = a.seq := by rw [HA.out, hcn]; rfl
            have hw2 : a'.now = Door.sat a.now by_ := by rw [HN.out, if_pos (by show (d : Int) % 3 = 1; omega)]
            have HTM2 := HTM
            rw [hs2, hw2] at HTM2
            unfold Door.U Door.top at hnb
            by_cases hz : by_ = 0
            · subst hz
              have hsat : Door.sat a.now 0 = a.now := by unfold Door.sat Door.top; rw [if_pos (by omega)]; omega
              rw [hsat] at HTM2 hw2
              have hwr : IntKind.u64.wrap a.now = a.now := by rw [IntKind.wrap_u64]; omega
              have g1 : decide (a.now < 0) = false := by simp; omega
              by_cases hm : a.now = 18446744073709551615
              · rw [hm] at HTM2 hw2 hwr g1
                have hmm : (a.now == 18446744073709551615) = true := by simp [hm]
                have HA2 := Lib.hid hm
                go_wp2_with fail
                refine (HTM2 _ (Below.refl _ _)).mono ?_
                rintro e w7 ⟨rfl, b7⟩
                go_wp2_with fail
                refine (HTM2 _ b7).mono ?_
                rintro e w8 ⟨rfl, b8⟩
                go_wp2_with fail
                refine (HTM2 _ (b7.trans (b8.mono b7.size))).mono ?_
                rintro e w9 ⟨rfl, b9⟩
                have HL9 := Lib.hid (H6.out.below (b7.trans ((b8.trans (b9.mono b8.size)).mono b7.size)))
                clear b8 b9
                go_wp2_with fail
                go_roundw
                case rel => exact ⟨j + 1, S', by omega, by go_num, by rw [HR.out, hs2], by rw [HR.out, hw2], by rw [HR.out]; exact_mod_cast hr3, by rw [HR.out]; exact HL9.out⟩
                case measure => simp [intOf]; omega
              · have hmm : (a.now == 18446744073709551615) = false := by simpa using hm
                go_wp2_with fail
                refine (HTM2 _ (Below.refl _ _)).mono ?_
                rintro e w7 ⟨rfl, b7⟩
                go_wp2_with fail
                refine (HTM2 _ b7).mono ?_
                rintro e w8 ⟨rfl, b8⟩
                go_wp2_with fail
                refine (HTM2 _ (b7.trans (b8.mono b7.size))).mono ?_
                rintro e w9 ⟨rfl, b9⟩
                have HL9 := Lib.hid (H6.out.below (b7.trans ((b8.trans (b9.mono b8.size)).mono b7.size)))
                clear b8 b9
                go_wp2_with fail
                go_roundw
                case rel => exact ⟨j + 1, S', by omega, by go_num, by rw [HR.out, hs2], by rw [HR.out, hw2], by rw [HR.out]; exact_mod_cast hr3, by rw [HR.out]; exact HL9.out⟩
                case measure => simp [intOf]; omega
            · by_cases ho : a.now + by_ < 18446744073709551615
              · have hwr : IntKind.u64.wrap (a.now + by_) = a.now + by_ := by rw [IntKind.wrap_u64]; omega
                have hsat : Door.sat a.now by_ = a.now + by_ := by unfold Door.sat Door.top; rw [if_pos (by omega)]
                rw [hsat] at HTM2 hw2
                have g1 : decide (a.now + by_ < by_) = false := by simp; omega
                have g2 : (a.now + by_ == 18446744073709551615) = false := by simp; omega
                go_wp2_with fail
                refine (HTM2 _ (Below.refl _ _)).mono ?_
                rintro e w7 ⟨rfl, b7⟩
                go_wp2_with fail
                refine (HTM2 _ b7).mono ?_
                rintro e w8 ⟨rfl, b8⟩
                go_wp2_with fail
                refine (HTM2 _ (b7.trans (b8.mono b7.size))).mono ?_
                rintro e w9 ⟨rfl, b9⟩
                have HL9 := Lib.hid (H6.out.below (b7.trans ((b8.trans (b9.mono b8.size)).mono b7.size)))
                clear b8 b9
                go_wp2_with fail
                go_roundw
                case rel => exact ⟨j + 1, S', by omega, by go_num, by rw [HR.out, hs2], by rw [HR.out, hw2], by rw [HR.out]; exact_mod_cast hr3, by rw [HR.out]; exact HL9.out⟩
                case measure => simp [intOf]; omega
              · by_cases ho2 : a.now + by_ = 18446744073709551615
                · have hsat : Door.sat a.now by_ = 18446744073709551615 := by unfold Door.sat Door.top; rw [if_pos (by omega)]; omega
                  rw [hsat] at HTM2 hw2
                  have hwr : IntKind.u64.wrap (a.now + by_) = 18446744073709551615 := by rw [IntKind.wrap_u64]; omega
                  have g1 : decide ((18446744073709551615 : Int) < by_) = false := by simp; omega
                  go_wp2_with fail
                  refine (HTM2 _ (Below.refl _ _)).mono ?_
                  rintro e w7 ⟨rfl, b7⟩
                  go_wp2_with fail
                  refine (HTM2 _ b7).mono ?_
                  rintro e w8 ⟨rfl, b8⟩
                  go_wp2_with fail
                  refine (HTM2 _ (b7.trans (b8.mono b7.size))).mono ?_
                  rintro e w9 ⟨rfl, b9⟩
                  have HL9 := Lib.hid (H6.out.below (b7.trans ((b8.trans (b9.mono b8.size)).mono b7.size)))
                  clear b8 b9
                  go_wp2_with fail
                  go_roundw
                  case rel => exact ⟨j + 1, S', by omega, by go_num, by rw [HR.out, hs2], by rw [HR.out, hw2], by rw [HR.out]; exact_mod_cast hr3, by rw [HR.out]; exact HL9.out⟩
                  case measure => simp [intOf]; omega
                · have hsat : Door.sat a.now by_ = 18446744073709551615 := by unfold Door.sat Door.top; rw [if_neg (by omega)]
                  rw [hsat] at HTM2 hw2
                  have hwr : IntKind.u64.wrap (a.now + by_) = a.now + by_ - 18446744073709551616 := by rw [IntKind.wrap_u64]; omega
                  by_cases hc : a.now < by_
                  · have g1 : decide (a.now < by_) = true := decide_eq_true hc
                    go_wp2_with fail
                    refine (HTM2 _ (Below.refl w6.heap.size w6)).mono ?_
                    rintro e w8 ⟨rfl, b8⟩
                    go_wp2_with fail
                    refine (HTM2 _ ((Below.refl w6.heap.size w6).trans (b8.mono (Below.refl w6.heap.size w6).size))).mono ?_
                    rintro e w9 ⟨rfl, b9⟩
                    have HL9 := Lib.hid (H6.out.below ((Below.refl w6.heap.size w6).trans ((b8.trans (b9.mono b8.size)).mono (Below.refl w6.heap.size w6).size)))
                    clear b8 b9
                    go_wp2_with fail
                    go_roundw
                    case rel => exact ⟨j + 1, S', by omega, by go_num, by rw [HR.out, hs2], by rw [HR.out, hw2], by rw [HR.out]; exact_mod_cast hr3, by rw [HR.out]; exact HL9.out⟩
                    case measure => simp [intOf]; omega
                  · have g1 : decide (a.now < by_) = false := decide_eq_false hc
                    go_wp2_with fail
                    refine (HTM2 _ (Below.refl _ _)).mono ?_
                    rintro e w7 ⟨rfl, b7⟩
                    go_wp2_with fail
                    refine (HTM2 _ b7).mono ?_
                    rintro e w8 ⟨rfl, b8⟩
                    go_wp2_with fail
                    refine (HTM2 _ (b7.trans (b8.mono b7.size))).mono ?_
                    rintro e w9 ⟨rfl, b9⟩
                    have HL9 := Lib.hid (H6.out.below (b7.trans ((b8.trans (b9.mono b8.size)).mono b7.size)))
                    clear b8 b9
                    go_wp2_with fail
                    go_roundw
                    case rel => exact ⟨j + 1, S', by omega, by go_num, by rw [HR.out, hs2], by rw [HR.out, hw2], by rw [HR.out]; exact_mod_cast hr3, by rw [HR.out]; exact HL9.out⟩
                    case measure => simp [intOf]; omega
          · have e1 : ((d : Int) % 3 == 1) = false := by simp; omega
            have hw2 : a'.now = a.now := by rw [HN.out, if_neg (by show ¬ (d : Int) % 3 = 1; omega)]
            have hmo : 0 ≤ by_ % 9 := Int.emod_nonneg _ (by decide)
            by_cases h9 : by_ % 9 < 3
            · have f9 : decide (by_ % 9 < 3) = true := decide_eq_true h9
              have hcn : counts a.n ⟨(d : Int), qw, ⟨kind, user, id, st, pr, ttl, Au, cu, us⟩, by_⟩ = true := by unfold counts; rw [if_neg (by show ¬ (d : Int) % 3 = 1; omega), if_pos (by show (d : Int) % 3 = 2; omega), HNn.out]; exact decide_eq_true ⟨hmo, h9⟩
              have hs2 : a'.seq = a.seq + 1 := by rw [HA.out, hcn]; simp only [if_true]; exact sat_one (by omega)
              have HTM2 := HTM
              rw [hs2, hw2] at HTM2
              have hwr : IntKind.u64.wrap (a.seq + 1) = a.seq + 1 := by unfold Door.U at hsb; rw [IntKind.wrap_u64]; omega
              go_wp2_with fail
              refine (HTM2 _ (Below.refl w6.heap.size w6)).mono ?_
              rintro e w8 ⟨rfl, b8⟩
              go_wp2_with fail
              refine (HTM2 _ ((Below.refl w6.heap.size w6).trans (b8.mono (Below.refl w6.heap.size w6).size))).mono ?_
              rintro e w9 ⟨rfl, b9⟩
              have HL9 := Lib.hid (H6.out.below ((Below.refl w6.heap.size w6).trans ((b8.trans (b9.mono b8.size)).mono (Below.refl w6.heap.size w6).size)))
              clear b8 b9
              go_wp2_with fail
              go_roundw
              case rel => exact ⟨j + 1, S', by omega, by go_num, by rw [HR.out, hs2], by rw [HR.out, hw2], by rw [HR.out]; exact_mod_cast hr3, by rw [HR.out]; exact HL9.out⟩
              case measure => simp [intOf]; omega
            · have f9 : decide (by_ % 9 < 3) = false := decide_eq_false h9
              have hcn : counts a.n ⟨(d : Int), qw, ⟨kind, user, id, st, pr, ttl, Au, cu, us⟩, by_⟩ = false := by unfold counts; rw [if_neg (by show ¬ (d : Int) % 3 = 1; omega), if_pos (by show (d : Int) % 3 = 2; omega), HNn.out]; exact decide_eq_false fun hx => h9 hx.2
              have hs2 : a'.seq = a.seq := by rw [HA.out, hcn]; rfl
              have HTM2 := HTM
              rw [hs2, hw2] at HTM2
              go_wp2_with fail
              refine (HTM2 _ (Below.refl w6.heap.size w6)).mono ?_
              rintro e w8 ⟨rfl, b8⟩
              go_wp2_with fail
              refine (HTM2 _ ((Below.refl w6.heap.size w6).trans (b8.mono (Below.refl w6.heap.size w6).size))).mono ?_
              rintro e w9 ⟨rfl, b9⟩
              have HL9 := Lib.hid (H6.out.below ((Below.refl w6.heap.size w6).trans ((b8.trans (b9.mono b8.size)).mono (Below.refl w6.heap.size w6).size)))
              clear b8 b9
              go_wp2_with fail
              go_roundw
              case rel => exact ⟨j + 1, S', by omega, by go_num, by rw [HR.out, hs2], by rw [HR.out, hw2], by rw [HR.out]; exact_mod_cast hr3, by rw [HR.out]; exact HL9.out⟩
              case measure => simp [intOf]; omega
      · have d1 : decide ((j : Int) < (l.length : Int)) = false := by simp; omega
        have sz := H.out.bel
        go_wp2_with fail
        go_ret
        exact ⟨rfl, sz⟩

set_option maxRecDepth 100000 in
theorem lifted (os : Os) (started : os.Started) (H : Type) (enc : TypeId × Value → H) :
    ReturnsInHanded {} Tryz.checked os 9 .any (Rows.modelSeqSpec.pre6 enc Tryz.prog Tryz.f9 Rows.modelSeqRow.domain false) (Rows.modelSeqSpec.post enc Tryz.prog Tryz.f9 false true false false) := by
  refine returnsInHanded_of_change (C := Tryz.checked) own started (by kernel_rfl) Tryz.func9
    (ChangeSpec.witness6 (enc := enc) (C := Tryz.checked) false ⟨#[], #[.slice none 0 0], []⟩ 8 (by kernel_rfl) (by kernel_rfl) (by kernel_rfl) (by kernel_rfl)) ?_
  intro W base args ds gs before hval0 hW hcnd _
  have hval : ∀ (j : Nat) t v, Tryz.f9.params[j]? = some t → args[j]? = some v → Value.okWide Tryz.prog W .any base t v := hval0
  have hW' := hW
  obtain ⟨p, q, hA0, hV, rfl, hfz, hnd⟩ := hW
  have hA : DataW.TrodAll enc Tryz.prog W 0 (fun _ => true) true Tryz.f9.params.toList args.toList ds p := hA0
  rw [Tryz.params9] at hA hval
  obtain ⟨v0, vs0, d0, ds0, p0, q0, hargs, rfl, rfl, h0, r0⟩ := trodAll_cons hA
  obtain ⟨rfl, rfl, rfl⟩ := trodAll_nil r0
  obtain rfl : args = #[v0] := by cases args; simp_all
  obtain ⟨A, c, l, rfl, hs, hl, hq⟩ := open_acts (hval 0 25 v0 rfl rfl) h0
  refine (walk l A c W hs hl hq).mono fun e W' ⟨he, bel⟩ => ?_
  subst he
  exact ⟨_, rfl, Law.post_law laidOut (by kernel_rfl) (by kernel_rfl) Tryz.underlying4 rfl (fun ds h => by match ds, h with | [_], _ => rfl) hW' bel⟩

theorem proved : Rows.ModelSeqSaid :=
  OpenClaim.holds_of_wide 9 Tryz.f9 rfl rfl rfl rfl rfl rfl rfl ⟨rfl, rfl, rfl, rfl, rfl⟩ rfl rfl rfl rfl rfl (by kernel_rfl) Tryz.func9 (by kernel_rfl)
    (of_decide_eq_true (by kernel_rfl)) (by unfold Func.isWrapper; rw [if_neg (by decide +kernel)]; exact ⟨rfl, rfl⟩)
    (fun os started H enc _ => lifted os started H enc)
#print axioms proved
end modelSeq
end Go.Proofs.YtombdjkfbjpipaaGreat
